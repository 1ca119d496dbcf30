/-
  Plain: what was read rightly is what is written of it; and what is written is read rightly.
  Plain: what is written is read rightly.
  Plain: a volume that was read rightly is what is written of it.
  The walk of Stock.Repair where all stripes are whole.
  The walk of Stock.Repair where all stripes are whole.
  stock.Open at a nil list, and at a root of another size.
  A Vault: its calls behind the lock.
  Vault.Repair where all is whole; vaultkeep's whole.
-/
import Derived.Test.YtadinjaocnlglaaGreatDoorZ30
import Derived.Test.YtadinjaocnlglaaGreatDoorZ26
import Derived.Test.YtadinjaocnlglaaGreatDoorZ16
import Derived.Test.YtadinjaocnlglaaGreatDoorZ34
import Derived.Test.YtadinjaocnlglaaGreatDoorZ31
import Derived.Test.YtadinjaocnlglaaGreatDoorZ18
namespace Go.Proofs.YtadinjaocnlglaaGreatDoor
open Go.RowKit
set_option maxRecDepth 100000
set_option maxHeartbeats 1000000
/-- the bytes that lie ahead -/
def Ahd (s : RS) : List UInt8 := s.text.data.toList.drop s.next
theorem ext_list (t : ByteArray) (a b : Nat) : (t.extract a b).data.toList = (t.data.toList.drop a).take (b - a) := by
  rw [ByteArray.data_extract, Array.toList_extract, List.extract_eq_take_drop]
theorem ext_end (t : ByteArray) (a : Nat) : (t.extract a t.size).data.toList = t.data.toList.drop a := by
  rw [ext_list, List.take_of_length_le]
  rw [List.length_drop]
  simp
theorem num_dec {s : RS} {lo : Nat} {hi : Int} (h : (s.num lo hi).1.wrong = false) : Ahd s = vi (s.num lo hi).2 ++ Ahd (s.num lo hi).1 := by
  obtain ⟨e, hc⟩ := num_val h
  rw [e]
  have h2 : (vrd (s.text.extract s.next s.text.size)).2 ≠ 0 := fun x => hc (.inl x)
  have h3 := vrd_dec h2
  rw [ext_end] at h3
  show s.text.data.toList.drop s.next = _ ++ s.text.data.toList.drop (s.next + _)
  rw [← List.drop_drop]
  exact h3
theorem bytes_dec {s : RS} {n : Nat} (h : (s.bytes n).1.wrong = false) : Ahd s = (s.bytes n).2.data.toList ++ Ahd (s.bytes n).1 := by
  have hw := bytes_ok h
  have hn : n ≤ s.text.size - s.next := by
    rcases Nat.lt_or_ge (s.text.size - s.next) n with hlt | hge
    · unfold RS.bytes at h
      rw [hw, if_neg (by simp), if_pos hlt] at h
      cases h
    · exact hge
  rw [bytes_val hw hn]
  show s.text.data.toList.drop s.next = (s.text.extract s.next (s.next + n)).data.toList ++ s.text.data.toList.drop (s.next + n)
  rw [ext_list, show s.next + n - s.next = n by omega, ← List.drop_drop, List.take_append_drop]
theorem word_dec {s : RS} {t : ByteArray} (h : (s.word t).wrong = false) : Ahd s = t.data.toList ++ Ahd (s.word t) := by
  unfold RS.word at h ⊢
  by_cases e : (s.bytes t.size).2 = t
  · rw [if_pos e] at h ⊢
    have := bytes_dec h
    rw [e] at this
    exact this
  · rw [if_neg e] at h
    cases h
def enL (l : List (ByteArray × Nat)) : List UInt8 := l.flatMap fun x => vi x.1.size ++ x.1.data.toList ++ vi x.2
theorem enL_cons (x : ByteArray × Nat) (l : List (ByteArray × Nat)) : enL (x :: l) = vi x.1.size ++ x.1.data.toList ++ vi x.2 ++ enL l := by simp [enL]
theorem enL_app (l r : List (ByteArray × Nat)) : enL (l ++ r) = enL l ++ enL r := by simp [enL]
theorem entry_dec {s : RS} {b : ByteArray} {l : Int} (h : (s.entry b l).1.wrong = false) : Ahd s = vi (s.entry b l).2.1.size ++ (s.entry b l).2.1.data.toList ++ vi (s.entry b l).2.2 ++ Ahd (s.entry b l).1 := by
  have h1 := num_dec (s := if leT ((s.num 1 255).1.bytes (s.num 1 255).2).2 b then ((s.num 1 255).1.bytes (s.num 1 255).2).1.refuse else ((s.num 1 255).1.bytes (s.num 1 255).2).1) h
  have h0 := (num_ok h).1
  split at h0
  · cases h0
  · rename_i hl
    rw [if_neg hl] at h1
    have h2 := bytes_dec h0
    have h3 := bytes_ok h0
    have h4 := num_dec h3
    have h5 := bytes_sz h0
    show Ahd s = vi ((s.num 1 255).1.bytes (s.num 1 255).2).2.size ++ ((s.num 1 255).1.bytes (s.num 1 255).2).2.data.toList ++ vi (s.entry b l).2.2 ++ Ahd (s.entry b l).1
    rw [h5, h4, h2, h1, ← List.append_assoc, ← List.append_assoc]
    have e : s.entry b l = (((((s.num 1 255).1.bytes (s.num 1 255).2).1.num 0 l).1), ((s.num 1 255).1.bytes (s.num 1 255).2).2, (((s.num 1 255).1.bytes (s.num 1 255).2).1.num 0 l).2) := by
      show (((if leT ((s.num 1 255).1.bytes (s.num 1 255).2).2 b then ((s.num 1 255).1.bytes (s.num 1 255).2).1.refuse else ((s.num 1 255).1.bytes (s.num 1 255).2).1).num 0 l).1, _, ((if leT ((s.num 1 255).1.bytes (s.num 1 255).2).2 b then ((s.num 1 255).1.bytes (s.num 1 255).2).1.refuse else ((s.num 1 255).1.bytes (s.num 1 255).2).1).num 0 l).2) = _
      rw [if_neg hl]
    rw [e]
theorem ents_dec : ∀ (k : Nat) {s : RS} {nm : ByteArray} {left : Int} {acc : List (ByteArray × Nat)}, (RS.ents k s nm left acc).1.wrong = false → ∃ es, (RS.ents k s nm left acc).2 = acc ++ es ∧ es.length = k ∧ Ahd s = enL es ++ Ahd (RS.ents k s nm left acc).1
  | 0, s, nm, left, acc, _ => ⟨[], by simp [RS.ents], rfl, rfl⟩
  | k + 1, s, nm, left, acc, h => by
    obtain ⟨es, h1, h2, h3⟩ := ents_dec k (s := (s.entry nm left).1) h
    have h4 := entry_dec (ents_ok k _ _ _ _ h)
    refine ⟨((s.entry nm left).2.1, (s.entry nm left).2.2) :: es, ?_, by simp [h2], ?_⟩
    · rw [RS.ents, h1, List.append_assoc]; rfl
    · rw [enL_cons, h4, h3, List.append_assoc _ (enL es) _]; rfl
/-- a list's bytes -/
def lstL (K M C V : Nat) (es : List (ByteArray × Nat)) : List UInt8 := vltT.data.toList ++ vi K ++ vi M ++ vi C ++ vi V ++ vi es.length ++ enL es
theorem list_dec {s : RS} (h : s.list.st.wrong = false) : Ahd s = lstL s.list.K s.list.M s.list.C s.list.V s.list.es ++ Ahd s.list.st := by
  obtain ⟨es, h1, h2, h3⟩ := ents_dec _ (s := (((((s.word ⟨#[86, 76, 84, 49]⟩).num 1 255).1.num 0 (255 - (((s.word ⟨#[86, 76, 84, 49]⟩).num 1 255).2 : Int))).1.num 1 64).1.num 1 16).1.num 0 16 |>.1) h
  have w5 := ents_ok _ _ _ _ _ h
  have w4 := (num_ok w5).1
  have w3 := (num_ok w4).1
  have w2 := (num_ok w3).1
  have w1 := (num_ok w2).1
  have w0 := (num_ok w1).1
  have d5 := num_dec w5
  have d4 := num_dec w4
  have d3 := num_dec w3
  have d2 := num_dec w2
  have d1 := num_dec w1
  have d0 := word_dec w0
  have e : s.list.es = es := h1
  unfold lstL
  rw [e, h2, d0, d1, d2, d3, d4, d5, h3]
  simp only [List.append_assoc]
  rfl
end Go.Proofs.YtadinjaocnlglaaGreatDoor
namespace Go.Proofs.YtadinjaocnlglaaGreatDoor
open Go.RowKit
set_option maxRecDepth 100000
set_option maxHeartbeats 1000000
/-- a step that read well, up to what is left -/
structure Rd (s s' : RS) (l : List UInt8) : Prop where
  ok : s'.wrong = false
  text : s'.text = s.text
  ah : Ahd s' = l
theorem num_enc {s : RS} {lo n : Nat} {hi : Int} {l : List UInt8} (hw : s.wrong = false) (ha : Ahd s = vi n ++ l) (h1 : lo ≤ n) (h2 : (n : Int) ≤ hi) (h3 : n ≤ 4294967295) : (s.num lo hi).2 = n ∧ Rd s (s.num lo hi).1 l := by
  have hv : vrd (s.text.extract s.next s.text.size) = (n, (vi n).length) := vrd_enc (rest := l) (by rw [ext_end]; exact ha) h3
  have hp := vi_pos n
  have e : s.num lo hi = ({ s with field := s.next, next := s.next + (vi n).length }, n) := by
    unfold RS.num
    rw [hv, hw, if_neg (by simp), if_neg]
    rintro (h | h | h)
    · exact absurd h (by show ¬ (vi n).length = 0; omega)
    · exact absurd h (by show ¬ n < lo; omega)
    · exact absurd h (by show ¬ hi < (n : Int); omega)
  rw [e]
  refine ⟨rfl, hw, rfl, ?_⟩
  show s.text.data.toList.drop (s.next + (vi n).length) = l
  rw [← List.drop_drop]
  have : s.text.data.toList.drop s.next = vi n ++ l := ha
  rw [this, List.drop_left]
theorem bytes_enc {s : RS} {n : Nat} {x : ByteArray} {l : List UInt8} (hw : s.wrong = false) (ha : Ahd s = x.data.toList ++ l) (hn : x.size = n) : (s.bytes n).2 = x ∧ Rd s (s.bytes n).1 l := by
  have hx : x.data.toList.length = n := by rw [dl]; exact hn
  have ha' : s.text.data.toList.drop s.next = x.data.toList ++ l := ha
  have hlen : n ≤ s.text.size - s.next := by
    have := congrArg List.length ha'
    rw [List.length_drop, List.length_append, hx, dl] at this
    omega
  rw [bytes_val hw hlen]
  refine ⟨?_, hw, rfl, ?_⟩
  · apply ByteArray.ext
    apply Array.toList_inj.1
    show (s.text.extract s.next (s.next + n)).data.toList = x.data.toList
    rw [ext_list, show s.next + n - s.next = n by omega, ha', ← hx, List.take_left]
  · show s.text.data.toList.drop (s.next + n) = l
    rw [← List.drop_drop, ha', ← hx, List.drop_left]
theorem word_enc {s : RS} {x : ByteArray} {l : List UInt8} (hw : s.wrong = false) (ha : Ahd s = x.data.toList ++ l) : Rd s (s.word x) l := by
  obtain ⟨h1, h2⟩ := bytes_enc hw ha rfl
  unfold RS.word
  rw [if_pos h1]
  exact h2
theorem entry_enc {s : RS} {nm b : ByteArray} {n : Nat} {hi : Int} {l : List UInt8} (hw : s.wrong = false) (ha : Ahd s = vi nm.size ++ nm.data.toList ++ vi n ++ l) (h1 : 1 ≤ nm.size) (h2 : nm.size ≤ 255) (h3 : leT nm b = false) (h4 : (n : Int) ≤ hi) (h5 : n ≤ 4294967295) :
    (s.entry b hi).2 = (nm, n) ∧ Rd s (s.entry b hi).1 l := by
  obtain ⟨a1, a2⟩ := num_enc (lo := 1) (hi := 255) (l := nm.data.toList ++ (vi n ++ l)) hw (by rw [ha]; simp only [List.append_assoc]) h1 (by omega) (by omega)
  obtain ⟨b1, b2⟩ := bytes_enc (n := (s.num 1 255).2) a2.ok a2.ah a1.symm
  have e : s.entry b hi = (((((s.num 1 255).1.bytes (s.num 1 255).2).1.num 0 hi).1), ((s.num 1 255).1.bytes (s.num 1 255).2).2, (((s.num 1 255).1.bytes (s.num 1 255).2).1.num 0 hi).2) := by
    show (((if leT ((s.num 1 255).1.bytes (s.num 1 255).2).2 b then ((s.num 1 255).1.bytes (s.num 1 255).2).1.refuse else ((s.num 1 255).1.bytes (s.num 1 255).2).1).num 0 hi).1, _, ((if leT ((s.num 1 255).1.bytes (s.num 1 255).2).2 b then ((s.num 1 255).1.bytes (s.num 1 255).2).1.refuse else ((s.num 1 255).1.bytes (s.num 1 255).2).1).num 0 hi).2) = _
    rw [if_neg (by rw [b1, h3]; simp)]
  obtain ⟨c1, c2⟩ := num_enc (lo := 0) (hi := hi) b2.ok b2.ah (Nat.zero_le _) h4 h5
  rw [e]
  refine ⟨?_, c2.ok, c2.text.trans (b2.text.trans a2.text), c2.ah⟩
  show (((s.num 1 255).1.bytes (s.num 1 255).2).2, (((s.num 1 255).1.bytes (s.num 1 255).2).1.num 0 hi).2) = (nm, n)
  rw [b1, c1]
/-- entries behind a name: in the order of their names, no name too long -/
def EOrd : ByteArray → List (ByteArray × Nat) → Prop
  | _, [] => True
  | b, x :: r => 1 ≤ x.1.size ∧ x.1.size ≤ 255 ∧ leT x.1 b = false ∧ EOrd x.1 r
theorem ents_enc : ∀ (es : List (ByteArray × Nat)) {s : RS} {b : ByteArray} {left : Int} {acc : List (ByteArray × Nat)} {l : List UInt8}, s.wrong = false → Ahd s = enL es ++ l → EOrd b es → (lenE es : Int) ≤ left → left ≤ 4294967295 → (RS.ents es.length s b left acc).2 = acc ++ es ∧ Rd s (RS.ents es.length s b left acc).1 l
  | [], s, b, left, acc, l, hw, ha, _, _, _ => ⟨by simp [RS.ents], hw, rfl, ha⟩
  | x :: r, s, b, left, acc, l, hw, ha, ho, hs, hb => by
    have hx : lenE (x :: r) = x.2 + lenE r := by simp [lenE]
    rw [hx] at hs
    obtain ⟨a1, a2⟩ := entry_enc (nm := x.1) (b := b) (n := x.2) (hi := left) (l := enL r ++ l) hw (by rw [ha, enL_cons]; simp only [List.append_assoc]) ho.1 ho.2.1 ho.2.2.1 (by omega) (by omega)
    have e : (s.entry b left).2.1 = x.1 ∧ (s.entry b left).2.2 = x.2 := by rw [a1]; exact ⟨rfl, rfl⟩
    obtain ⟨c1, c2⟩ := ents_enc r (b := x.1) (left := left - x.2) (acc := acc ++ [(x.1, x.2)]) a2.ok a2.ah ho.2.2.2 (by omega) (by omega)
    rw [List.length_cons, RS.ents, e.1, e.2]
    exact ⟨by rw [c1, List.append_assoc]; rfl, c2.ok, c2.text.trans a2.text, c2.ah⟩
/-- params and entries that a list may hold -/
structure LOk (K M C V : Nat) (es : List (ByteArray × Nat)) : Prop where
  k1 : 1 ≤ K
  km : K + M ≤ 255
  c1 : 1 ≤ C
  c64 : C ≤ 64
  v1 : 1 ≤ V
  v16 : V ≤ 16
  len : es.length ≤ 16
  sum : lenE es ≤ 4096
  ord : EOrd ⟨#[]⟩ es
theorem list_enc {s : RS} {K M C V : Nat} {es : List (ByteArray × Nat)} {l : List UInt8} (hw : s.wrong = false) (h : LOk K M C V es) (ha : Ahd s = lstL K M C V es ++ l) : s.list.K = K ∧ s.list.M = M ∧ s.list.C = C ∧ s.list.V = V ∧ s.list.es = es ∧ Rd s s.list.st l := by
  unfold lstL at ha
  simp only [List.append_assoc] at ha
  have r0 := word_enc (x := ⟨#[86, 76, 84, 49]⟩) hw ha
  have := h.k1; have := h.km; have := h.c64; have := h.v16; have := h.len
  obtain ⟨n1, r1⟩ := num_enc (lo := 1) (hi := 255) r0.ok r0.ah h.k1 (by omega) (by omega)
  obtain ⟨n2, r2⟩ := num_enc (lo := 0) (hi := 255 - (((s.word ⟨#[86, 76, 84, 49]⟩).num 1 255).2 : Int)) r1.ok r1.ah (by omega) (by rw [n1]; omega) (by omega)
  obtain ⟨n3, r3⟩ := num_enc (lo := 1) (hi := 64) r2.ok r2.ah h.c1 (by omega) (by omega)
  obtain ⟨n4, r4⟩ := num_enc (lo := 1) (hi := 16) r3.ok r3.ah h.v1 (by omega) (by omega)
  obtain ⟨n5, r5⟩ := num_enc (lo := 0) (hi := 16) r4.ok r4.ah (by omega) (by omega) (by omega)
  obtain ⟨n6, r6⟩ := ents_enc es (b := ⟨#[]⟩) (left := 4096) (acc := []) r5.ok r5.ah h.ord (by have := h.sum; omega) (by omega)
  refine ⟨n1, n2, n3, n4, ?_, ?_, ?_, ?_⟩
  · show (RS.ents _ _ ⟨#[]⟩ 4096 []).2 = es
    rw [n5]; exact n6
  · show (RS.ents _ _ ⟨#[]⟩ 4096 []).1.wrong = false
    rw [n5]; exact r6.ok
  · show (RS.ents _ _ ⟨#[]⟩ 4096 []).1.text = s.text
    rw [n5]; exact r6.text.trans (r5.text.trans (r4.text.trans (r3.text.trans (r2.text.trans (r1.text.trans r0.text)))))
  · show Ahd (RS.ents _ _ ⟨#[]⟩ 4096 []).1 = l
    rw [n5]; exact r6.ah
end Go.Proofs.YtadinjaocnlglaaGreatDoor
namespace Go.Proofs.YtadinjaocnlglaaGreatDoor
open Go.RowKit
set_option maxRecDepth 100000
set_option maxHeartbeats 1000000
theorem told_ok2 {s : RS} (h : s.told.st.wrong = false) : ∃ (s0 : RS) (a : RS × ByteArray) (l : LT) (b : RS × Nat) (c : RS × ByteArray), s.word volM = s0 ∧ s0.bytes 32 = a ∧ a.1.list = l ∧ l.st.num 0 ((l.V : Int) - 1) = b ∧ b.1.bytes (l.cnt * 32) = c ∧ b.1.wrong = false ∧ c.1.wrong = false ∧ l.cnt ≤ 512 ∧ s.told = ⟨c.1, a.2, l.st.text.extract a.1.next l.st.next, l, b.2, c.2⟩ := by
  refine ⟨_, _, _, _, _, rfl, rfl, rfl, rfl, rfl, ?_⟩
  obtain ⟨s0, h0⟩ : ∃ x, s.word volM = x := ⟨_, rfl⟩
  obtain ⟨a, ha⟩ : ∃ x, s0.bytes 32 = x := ⟨_, rfl⟩
  obtain ⟨l, hl⟩ : ∃ x, a.1.list = x := ⟨_, rfl⟩
  obtain ⟨b, hb⟩ : ∃ x, l.st.num 0 ((l.V : Int) - 1) = x := ⟨_, rfl⟩
  have e : s.told = if b.1.wrong then ⟨b.1, a.2, l.st.text.extract a.1.next l.st.next, l, b.2, ⟨#[]⟩⟩ else ⟨((if 512 < l.cnt then b.1.refuse else b.1).bytes (l.cnt * 32)).1, a.2, l.st.text.extract a.1.next l.st.next, l, b.2, ((if 512 < l.cnt then b.1.refuse else b.1).bytes (l.cnt * 32)).2⟩ := by
    rw [← hb, ← hl, ← ha, ← h0]
    rfl
  rw [e] at h ⊢
  rw [h0, ha, hl, hb]
  by_cases hw : b.1.wrong = true
  · rw [if_pos hw] at h
    rw [show (TT.mk b.1 a.2 (l.st.text.extract a.1.next l.st.next) l b.2 ⟨#[]⟩).st.wrong = b.1.wrong from rfl, hw] at h
    cases h
  · rw [if_neg hw] at h ⊢
    have hw' : b.1.wrong = false := by simpa using hw
    by_cases hc : 512 < l.cnt
    · rw [if_pos hc] at h
      have := bytes_ok h
      cases this
    · rw [if_neg hc] at h ⊢
      exact ⟨hw', h, by omega, rfl⟩
theorem ahd_len {s s' : RS} {x : List UInt8} (ht : s'.text = s.text) (hn : s.next ≤ s.text.size) (hn' : s'.next ≤ s.text.size) (h : Ahd s = x ++ Ahd s') : s'.next = s.next + x.length := by
  have := congrArg List.length h
  unfold Ahd at this
  rw [List.length_append, List.length_drop, List.length_drop, ht] at this
  simp at this
  omega
theorem ba_ext {a b : ByteArray} (h : a.data.toList = b.data.toList) : a = b := ByteArray.ext (Array.toList_inj.1 h)
theorem app_list (a b : ByteArray) : (a ++ b).data.toList = a.data.toList ++ b.data.toList := by simp [ByteArray.data_append]
/-- what is told, out of its parts -/
theorem told_dec {t : ByteArray} (h : (RS.on t).told.st.wrong = false) : t.data.toList = volM.data.toList ++ (RS.on t).told.root.data.toList ++ (RS.on t).told.lst.data.toList ++ vi (RS.on t).told.num ++ (RS.on t).told.lv.data.toList ++ Ahd (RS.on t).told.st ∧ (RS.on t).told.lst.data.toList = lstL (RS.on t).told.L.K (RS.on t).told.L.M (RS.on t).told.L.C (RS.on t).told.L.V (RS.on t).told.L.es ∧ (RS.on t).told.root.size = 32 := by
  obtain ⟨s0, a, l, b, c, h0, ha, hl, hb, hc, hbw, hcw, hcnt, e⟩ := told_ok2 h
  rw [e]
  have d4 : Ahd b.1 = c.2.data.toList ++ Ahd c.1 := by rw [← hc] at hcw ⊢; exact bytes_dec hcw
  have d3 : Ahd l.st = vi b.2 ++ Ahd b.1 := by rw [← hb] at hbw ⊢; exact num_dec hbw
  have hlw : l.st.wrong = false := by rw [← hb] at hbw; exact (num_ok hbw).1
  have d2 : Ahd a.1 = lstL l.K l.M l.C l.V l.es ++ Ahd l.st := by rw [← hl] at hlw ⊢; exact list_dec hlw
  have haw : a.1.wrong = false := by rw [← hl] at hlw; exact (list_ok hlw).1
  have d1 : Ahd s0 = a.2.data.toList ++ Ahd a.1 := by rw [← ha] at haw ⊢; exact bytes_dec haw
  have h0w : s0.wrong = false := by rw [← ha] at haw; exact bytes_ok haw
  have d0 : Ahd (RS.on t) = volM.data.toList ++ Ahd s0 := by rw [← h0] at h0w ⊢; exact word_dec h0w
  have hsz : a.2.size = 32 := by rw [← ha] at haw ⊢; exact bytes_sz haw
  have n0 : Nt s0 := by rw [← h0]; exact word_nt (Nat.zero_le _) _
  have na : Nt a.1 := by rw [← ha]; exact bytes_nt n0 _
  have nl : Nt l.st := by rw [← hl]; exact list_nt na
  have tx : l.st.text = a.1.text := by rw [← hl]; exact (list_adv a.1).1
  have hnx := ahd_len tx na (by rw [← tx]; exact nl) d2
  have hlst : (l.st.text.extract a.1.next l.st.next).data.toList = lstL l.K l.M l.C l.V l.es := by
    rw [ext_list, tx, hnx, show a.1.next + (lstL l.K l.M l.C l.V l.es).length - a.1.next = (lstL l.K l.M l.C l.V l.es).length by omega]
    have : a.1.text.data.toList.drop a.1.next = lstL l.K l.M l.C l.V l.es ++ Ahd l.st := d2
    rw [this, List.take_left]
  refine ⟨?_, hlst, hsz⟩
  show t.data.toList = volM.data.toList ++ a.2.data.toList ++ (l.st.text.extract a.1.next l.st.next).data.toList ++ vi b.2 ++ c.2.data.toList ++ Ahd c.1
  rw [hlst]
  have : t.data.toList = Ahd (RS.on t) := rfl
  rw [this, d0, d1, d2, d3, d4]
  simp only [List.append_assoc]
theorem ck_dec {t : ByteArray} (h : (tCk t).1.wrong = false) : t.data.toList = (tTold t).data.toList ++ (tCk t).2.data.toList ++ (tRest t).data.toList ∧ (tTold t).data.toList = volM.data.toList ++ (RS.on t).told.root.data.toList ++ (RS.on t).told.lst.data.toList ++ vi (RS.on t).told.num ++ (RS.on t).told.lv.data.toList := by
  have hw := bytes_ok h
  obtain ⟨h1, _, _⟩ := told_dec hw
  have h2 : Ahd (RS.on t).told.st = (tCk t).2.data.toList ++ Ahd (tCk t).1 := bytes_dec h
  have hx : (RS.on t).told.st.text = t := (told_adv (RS.on t)).1
  have h3 : (tRest t).data.toList = Ahd (tCk t).1 := by unfold tRest Ahd; rw [ext_end, ck_text]
  have h4 : Ahd (RS.on t).told.st = t.data.toList.drop (RS.on t).told.st.next := by unfold Ahd; rw [hx]
  have h5 : (tTold t).data.toList = t.data.toList.take (RS.on t).told.st.next := by unfold tTold; rw [ext_list, List.drop_zero]; rfl
  constructor
  · rw [h5, h3, List.append_assoc, ← h2, h4, List.take_append_drop]
  · rw [h5]
    have := List.take_append_drop (RS.on t).told.st.next t.data.toList
    rw [← h4] at this
    rw [← this] at h1
    exact List.append_cancel_right h1
end Go.Proofs.YtadinjaocnlglaaGreatDoor
namespace Go.Proofs.YtadinjaocnlglaaGreatDoor
open Go.RowKit
set_option maxRecDepth 100000
set_option maxHeartbeats 4000000
def nmE (es : List (ByteArray × Nat)) (j : Nat) : ByteArray := ((es[j]?).getD (⟨#[]⟩, 0)).1
def lnE (es : List (ByteArray × Nat)) (j : Nat) : Nat := ((es[j]?).getD (⟨#[]⟩, 0)).2
theorem enV_get : ∀ (es : List (ByteArray × Nat)) (j : Nat), j < es.length → (enV es)[j * 2]? = some (.string (nmE es j)) ∧ (enV es)[j * 2 + 1]? = some (.int .i64 (lnE es j))
  | [], j, h => by simp at h
  | x :: r, 0, _ => by simp [enV, nmE, lnE]
  | x :: r, j + 1, h => by
    have ih := enV_get r j (by simpa using h)
    have e : enV (x :: r) = .string x.1 :: .int .i64 x.2 :: enV r := by simp [enV]
    have e1 : (j + 1) * 2 = j * 2 + 1 + 1 := by omega
    rw [e, e1]
    simp only [List.getElem?_cons_succ]
    exact ih
theorem ent_cellsE {w : World} {B nE cE : Nat} {aE : Option Addr} {es : List (ByteArray × Nat)} (hn : nE = es.length) (h : w.ownsRow B 70 2 (.slice aE nE cE) nE (enV es)) :
    ∀ j, j < nE → ∃ b, aE = some ⟨b, 0, none⟩ ∧ b < w.heap.size ∧ w.cell? ⟨b, j * 2, none⟩ = some (.string (nmE es j)) ∧ w.cell? ⟨b, j * 2 + 1, none⟩ = some (.int .i64 (lnE es j)) := by
  intro j hj
  rcases h.2 with ⟨_, h2⟩ | ⟨g, cap, cur, hv, _, hh, _⟩
  · omega
  · cases hv
    obtain ⟨h1, h2⟩ := enV_get es j (by omega)
    have c1 := h.cells (g := g) rfl _ _ h1
    have c2 := h.cells (g := g) rfl _ _ h2
    rw [Addr.add_lit] at c1 c2
    exact ⟨g, rfl, (Array.getElem?_eq_some_iff.1 hh).1, by simpa using c1, by simpa using c2⟩
theorem nmE_le {es : List (ByteArray × Nat)} (h : ∀ x ∈ es, x.1.size ≤ 255) (j : Nat) : (nmE es j).size ≤ 1000 := by
  unfold nmE
  cases hj : es[j]? with
  | none => decide
  | some x =>
    have := h x (List.mem_of_getElem? hj)
    show x.1.size ≤ 1000
    omega
theorem mem_lenE : ∀ (es : List (ByteArray × Nat)) (x : ByteArray × Nat), x ∈ es → x.2 ≤ lenE es
  | [], x, h => by cases h
  | y :: r, x, h => by
    have e : lenE (y :: r) = y.2 + lenE r := by simp [lenE]
    rcases List.mem_cons.1 h with rfl | h
    · omega
    · have := mem_lenE r x h
      omega
theorem lnE_le {es : List (ByteArray × Nat)} (h : lenE es ≤ 4096) (j : Nat) : lnE es j ≤ 100000 := by
  unfold lnE
  cases hj : es[j]? with
  | none => decide
  | some x =>
    have := mem_lenE es x (List.mem_of_getElem? hj)
    show x.2 ≤ 100000
    omega
theorem lst2_enL (h : List UInt8) (es : List (ByteArray × Nat)) : ∀ j, j ≤ es.length → lst2 h (nmE es) (lnE es) j = h ++ enL (es.take j)
  | 0, _ => by simp [lst2, enL]
  | j + 1, hj => by
    have hg : es[j]? = some (es[j]'(by omega)) := List.getElem?_eq_getElem (by omega)
    have e0 : es.take (j + 1) = es.take j ++ [es[j]'(by omega)] := by rw [List.take_add_one, hg]; rfl
    have e1 : nmE es j = (es[j]'(by omega)).1 := by unfold nmE; rw [hg]; rfl
    have e2 : lnE es j = (es[j]'(by omega)).2 := by unfold lnE; rw [hg]; rfl
    rw [lst2, lst2_enL h es j (by omega), e0, enL_app, e1, e2, vint_list, vint_list]
    simp [enL]
theorem lstT_list (K M C V : Nat) (es : List (ByteArray × Nat)) : (lstT K M C V es.length (nmE es) (lnE es)).data.toList = lstL K M C V es := by
  show (lst2 (lst1 (num5 K M C V es.length) 5) (nmE es) (lnE es) es.length) = _
  have := lst2_enL (lst1 (num5 K M C V es.length) 5) es es.length (Nat.le_refl _)
  rw [List.take_length] at this
  rw [this]
  unfold lstL
  congr 1
  simp [lst1, num5, vint_list]
/-- a whole stripe: each block that is made is good, and a good one is itself -/
theorem whole_ok {kt : Nat → Int} {T : TT} {bl : Nat → ByteArray} {s : Nat} (h : stF kt T bl s = 0) : (∀ i, i < T.n → goodB kt T.L.C T.lv (s * T.n + i) (stM kt T bl s i) = true ∧ (stH kt T bl s i = true → stM kt T bl s i = stS T bl s i)) ∧ (tz (tlT (stM kt T bl s) T.L.K T.L.C s (lenE T.L.es))).size = 0 := by
  unfold stF fate at h
  split at h
  · cases h
  · split at h
    · cases h
    · rename_i hf
      have hf' : frg kt T.L.K T.L.M T.L.C T.lv s (lenE T.L.es) (stS T bl s) (stH kt T bl s) (stM kt T bl s) = false := Bool.eq_false_iff.2 hf
      unfold frg at hf'
      split at hf'
      · rename_i ha
        refine ⟨fun i hi => ?_, by simpa using hf'⟩
        have := ha i hi
        unfold okI at this
        rw [Bool.and_eq_true] at this
        refine ⟨this.1, fun hh => ?_⟩
        have h2 := this.2
        rw [hh] at h2
        simpa using h2
      · cases hf'
theorem blD_all {kt : Nat → Int} {T : TT} {bl : Nat → ByteArray} {dn : Nat → Bool} (hn : 0 < T.n) (hd : ∀ s, s < T.L.ns → dn s = true) (ha : ∀ s, s < T.L.ns → stF kt T bl s = 0) {x : Nat} (hx : x < T.L.cnt) : blD kt T bl dn x = stM kt T bl (x / T.n) (x % T.n) ∧ x / T.n < T.L.ns := by
  have hs : x / T.n < T.L.ns := by
    rw [Nat.div_lt_iff_lt_mul hn]
    exact hx
  refine ⟨?_, hs⟩
  unfold blD
  rw [if_pos ⟨hd _ hs, ha _ hs⟩]
end Go.Proofs.YtadinjaocnlglaaGreatDoor
namespace Go.Proofs.YtadinjaocnlglaaGreatDoor
open Go.RowKit
set_option maxRecDepth 100000
set_option maxHeartbeats 4000000
/-- the list as it is written -/
def TT.ls (T : TT) : ByteArray := lstT T.L.K T.L.M T.L.C T.L.V T.L.es.length (nmE T.L.es) (lnE T.L.es)
/-- the volumes that Repair makes -/
def reV (kt : Nat → Int) (T : TT) (Bk : Nat → ByteArray) : Nat → ByteArray :=
  volT (ofT kt) (rootT (ofT kt) T.ls T.L.cnt fun i => leafT (ofT kt) (Bk i)) T.ls T.L.cnt (fun i => leafT (ofT kt) (Bk i)) Bk T.L.V
end Go.Proofs.YtadinjaocnlglaaGreatDoor
namespace Go.Proofs.YtadinjaocnlglaaGreatDoor
open Go.RowKit
set_option maxRecDepth 100000
set_option maxHeartbeats 1000000
theorem sopen_root (rt : ByteArray) (v : Value) (w : World) (h0 : rt.size ≠ 0) (h32 : rt.size ≠ 32) : Calls Tryz.prog 104 #[v, .string rt] w fun e w' => ∃ z, e = .returned (.tuple #[.pointer none, .iface 305 (.pointer (some ⟨z, 0, none⟩))]) ∧ w'.heap[z]? = some (.cells #[.int .i64 9, .int .i64 0, .nilIface] 307 (0, 0)) ∧ Below w.heap.size w w' := by
  have e0 : ((rt.size : Int) != 0) = true := by rw [bne_iff_ne]; omega
  have e1 : ((rt.size : Int) != 32) = true := by rw [bne_iff_ne]; omega
  have e2 : ¬ (rt.size : Int) = 0 := by omega
  have e3 : ¬ (rt.size : Int) = 32 := by omega
  go_enter Tryz.func104, Tryz.ntmps104
  go_wp2_with fail
  refine Calls.mono (at_err 9 0 w) ?_
  rintro e w1 ⟨z, rfl, hz, hB⟩
  have HZ : Hid _ := hz
  have HB : Hid _ := hB
  clear hz hB
  go_wp2_with fail
  go_ret2
  exact ⟨z, rfl, HZ.out, HB.out⟩
theorem sopen_nil (rt : ByteArray) (w : World) (hrt : rt.size = 0 ∨ rt.size = 32) : Calls Tryz.prog 104 #[.slice none 0 0, .string rt] w fun e w' => ∃ v, e = .returned (.tuple #[.pointer none, v]) ∧ ErrD 11 0 (.returned v) w' ∧ Below w.heap.size w w' := by
  obtain ⟨k, hk⟩ : ∃ k, w.heap.size = k := ⟨_, rfl⟩
  obtain ⟨X, hX⟩ : ∃ X, w.alloc (.cells (stC (.pointer none) (.slice none 0 0) (.slice none 0 0) (.slice none 0 0) (.slice none 0 0)) 224) = X := ⟨_, rfl⟩
  have hB0 : Below w.heap.size w X := by rw [← hX]; exact (Below.refl _ _).alloc (Nat.le_refl _) _
  have hr : X.heap[k]? = some (.cells (stC (.pointer none) (.slice none 0 0) (.slice none 0 0) (.slice none 0 0) (.slice none 0 0)) 224 (0, 0)) := by rw [← hX, ← hk]; exact heap_alloc_new _ _
  have c0 : X.cell? ⟨k, 0, none⟩ = some (.pointer none) := cell_of_row _ _ _ _ 224 _ hr
  have hX' : w.alloc (.cells #[.pointer none, .slice none 0 0, .slice none 0 0, .slice none 0 0, .slice none 0 0] 224) = X := hX
  have HB0 : Hid _ := hB0
  have HK : Hid _ := hk
  clear hB0 hr hX
  rcases hrt with h0 | h32
  · have h0' : (rt.size : Int) = 0 := by omega
    go_enter Tryz.func104, Tryz.ntmps104
    go_wp2_with fail
    refine wp_loop_rounds 1 ?_
    rw [rounds_succ]
    go_wp2_with fail
    refine Calls.mono (none_zero _ X) ?_
    rintro e w1 ⟨⟨z, rfl, hz⟩, hB⟩
    have HZ : Hid _ := hz
    have HB : Hid _ := hB
    clear hz hB
    go_wp2_with fail
    go_ret2
    exact ⟨_, rfl, ⟨z, rfl, HZ.out⟩, HB0.out.trans (HB.out.mono HB0.out.size)⟩
  · have h32' : (rt.size : Int) = 32 := by omega
    go_enter Tryz.func104, Tryz.ntmps104
    go_wp2_with fail
    refine wp_loop_rounds 1 ?_
    rw [rounds_succ]
    go_wp2_with fail
    refine Calls.mono (none_zero _ X) ?_
    rintro e w1 ⟨⟨z, rfl, hz⟩, hB⟩
    have HZ : Hid _ := hz
    have HB : Hid _ := hB
    clear hz hB
    go_wp2_with fail
    go_ret2
    exact ⟨_, rfl, ⟨z, rfl, HZ.out⟩, HB0.out.trans (HB.out.mono HB0.out.size)⟩
end Go.Proofs.YtadinjaocnlglaaGreatDoor
namespace Go.Proofs.YtadinjaocnlglaaGreatDoor
open Go.RowKit Go.MuLone
set_option maxRecDepth 100000
set_option maxHeartbeats 4000000
theorem VS.set {kt : Nat → Int} {B k g p q f : Nat} {T : TT} {un : Value} {ul : List Nat} {rd : Nat → Bool} {bl : Nat → ByteArray} {dn : Nat → Bool} {zs : Nat → Nat} {bd : Nat → Value} {w : World} {j : Nat} {cs : Array Value} {t : TypeId} (h : VS kt B k g p q f T un ul rd bl dn zs bd w) (hj : w.heap[j]? = some (.cells cs t (0, 0))) (ht : t = 99 ∨ t = 159) (i : Nat) (v : Value) : VS kt B k g p q f T un ul rd bl dn zs bd (w.setCell ⟨j, i, none⟩ v) :=
  h.kept (fun x c t' ht' hx => by
    rw [set_other _ _ _ _ _ (row_ne hx hj (by rcases ht with e | e <;> rcases ht' with e' | e' | e' | e' | e' | e' | e' <;> simp [e, e']))]
    exact hx) (fun x hx => by
    have h3 : ∃ cur, w.heap[x]? = some (.cells cur 3 (0, 0)) := by
      rcases hx with e | ⟨s, hs, hd, e⟩
      · exact own_type h.unO x e
      · exact own_type (h.fn s hs hd).2 x e
    obtain ⟨cur, hcur⟩ := h3
    exact set_other _ _ _ _ _ (row_ne hcur hj (by rcases ht with e | e <;> simp [e])))
theorem own_setB {w : World} {B n j : Nat} {e t : TypeId} {size : Nat} {v u : Value} {xs : List Value} {cs : Array Value} (h : w.ownsRow B e size v n xs) (hj : w.heap[j]? = some (.cells cs t (0, 0))) (ht : e ≠ t) (i : Nat) : (w.setCell ⟨j, i, none⟩ u).ownsRow B e size v n xs := own_kept h (fun y hy => by
  obtain ⟨cur, hcur⟩ := own_type h y hy
  exact set_other _ _ _ _ _ (row_ne hcur hj ht))
/-- the Vault's own block -/
def VL (v k x : Nat) (w : World) : Prop := w.heap[v]? = some (.cells (wC (x : Int) k) 159 (0, 0))
theorem VL.one {v k : Nat} {w : World} (h : VL v k 0 w) : VL v k 1 (w.setCell ⟨v, 0, none⟩ (.int .i32 1)) := by
  have := set_heap w v 0 (.int .i32 1) _ _ _ h
  simpa [wC, VL] using this
theorem VL.zero {v k : Nat} {w : World} (h : VL v k 1 w) : VL v k 0 (w.setCell ⟨v, 0, none⟩ (.int .i32 0)) := by
  have := set_heap w v 0 (.int .i32 0) _ _ _ h
  simpa [wC, VL] using this
end Go.Proofs.YtadinjaocnlglaaGreatDoor
namespace Go.Proofs.YtadinjaocnlglaaGreatDoor
open Go.RowKit
set_option maxRecDepth 100000
set_option maxHeartbeats 4000000
/-- nothing is told as wrong -/
def wholeB (kt : Nat → Int) (T : TT) (ul : List Nat) (rd : Nat → Bool) (bl : Nat → ByteArray) : Bool := decide (ul.length = 0 ∧ (abF rd T.L.V).length = 0 ∧ (baF kt T bl T.L.ns).length = 0 ∧ (fsF kt T bl 1 T.L.ns).length = 0 ∧ (fsF kt T bl 2 T.L.ns).length = 0)
end Go.Proofs.YtadinjaocnlglaaGreatDoor
