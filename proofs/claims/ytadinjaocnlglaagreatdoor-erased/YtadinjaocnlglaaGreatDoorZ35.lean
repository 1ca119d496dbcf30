/-
  Plain: what is written is read rightly.
  Plain: a volume that was read rightly is what is written of it.
  The walk of Stock.Repair where all stripes are whole.
  The walk of Stock.Repair where all stripes are whole.
  Plain: volumes of which none is left out.
-/
import Derived.Test.YtadinjaocnlglaaGreatDoorZ34
import Derived.Test.YtadinjaocnlglaaGreatDoorZ28
namespace Go.Proofs.YtadinjaocnlglaaGreatDoor
open Go.RowKit
set_option maxRecDepth 100000
set_option maxHeartbeats 1000000
/-- a step that read well, up to what is left -/
structure Rd (s s' : RS) (l : List UInt8) : Prop where
  ok : s'.wrong = false
  text : s'.text = s.text
  ah : Ahd s' = l
theorem num_enc {s : RS} {lo n : Nat} {hi : Int} {l : List UInt8} (hw : s.wrong = false) (ha : Ahd s = vi n ++ l) (h1 : lo ≤ n) (h2 : (n : Int) ≤ hi) (h3 : n ≤ 4294967295) : (s.num lo hi).2 = n ∧ Rd s (s.num lo hi).1 l := by
  have hv : vrd (s.text.extract s.next s.text.size) = (n, (vi n).length) := vrd_enc (rest := l) (by rw [ext_end]; exact ha) h3
  have hp := vi_pos n
  have e : s.num lo hi = ({ s with field := s.next, next := s.next + (vi n).length }, n) := by
    unfold RS.num
    rw [hv, hw, if_neg (by simp), if_neg]
    rintro (h | h | h)
    · exact absurd h (by show ¬ (vi n).length = 0; omega)
    · exact absurd h (by show ¬ n < lo; omega)
    · exact absurd h (by show ¬ hi < (n : Int); omega)
  rw [e]
  refine ⟨rfl, hw, rfl, ?_⟩
  show s.text.data.toList.drop (s.next + (vi n).length) = l
  rw [← List.drop_drop]
  have : s.text.data.toList.drop s.next = vi n ++ l := ha
  rw [this, List.drop_left]
theorem bytes_enc {s : RS} {n : Nat} {x : ByteArray} {l : List UInt8} (hw : s.wrong = false) (ha : Ahd s = x.data.toList ++ l) (hn : x.size = n) : (s.bytes n).2 = x ∧ Rd s (s.bytes n).1 l := by
  have hx : x.data.toList.length = n := by rw [dl]; exact hn
  have ha' : s.text.data.toList.drop s.next = x.data.toList ++ l := ha
  have hlen : n ≤ s.text.size - s.next := by
    have := congrArg List.length ha'
    rw [List.length_drop, List.length_append, hx, dl] at this
    omega
  rw [bytes_val hw hlen]
  refine ⟨?_, hw, rfl, ?_⟩
  · apply ByteArray.ext
    apply Array.toList_inj.1
    show (s.text.extract s.next (s.next + n)).data.toList = x.data.toList
    rw [ext_list, show s.next + n - s.next = n by omega, ha', ← hx, List.take_left]
  · show s.text.data.toList.drop (s.next + n) = l
    rw [← List.drop_drop, ha', ← hx, List.drop_left]
theorem word_enc {s : RS} {x : ByteArray} {l : List UInt8} (hw : s.wrong = false) (ha : Ahd s = x.data.toList ++ l) : Rd s (s.word x) l := by
  obtain ⟨h1, h2⟩ := bytes_enc hw ha rfl
  unfold RS.word
  rw [if_pos h1]
  exact h2
theorem entry_enc {s : RS} {nm b : ByteArray} {n : Nat} {hi : Int} {l : List UInt8} (hw : s.wrong = false) (ha : Ahd s = vi nm.size ++ nm.data.toList ++ vi n ++ l) (h1 : 1 ≤ nm.size) (h2 : nm.size ≤ 255) (h3 : leT nm b = false) (h4 : (n : Int) ≤ hi) (h5 : n ≤ 4294967295) :
    (s.entry b hi).2 = (nm, n) ∧ Rd s (s.entry b hi).1 l := by
  obtain ⟨a1, a2⟩ := num_enc (lo := 1) (hi := 255) (l := nm.data.toList ++ (vi n ++ l)) hw (by rw [ha]; simp only [List.append_assoc]) h1 (by omega) (by omega)
  obtain ⟨b1, b2⟩ := bytes_enc (n := (s.num 1 255).2) a2.ok a2.ah a1.symm
  have e : s.entry b hi = (((((s.num 1 255).1.bytes (s.num 1 255).2).1.num 0 hi).1), ((s.num 1 255).1.bytes (s.num 1 255).2).2, (((s.num 1 255).1.bytes (s.num 1 255).2).1.num 0 hi).2) := by
    show (((if leT ((s.num 1 255).1.bytes (s.num 1 255).2).2 b then ((s.num 1 255).1.bytes (s.num 1 255).2).1.refuse else ((s.num 1 255).1.bytes (s.num 1 255).2).1).num 0 hi).1, _, ((if leT ((s.num 1 255).1.bytes (s.num 1 255).2).2 b then ((s.num 1 255).1.bytes (s.num 1 255).2).1.refuse else ((s.num 1 255).1.bytes (s.num 1 255).2).1).num 0 hi).2) = _
    rw [if_neg (by rw [b1, h3]; simp)]
  obtain ⟨c1, c2⟩ := num_enc (lo := 0) (hi := hi) b2.ok b2.ah (Nat.zero_le _) h4 h5
  rw [e]
  refine ⟨?_, c2.ok, c2.text.trans (b2.text.trans a2.text), c2.ah⟩
  show (((s.num 1 255).1.bytes (s.num 1 255).2).2, (((s.num 1 255).1.bytes (s.num 1 255).2).1.num 0 hi).2) = (nm, n)
  rw [b1, c1]
/-- entries behind a name: in the order of their names, no name too long -/
def EOrd : ByteArray → List (ByteArray × Nat) → Prop
  | _, [] => True
  | b, x :: r => 1 ≤ x.1.size ∧ x.1.size ≤ 255 ∧ leT x.1 b = false ∧ EOrd x.1 r
theorem ents_enc : ∀ (es : List (ByteArray × Nat)) {s : RS} {b : ByteArray} {left : Int} {acc : List (ByteArray × Nat)} {l : List UInt8}, s.wrong = false → Ahd s = enL es ++ l → EOrd b es → (lenE es : Int) ≤ left → left ≤ 4294967295 → (RS.ents es.length s b left acc).2 = acc ++ es ∧ Rd s (RS.ents es.length s b left acc).1 l
  | [], s, b, left, acc, l, hw, ha, _, _, _ => ⟨by simp [RS.ents], hw, rfl, ha⟩
  | x :: r, s, b, left, acc, l, hw, ha, ho, hs, hb => by
    have hx : lenE (x :: r) = x.2 + lenE r := by simp [lenE]
    rw [hx] at hs
    obtain ⟨a1, a2⟩ := entry_enc (nm := x.1) (b := b) (n := x.2) (hi := left) (l := enL r ++ l) hw (by rw [ha, enL_cons]; simp only [List.append_assoc]) ho.1 ho.2.1 ho.2.2.1 (by omega) (by omega)
    have e : (s.entry b left).2.1 = x.1 ∧ (s.entry b left).2.2 = x.2 := by rw [a1]; exact ⟨rfl, rfl⟩
    obtain ⟨c1, c2⟩ := ents_enc r (b := x.1) (left := left - x.2) (acc := acc ++ [(x.1, x.2)]) a2.ok a2.ah ho.2.2.2 (by omega) (by omega)
    rw [List.length_cons, RS.ents, e.1, e.2]
    exact ⟨by rw [c1, List.append_assoc]; rfl, c2.ok, c2.text.trans a2.text, c2.ah⟩
/-- params and entries that a list may hold -/
structure LOk (K M C V : Nat) (es : List (ByteArray × Nat)) : Prop where
  k1 : 1 ≤ K
  km : K + M ≤ 255
  c1 : 1 ≤ C
  c64 : C ≤ 64
  v1 : 1 ≤ V
  v16 : V ≤ 16
  len : es.length ≤ 16
  sum : lenE es ≤ 4096
  ord : EOrd ⟨#[]⟩ es
theorem list_enc {s : RS} {K M C V : Nat} {es : List (ByteArray × Nat)} {l : List UInt8} (hw : s.wrong = false) (h : LOk K M C V es) (ha : Ahd s = lstL K M C V es ++ l) : s.list.K = K ∧ s.list.M = M ∧ s.list.C = C ∧ s.list.V = V ∧ s.list.es = es ∧ Rd s s.list.st l := by
  unfold lstL at ha
  simp only [List.append_assoc] at ha
  have r0 := word_enc (x := ⟨#[86, 76, 84, 49]⟩) hw ha
  have := h.k1; have := h.km; have := h.c64; have := h.v16; have := h.len
  obtain ⟨n1, r1⟩ := num_enc (lo := 1) (hi := 255) r0.ok r0.ah h.k1 (by omega) (by omega)
  obtain ⟨n2, r2⟩ := num_enc (lo := 0) (hi := 255 - (((s.word ⟨#[86, 76, 84, 49]⟩).num 1 255).2 : Int)) r1.ok r1.ah (by omega) (by rw [n1]; omega) (by omega)
  obtain ⟨n3, r3⟩ := num_enc (lo := 1) (hi := 64) r2.ok r2.ah h.c1 (by omega) (by omega)
  obtain ⟨n4, r4⟩ := num_enc (lo := 1) (hi := 16) r3.ok r3.ah h.v1 (by omega) (by omega)
  obtain ⟨n5, r5⟩ := num_enc (lo := 0) (hi := 16) r4.ok r4.ah (by omega) (by omega) (by omega)
  obtain ⟨n6, r6⟩ := ents_enc es (b := ⟨#[]⟩) (left := 4096) (acc := []) r5.ok r5.ah h.ord (by have := h.sum; omega) (by omega)
  refine ⟨n1, n2, n3, n4, ?_, ?_, ?_, ?_⟩
  · show (RS.ents _ _ ⟨#[]⟩ 4096 []).2 = es
    rw [n5]; exact n6
  · show (RS.ents _ _ ⟨#[]⟩ 4096 []).1.wrong = false
    rw [n5]; exact r6.ok
  · show (RS.ents _ _ ⟨#[]⟩ 4096 []).1.text = s.text
    rw [n5]; exact r6.text.trans (r5.text.trans (r4.text.trans (r3.text.trans (r2.text.trans (r1.text.trans r0.text)))))
  · show Ahd (RS.ents _ _ ⟨#[]⟩ 4096 []).1 = l
    rw [n5]; exact r6.ah
end Go.Proofs.YtadinjaocnlglaaGreatDoor
namespace Go.Proofs.YtadinjaocnlglaaGreatDoor
open Go.RowKit
set_option maxRecDepth 100000
set_option maxHeartbeats 1000000
theorem told_ok2 {s : RS} (h : s.told.st.wrong = false) : ∃ (s0 : RS) (a : RS × ByteArray) (l : LT) (b : RS × Nat) (c : RS × ByteArray), s.word volM = s0 ∧ s0.bytes 32 = a ∧ a.1.list = l ∧ l.st.num 0 ((l.V : Int) - 1) = b ∧ b.1.bytes (l.cnt * 32) = c ∧ b.1.wrong = false ∧ c.1.wrong = false ∧ l.cnt ≤ 512 ∧ s.told = ⟨c.1, a.2, l.st.text.extract a.1.next l.st.next, l, b.2, c.2⟩ := by
  refine ⟨_, _, _, _, _, rfl, rfl, rfl, rfl, rfl, ?_⟩
  obtain ⟨s0, h0⟩ : ∃ x, s.word volM = x := ⟨_, rfl⟩
  obtain ⟨a, ha⟩ : ∃ x, s0.bytes 32 = x := ⟨_, rfl⟩
  obtain ⟨l, hl⟩ : ∃ x, a.1.list = x := ⟨_, rfl⟩
  obtain ⟨b, hb⟩ : ∃ x, l.st.num 0 ((l.V : Int) - 1) = x := ⟨_, rfl⟩
  have e : s.told = if b.1.wrong then ⟨b.1, a.2, l.st.text.extract a.1.next l.st.next, l, b.2, ⟨#[]⟩⟩ else ⟨((if 512 < l.cnt then b.1.refuse else b.1).bytes (l.cnt * 32)).1, a.2, l.st.text.extract a.1.next l.st.next, l, b.2, ((if 512 < l.cnt then b.1.refuse else b.1).bytes (l.cnt * 32)).2⟩ := by
    rw [← hb, ← hl, ← ha, ← h0]
    rfl
  rw [e] at h ⊢
  rw [h0, ha, hl, hb]
  by_cases hw : b.1.wrong = true
  · rw [if_pos hw] at h
    rw [show (TT.mk b.1 a.2 (l.st.text.extract a.1.next l.st.next) l b.2 ⟨#[]⟩).st.wrong = b.1.wrong from rfl, hw] at h
    cases h
  · rw [if_neg hw] at h ⊢
    have hw' : b.1.wrong = false := by simpa using hw
    by_cases hc : 512 < l.cnt
    · rw [if_pos hc] at h
      have := bytes_ok h
      cases this
    · rw [if_neg hc] at h ⊢
      exact ⟨hw', h, by omega, rfl⟩
theorem ahd_len {s s' : RS} {x : List UInt8} (ht : s'.text = s.text) (hn : s.next ≤ s.text.size) (hn' : s'.next ≤ s.text.size) (h : Ahd s = x ++ Ahd s') : s'.next = s.next + x.length := by
  have := congrArg List.length h
  unfold Ahd at this
  rw [List.length_append, List.length_drop, List.length_drop, ht] at this
  simp at this
  omega
theorem ba_ext {a b : ByteArray} (h : a.data.toList = b.data.toList) : a = b := ByteArray.ext (Array.toList_inj.1 h)
theorem app_list (a b : ByteArray) : (a ++ b).data.toList = a.data.toList ++ b.data.toList := by simp [ByteArray.data_append]
/-- what is told, out of its parts -/
theorem told_dec {t : ByteArray} (h : (RS.on t).told.st.wrong = false) : t.data.toList = volM.data.toList ++ (RS.on t).told.root.data.toList ++ (RS.on t).told.lst.data.toList ++ vi (RS.on t).told.num ++ (RS.on t).told.lv.data.toList ++ Ahd (RS.on t).told.st ∧ (RS.on t).told.lst.data.toList = lstL (RS.on t).told.L.K (RS.on t).told.L.M (RS.on t).told.L.C (RS.on t).told.L.V (RS.on t).told.L.es ∧ (RS.on t).told.root.size = 32 := by
  obtain ⟨s0, a, l, b, c, h0, ha, hl, hb, hc, hbw, hcw, hcnt, e⟩ := told_ok2 h
  rw [e]
  have d4 : Ahd b.1 = c.2.data.toList ++ Ahd c.1 := by rw [← hc] at hcw ⊢; exact bytes_dec hcw
  have d3 : Ahd l.st = vi b.2 ++ Ahd b.1 := by rw [← hb] at hbw ⊢; exact num_dec hbw
  have hlw : l.st.wrong = false := by rw [← hb] at hbw; exact (num_ok hbw).1
  have d2 : Ahd a.1 = lstL l.K l.M l.C l.V l.es ++ Ahd l.st := by rw [← hl] at hlw ⊢; exact list_dec hlw
  have haw : a.1.wrong = false := by rw [← hl] at hlw; exact (list_ok hlw).1
  have d1 : Ahd s0 = a.2.data.toList ++ Ahd a.1 := by rw [← ha] at haw ⊢; exact bytes_dec haw
  have h0w : s0.wrong = false := by rw [← ha] at haw; exact bytes_ok haw
  have d0 : Ahd (RS.on t) = volM.data.toList ++ Ahd s0 := by rw [← h0] at h0w ⊢; exact word_dec h0w
  have hsz : a.2.size = 32 := by rw [← ha] at haw ⊢; exact bytes_sz haw
  have n0 : Nt s0 := by rw [← h0]; exact word_nt (Nat.zero_le _) _
  have na : Nt a.1 := by rw [← ha]; exact bytes_nt n0 _
  have nl : Nt l.st := by rw [← hl]; exact list_nt na
  have tx : l.st.text = a.1.text := by rw [← hl]; exact (list_adv a.1).1
  have hnx := ahd_len tx na (by rw [← tx]; exact nl) d2
  have hlst : (l.st.text.extract a.1.next l.st.next).data.toList = lstL l.K l.M l.C l.V l.es := by
    rw [ext_list, tx, hnx, show a.1.next + (lstL l.K l.M l.C l.V l.es).length - a.1.next = (lstL l.K l.M l.C l.V l.es).length by omega]
    have : a.1.text.data.toList.drop a.1.next = lstL l.K l.M l.C l.V l.es ++ Ahd l.st := d2
    rw [this, List.take_left]
  refine ⟨?_, hlst, hsz⟩
  show t.data.toList = volM.data.toList ++ a.2.data.toList ++ (l.st.text.extract a.1.next l.st.next).data.toList ++ vi b.2 ++ c.2.data.toList ++ Ahd c.1
  rw [hlst]
  have : t.data.toList = Ahd (RS.on t) := rfl
  rw [this, d0, d1, d2, d3, d4]
  simp only [List.append_assoc]
theorem ck_dec {t : ByteArray} (h : (tCk t).1.wrong = false) : t.data.toList = (tTold t).data.toList ++ (tCk t).2.data.toList ++ (tRest t).data.toList ∧ (tTold t).data.toList = volM.data.toList ++ (RS.on t).told.root.data.toList ++ (RS.on t).told.lst.data.toList ++ vi (RS.on t).told.num ++ (RS.on t).told.lv.data.toList := by
  have hw := bytes_ok h
  obtain ⟨h1, _, _⟩ := told_dec hw
  have h2 : Ahd (RS.on t).told.st = (tCk t).2.data.toList ++ Ahd (tCk t).1 := bytes_dec h
  have hx : (RS.on t).told.st.text = t := (told_adv (RS.on t)).1
  have h3 : (tRest t).data.toList = Ahd (tCk t).1 := by unfold tRest Ahd; rw [ext_end, ck_text]
  have h4 : Ahd (RS.on t).told.st = t.data.toList.drop (RS.on t).told.st.next := by unfold Ahd; rw [hx]
  have h5 : (tTold t).data.toList = t.data.toList.take (RS.on t).told.st.next := by unfold tTold; rw [ext_list, List.drop_zero]; rfl
  constructor
  · rw [h5, h3, List.append_assoc, ← h2, h4, List.take_append_drop]
  · rw [h5]
    have := List.take_append_drop (RS.on t).told.st.next t.data.toList
    rw [← h4] at this
    rw [← this] at h1
    exact List.append_cancel_right h1
end Go.Proofs.YtadinjaocnlglaaGreatDoor
namespace Go.Proofs.YtadinjaocnlglaaGreatDoor
open Go.RowKit
set_option maxRecDepth 100000
set_option maxHeartbeats 4000000
def nmE (es : List (ByteArray × Nat)) (j : Nat) : ByteArray := ((es[j]?).getD (⟨#[]⟩, 0)).1
def lnE (es : List (ByteArray × Nat)) (j : Nat) : Nat := ((es[j]?).getD (⟨#[]⟩, 0)).2
theorem enV_get : ∀ (es : List (ByteArray × Nat)) (j : Nat), j < es.length → (enV es)[j * 2]? = some (.string (nmE es j)) ∧ (enV es)[j * 2 + 1]? = some (.int .i64 (lnE es j))
  | [], j, h => by simp at h
  | x :: r, 0, _ => by simp [enV, nmE, lnE]
  | x :: r, j + 1, h => by
    have ih := enV_get r j (by simpa using h)
    have e : enV (x :: r) = .string x.1 :: .int .i64 x.2 :: enV r := by simp [enV]
    have e1 : (j + 1) * 2 = j * 2 + 1 + 1 := by omega
    rw [e, e1]
    simp only [List.getElem?_cons_succ]
    exact ih
theorem ent_cellsE {w : World} {B nE cE : Nat} {aE : Option Addr} {es : List (ByteArray × Nat)} (hn : nE = es.length) (h : w.ownsRow B 70 2 (.slice aE nE cE) nE (enV es)) :
    ∀ j, j < nE → ∃ b, aE = some ⟨b, 0, none⟩ ∧ b < w.heap.size ∧ w.cell? ⟨b, j * 2, none⟩ = some (.string (nmE es j)) ∧ w.cell? ⟨b, j * 2 + 1, none⟩ = some (.int .i64 (lnE es j)) := by
  intro j hj
  rcases h.2 with ⟨_, h2⟩ | ⟨g, cap, cur, hv, _, hh, _⟩
  · omega
  · cases hv
    obtain ⟨h1, h2⟩ := enV_get es j (by omega)
    have c1 := h.cells (g := g) rfl _ _ h1
    have c2 := h.cells (g := g) rfl _ _ h2
    rw [Addr.add_lit] at c1 c2
    exact ⟨g, rfl, (Array.getElem?_eq_some_iff.1 hh).1, by simpa using c1, by simpa using c2⟩
theorem nmE_le {es : List (ByteArray × Nat)} (h : ∀ x ∈ es, x.1.size ≤ 255) (j : Nat) : (nmE es j).size ≤ 1000 := by
  unfold nmE
  cases hj : es[j]? with
  | none => decide
  | some x =>
    have := h x (List.mem_of_getElem? hj)
    show x.1.size ≤ 1000
    omega
theorem mem_lenE : ∀ (es : List (ByteArray × Nat)) (x : ByteArray × Nat), x ∈ es → x.2 ≤ lenE es
  | [], x, h => by cases h
  | y :: r, x, h => by
    have e : lenE (y :: r) = y.2 + lenE r := by simp [lenE]
    rcases List.mem_cons.1 h with rfl | h
    · omega
    · have := mem_lenE r x h
      omega
theorem lnE_le {es : List (ByteArray × Nat)} (h : lenE es ≤ 4096) (j : Nat) : lnE es j ≤ 100000 := by
  unfold lnE
  cases hj : es[j]? with
  | none => decide
  | some x =>
    have := mem_lenE es x (List.mem_of_getElem? hj)
    show x.2 ≤ 100000
    omega
theorem lst2_enL (h : List UInt8) (es : List (ByteArray × Nat)) : ∀ j, j ≤ es.length → lst2 h (nmE es) (lnE es) j = h ++ enL (es.take j)
  | 0, _ => by simp [lst2, enL]
  | j + 1, hj => by
    have hg : es[j]? = some (es[j]'(by omega)) := List.getElem?_eq_getElem (by omega)
    have e0 : es.take (j + 1) = es.take j ++ [es[j]'(by omega)] := by rw [List.take_add_one, hg]; rfl
    have e1 : nmE es j = (es[j]'(by omega)).1 := by unfold nmE; rw [hg]; rfl
    have e2 : lnE es j = (es[j]'(by omega)).2 := by unfold lnE; rw [hg]; rfl
    rw [lst2, lst2_enL h es j (by omega), e0, enL_app, e1, e2, vint_list, vint_list]
    simp [enL]
theorem lstT_list (K M C V : Nat) (es : List (ByteArray × Nat)) : (lstT K M C V es.length (nmE es) (lnE es)).data.toList = lstL K M C V es := by
  show (lst2 (lst1 (num5 K M C V es.length) 5) (nmE es) (lnE es) es.length) = _
  have := lst2_enL (lst1 (num5 K M C V es.length) 5) es es.length (Nat.le_refl _)
  rw [List.take_length] at this
  rw [this]
  unfold lstL
  congr 1
  simp [lst1, num5, vint_list]
/-- a whole stripe: each block that is made is good, and a good one is itself -/
theorem whole_ok {kt : Nat → Int} {T : TT} {bl : Nat → ByteArray} {s : Nat} (h : stF kt T bl s = 0) : (∀ i, i < T.n → goodB kt T.L.C T.lv (s * T.n + i) (stM kt T bl s i) = true ∧ (stH kt T bl s i = true → stM kt T bl s i = stS T bl s i)) ∧ (tz (tlT (stM kt T bl s) T.L.K T.L.C s (lenE T.L.es))).size = 0 := by
  unfold stF fate at h
  split at h
  · cases h
  · split at h
    · cases h
    · rename_i hf
      have hf' : frg kt T.L.K T.L.M T.L.C T.lv s (lenE T.L.es) (stS T bl s) (stH kt T bl s) (stM kt T bl s) = false := Bool.eq_false_iff.2 hf
      unfold frg at hf'
      split at hf'
      · rename_i ha
        refine ⟨fun i hi => ?_, by simpa using hf'⟩
        have := ha i hi
        unfold okI at this
        rw [Bool.and_eq_true] at this
        refine ⟨this.1, fun hh => ?_⟩
        have h2 := this.2
        rw [hh] at h2
        simpa using h2
      · cases hf'
theorem blD_all {kt : Nat → Int} {T : TT} {bl : Nat → ByteArray} {dn : Nat → Bool} (hn : 0 < T.n) (hd : ∀ s, s < T.L.ns → dn s = true) (ha : ∀ s, s < T.L.ns → stF kt T bl s = 0) {x : Nat} (hx : x < T.L.cnt) : blD kt T bl dn x = stM kt T bl (x / T.n) (x % T.n) ∧ x / T.n < T.L.ns := by
  have hs : x / T.n < T.L.ns := by
    rw [Nat.div_lt_iff_lt_mul hn]
    exact hx
  refine ⟨?_, hs⟩
  unfold blD
  rw [if_pos ⟨hd _ hs, ha _ hs⟩]
end Go.Proofs.YtadinjaocnlglaaGreatDoor
namespace Go.Proofs.YtadinjaocnlglaaGreatDoor
open Go.RowKit
set_option maxRecDepth 100000
set_option maxHeartbeats 4000000
/-- the list as it is written -/
def TT.ls (T : TT) : ByteArray := lstT T.L.K T.L.M T.L.C T.L.V T.L.es.length (nmE T.L.es) (lnE T.L.es)
/-- the volumes that Repair makes -/
def reV (kt : Nat → Int) (T : TT) (Bk : Nat → ByteArray) : Nat → ByteArray :=
  volT (ofT kt) (rootT (ofT kt) T.ls T.L.cnt fun i => leafT (ofT kt) (Bk i)) T.ls T.L.cnt (fun i => leafT (ofT kt) (Bk i)) Bk T.L.V
def RDidV (kt : Nat → Int) (B k g p q f : Nat) (T : TT) (un : Value) (ul : List Nat) (rd : Nat → Bool) (bl : Nat → ByteArray) (dn : Nat → Bool) (w : World) (e : Ending) (w' : World) : Prop :=
  ∃ (zs' : Nat → Nat) (bd' : Nat → Value) (gv : Nat), e = .returned (.tuple #[.slice (some ⟨gv, 0, none⟩) T.L.V T.L.V, .nilIface]) ∧ w.heap.size ≤ gv ∧ Rw w' gv T.L.V 9 (tX (reV kt T (blD kt T bl (dnS dn T.L.ns)))) ∧ VS kt B k g p q f T un ul rd bl (dnS dn T.L.ns) zs' bd' w' ∧ Fr (fun j => j = q ∨ j = f) w w'
theorem repair_ok (kt : Nat → Int) (B k g p q f : Nat) (T : TT) (un : Value) (ul : List Nat) (rd : Nat → Bool) (bl : Nat → ByteArray) (dn : Nat → Bool) (zs : Nat → Nat) (bd : Nat → Value) (w : World) (h : VS kt B k g p q f T un ul rd bl dn zs bd w) (hT : Told1 T) (hle : T.L.es.length ≤ 16 ∧ lenE T.L.es ≤ 4096) (hnm : ∀ x ∈ T.L.es, x.1.size ≤ 255) (hG : Gd kt w) (hB : B ≤ w.heap.size) (ha : ∀ s, s < T.L.ns → stF kt T bl s = 0) :
    Calls Tryz.prog 74 #[.pointer (some ⟨k, 0, none⟩)] w fun e w' => RDidV kt B k g p q f T un ul rd bl dn w e w' := by
  have H : Hid _ := h
  obtain ⟨ns, hns⟩ : ∃ x, T.L.ns = x := ⟨_, rfl⟩
  have a4 : w.cell? ⟨k, 4, none⟩ = some (.slice (some ⟨f, 0, none⟩) ns ns) := by rw [← hns]; exact cell_of_row _ _ _ _ 224 _ h.row
  have hn0 : 0 < T.n := by have := hT.k1; unfold TT.n; omega
  have hnc : ns * T.n ≤ 512 := by rw [← hns]; exact hT.cnt
  have hns2 : ns ≤ 512 := by have : ns * 1 ≤ ns * T.n := Nat.mul_le_mul_left ns hn0; omega
  have HNS : Hid _ := hns
  have HA : Hid _ := ha
  have HVOL : Hid (∀ (X : World) (zs' : Nat → Nat) (bd' : Nat → Value), VS kt B k g p q f T un ul rd bl (dnS dn ns) zs' bd' X → Gd kt X → ∀ aE kE, X.cell? ⟨g, 6, none⟩ = some (.slice aE T.L.es.length kE) → Calls Tryz.prog 124 #[.agg #[.int .i64 T.L.K, .int .i64 T.L.M, .int .i64 T.L.C, .int .i64 T.L.V], .slice aE T.L.es.length kE, .slice (some ⟨q, 0, none⟩) T.L.cnt T.L.cnt] X fun e w' => ∃ gv s, e = .returned (.tuple #[.slice (some ⟨gv, 0, none⟩) T.L.V T.L.V, .string s]) ∧ X.heap.size ≤ gv ∧ Rw w' gv T.L.V 9 (tX (reV kt T (blD kt T bl (dnS dn ns)))) ∧ Below X.heap.size X w') := fun X zs' bd' hX hGX aE kE hcE => by
    have := hT.km; have := hT.c64; have := hT.v16; have := hT.v1; have := hT.cnt; have := hle.1
    obtain ⟨aE', kE', num, first, vB, hg, hoE⟩ := hX.hd
    have hc6 : X.cell? ⟨g, 6, none⟩ = some (.slice aE' T.L.es.length kE') := cell_of_row _ _ _ _ 319 _ hg
    rw [hc6] at hcE
    cases hcE
    have hbl : ∀ i, i < T.L.cnt → (blD kt T bl (dnS dn ns) i).size ≤ 1000 := fun i hi => by
      obtain ⟨e1, e2⟩ := blD_all (kt := kt) (bl := bl) (dn := dnS dn ns) hn0 (fun s hs => by rw [hns] at hs; simp [dnS, hs]) ha hi
      rw [e1, goodB_size ((whole_ok (ha _ e2)).1 _ (Nat.mod_lt _ hn0)).1]
      omega
    rcases Nat.eq_zero_or_pos T.L.cnt with h0 | h0
    · refine Calls.mono (by rw [h0]; exact volumes_zero kt T.L.K T.L.M T.L.C T.L.V T.L.es.length kE q aE (nmE T.L.es) (lnE T.L.es) (blD kt T bl (dnS dn ns)) X (by omega) (by omega) (by omega) (by omega) (by omega) (by omega) (nmE_le hnm) (lnE_le hle.2) (ent_cellsE rfl hoE) hGX) ?_
      rintro e w' ⟨gv, he, h1, h2, h3⟩
      refine ⟨gv, _, he, h1, ?_, h3⟩
      unfold reV TT.ls
      rw [h0]
      exact h2
    · refine Calls.mono (volumes_some kt T.L.K T.L.M T.L.C T.L.V T.L.es.length kE T.L.cnt T.L.cnt q aE (nmE T.L.es) (lnE T.L.es) (blD kt T bl (dnS dn ns)) X (by omega) (by omega) (by omega) (by omega) (by omega) (by omega) (nmE_le hnm) (lnE_le hle.2) (ent_cellsE rfl hoE) h0 (by omega) (Nat.le_refl _) hbl (Array.getElem?_eq_some_iff.1 hX.blR).1 (fun i hi => hX.blR.cell i hi) hGX) ?_
      rintro e w' ⟨gv, he, h1, h2, h3⟩
      exact ⟨gv, _, he, h1, h2, h3⟩
  clear h
  go_enter Tryz.func74, Tryz.ntmps74
  go_wp2_with fail
  clear a4
  go_loopw [14] (fun sv wr => ∃ (s : Nat) (zs' : Nat → Nat) (bd' : Nat → Value), s ≤ ns ∧ sv = .int .i64 s ∧ VS kt B k g p q f T un ul rd bl (dnS dn s) zs' bd' wr ∧ Fr (fun j => j = q ∨ j = f) w wr) (fun sv _ => ns - (intOf sv).toNat)
  case atStart => exact ⟨0, zs, bd, by omega, rfl, by rw [dnS_0]; exact H.out, Fr.refl _ _⟩
  case round =>
    obtain ⟨s, zs', bd', hsn, rfl, hJ, hF⟩ := hrel
    have HJ : Hid _ := hJ
    have HF : Hid _ := hF
    by_cases hlt : s < ns
    · have HST : Hid _ := stripe_any kt B k g p q f s T un ul rd bl (dnS dn s) zs' bd' wr hJ hT hle (H.out.gd hG hF) (Nat.le_trans hB hF.size) (by rw [hns]; exact hlt)
      have hin : (s : Int) < (ns : Int) := by omega
      clear hJ hF
      go_wp2_with fail
      refine Calls.mono HST.out ?_
      rintro e w1 ⟨zs1, bd1, rfl, hv1, hF1, _, _⟩
      rw [dnS_step] at hv1
      have hds : dnS dn (s + 1) s = true := by simp [dnS]
      obtain ⟨zr, _⟩ := hv1.fn s (by rw [hns]; exact hlt) hds
      rw [ha s (by rw [hns]; exact hlt)] at zr
      obtain ⟨z, hz⟩ : ∃ z, zs1 s = z := ⟨_, rfl⟩
      rw [hz] at zr ⊢
      have d1 : w1.cell? ⟨z, 1, none⟩ = some (.int .i64 0) := cell_of_row _ _ _ _ 231 _ zr
      have HV1 : Hid _ := hv1
      have HF1 : Hid _ := HF.out.trans' hF1
      clear hv1 hF1 zr hz
      go_wp2_with fail
      go_roundw
      case rel => exact ⟨s + 1, zs1, bd1, by omega, by go_num, HV1.out, HF1.out⟩
      case measure => simp [intOf]; omega
    · have es : s = ns := by omega
      subst es
      obtain ⟨aE, kE, num, first, vB, hg, hoE⟩ := hJ.hd
      have HVC : Hid (∀ X : World, Below wr.heap.size wr X → Calls Tryz.prog 124 #[.agg #[.int .i64 T.L.K, .int .i64 T.L.M, .int .i64 T.L.C, .int .i64 T.L.V], .slice aE T.L.es.length kE, .slice (some ⟨q, 0, none⟩) T.L.cnt T.L.cnt] X fun e w' => ∃ gv s', e = .returned (.tuple #[.slice (some ⟨gv, 0, none⟩) T.L.V T.L.V, .string s']) ∧ X.heap.size ≤ gv ∧ Rw w' gv T.L.V 9 (tX (reV kt T (blD kt T bl (dnS dn s)))) ∧ Below X.heap.size X w') := fun X hX =>
        HVOL.out X zs' bd' (hJ.below hX) ((H.out.gd hG hF).below hX) aE kE (cell_of_row _ _ _ _ 319 _ ((hX.block g (Array.getElem?_eq_some_iff.1 hg).1).trans hg))
      obtain ⟨K, hKe⟩ : ∃ x, T.L.K = x := ⟨_, rfl⟩
      obtain ⟨M, hMe⟩ : ∃ x, T.L.M = x := ⟨_, rfl⟩
      obtain ⟨C, hCe⟩ : ∃ x, T.L.C = x := ⟨_, rfl⟩
      obtain ⟨V, hVe⟩ : ∃ x, T.L.V = x := ⟨_, rfl⟩
      obtain ⟨cn, hcn⟩ : ∃ x, T.L.cnt = x := ⟨_, rfl⟩
      obtain ⟨ne, hne⟩ : ∃ x, T.L.es.length = x := ⟨_, rfl⟩
      have HCE : Hid (∀ X : World, Below wr.heap.size wr X → X.cell? ⟨k, 0, none⟩ = some (.pointer (some ⟨g, 0, none⟩)) ∧ X.cell? ⟨k, 3, none⟩ = some (.slice (some ⟨q, 0, none⟩) cn cn) ∧ X.cell? ⟨g, 2, none⟩ = some (.int .i64 K) ∧ X.cell? ⟨g, 3, none⟩ = some (.int .i64 M) ∧ X.cell? ⟨g, 4, none⟩ = some (.int .i64 C) ∧ X.cell? ⟨g, 5, none⟩ = some (.int .i64 V) ∧ X.cell? ⟨g, 6, none⟩ = some (.slice aE ne kE)) := fun X hX => by
        have e1 := (hX.block g (Array.getElem?_eq_some_iff.1 hg).1).trans hg
        have e2 := (hJ.below hX).row
        rw [← hKe, ← hMe, ← hCe, ← hVe, ← hcn, ← hne]
        exact ⟨cell_of_row _ _ _ _ 224 _ e2, cell_of_row _ _ _ _ 224 _ e2, cell_of_row _ _ _ _ 319 _ e1, cell_of_row _ _ _ _ 319 _ e1, cell_of_row _ _ _ _ 319 _ e1, cell_of_row _ _ _ _ 319 _ e1, cell_of_row _ _ _ _ 319 _ e1⟩
      rw [hKe, hMe, hCe, hVe, hcn, hne] at HVC
      obtain ⟨b0, b3, b2, b4, b5, b6, b7⟩ := HCE.out wr (Below.refl _ _)
      obtain ⟨RV, hRV⟩ : ∃ x, reV kt T (blD kt T bl (dnS dn s)) = x := ⟨_, rfl⟩
      rw [hRV] at HVC
      have HRV : Hid _ := hRV
      have HVE : Hid _ := hVe
      clear hJ hF hg hoE hKe hMe hCe hVe hcn hne hRV
      go_wp2_with fail
      go_region_held3 (fun X => X.cell? ⟨k, 0, none⟩ = some (.pointer (some ⟨g, 0, none⟩)) ∧ X.cell? ⟨k, 3, none⟩ = some (.slice (some ⟨q, 0, none⟩) cn cn) ∧ X.cell? ⟨g, 2, none⟩ = some (.int .i64 K) ∧ X.cell? ⟨g, 3, none⟩ = some (.int .i64 M) ∧ X.cell? ⟨g, 4, none⟩ = some (.int .i64 C) ∧ X.cell? ⟨g, 5, none⟩ = some (.int .i64 V) ∧ X.cell? ⟨g, 6, none⟩ = some (.slice aE ne kE)) (go_keep) ((go_at_call 124; refine Calls.mono (HVC.out _ (by first | exact Below.refl _ _ | exact (Below.refl _ _).drew)) ?_; rintro e w1 ⟨gv, s', rfl, hgv, hRw, hb1⟩; have hB1 : Below wr.heap.size wr w1 := (by first | exact hb1 | exact ((Below.refl _ _).drew).trans hb1); obtain ⟨q0, q3, q2, q4, q5, q6, q7⟩ := HCE.out w1 hB1; have hgv1 : wr.heap.size ≤ gv := hgv))
      have HB1 : Hid _ := hB1
      have HRW : Hid (Rw w1 gv V 9 (tX RV)) := hRw
      have HGV : Hid _ := hgv1
      clear hB1 hb1 hRw hgv hgv1 q0 q2 q3 q4 q5 q6 q7 b0 b2 b3 b4 b5 b6 b7
      go_wp2_with fail
      go_ret2
      refine ⟨zs', bd', gv, by rw [HVE.out]; rfl, Nat.le_trans HF.out.size HGV.out, ?_, ?_, HF.out.thenBelow HB1.out⟩
      · rw [HNS.out, HRV.out, HVE.out]; exact HRW.out
      · rw [HNS.out]; exact HJ.out.below HB1.out
end Go.Proofs.YtadinjaocnlglaaGreatDoor
namespace Go.Proofs.YtadinjaocnlglaaGreatDoor
open Go.RowKit
set_option maxRecDepth 100000
set_option maxHeartbeats 1000000
/-- what a text tells -/
def tT (t : ByteArray) : TT := (RS.on t).told
def nB (t : ByteArray) : Nat := (tRest t).size / (tT t).L.C
def rdL (L : Nat → ByteArray) : Nat → Nat → Bool
  | 0 => noR
  | i + 1 => updB (rdL L i) (tT (L i)).num true
def blL (L : Nat → ByteArray) : Nat → Nat → ByteArray
  | 0 => noT
  | i + 1 => laid (blL L i) (tT (L i)).first (nB (L i)) (pc (tRest (L i)) (tT (L i)).L.C)
/-- what Open has when the first i texts were all taken -/
def stO (L : Nat → ByteArray) (i : Nat) : OS := ⟨[], if i = 0 then none else some (L 0), rdL L i, blL L i⟩
def Same3 (a b : ByteArray) : Prop := (tT a).root = (tT b).root ∧ (tT a).lst = (tT b).lst ∧ (tT a).lv = (tT b).lv
/-- volumes of one vault, each number once -/
def GoodL (kt : Nat → Int) (rt : ByteArray) (L : Nat → ByteArray) (n : Nat) : Prop := ∀ j, j < n → sdE kt rt (L j) = none ∧ Same3 (L 0) (L j) ∧ ∀ k, k < j → (tT (L k)).num ≠ (tT (L j)).num
theorem rdL_iff (L : Nat → ByteArray) : ∀ i v, rdL L i v = true ↔ ∃ j, j < i ∧ (tT (L j)).num = v
  | 0, v => by
    constructor
    · intro h; cases h
    · rintro ⟨j, hj, _⟩; omega
  | i + 1, v => by
    rw [rdL]
    unfold updB
    by_cases e : v = (tT (L i)).num
    · rw [if_pos e]
      exact ⟨fun _ => ⟨i, by omega, e.symm⟩, fun _ => rfl⟩
    · rw [if_neg e, rdL_iff L i v]
      constructor
      · rintro ⟨j, hj, h⟩; exact ⟨j, by omega, h⟩
      · rintro ⟨j, hj, h⟩
        by_cases ej : j = i
        · subst ej; exact absurd h.symm e
        · exact ⟨j, by omega, h⟩
theorem stO_ok {kt : Nat → Int} {rt : ByteArray} {L : Nat → ByteArray} {i : Nat} (hs : sdE kt rt (L i) = none) (hc : i = 0 ∨ (Same3 (L 0) (L i) ∧ rdL L i (tT (L i)).num = false)) : (stO L i).step kt rt i (L i) = .ok (stO L (i + 1)) := by
  unfold OS.step
  rw [if_neg (by rw [hs]; simp)]
  by_cases e : i = 0
  · subst e
    rfl
  · have hh : (stO L i).hd = some (L 0) := by unfold stO; rw [if_neg e]
    rw [hh]
    rcases hc with h0 | ⟨hS, hr⟩
    · exact absurd h0 e
    · show (if (tT (L 0)).root = (tT (L i)).root ∧ (tT (L 0)).lst = (tT (L i)).lst ∧ (tT (L 0)).lv = (tT (L i)).lv then (if rdL L i (tT (L i)).num then Except.error (13, i) else .ok ((stO L i).take (L i))) else .error (12, i)) = _
      rw [if_pos (show (tT (L 0)).root = (tT (L i)).root ∧ (tT (L 0)).lst = (tT (L i)).lst ∧ (tT (L 0)).lv = (tT (L i)).lv from hS), hr, if_neg (by simp)]
      congr 1
      unfold stO OS.take
      rw [if_neg e]
      rfl
theorem stO_bad {kt : Nat → Int} {rt : ByteArray} {L : Nat → ByteArray} {i : Nat} {s : OS} (hs : sdE kt rt (L i) = none) (h : (stO L i).step kt rt i (L i) = .ok s) : i = 0 ∨ (Same3 (L 0) (L i) ∧ rdL L i (tT (L i)).num = false) := by
  by_cases e : i = 0
  · exact .inl e
  · refine .inr ?_
    unfold OS.step at h
    rw [if_neg (by rw [hs]; simp)] at h
    have hh : (stO L i).hd = some (L 0) := by unfold stO; rw [if_neg e]
    rw [hh] at h
    have h' : (if (tT (L 0)).root = (tT (L i)).root ∧ (tT (L 0)).lst = (tT (L i)).lst ∧ (tT (L 0)).lv = (tT (L i)).lv then (if rdL L i (tT (L i)).num then Except.error (13, i) else .ok ((stO L i).take (L i))) else .error (12, i)) = Except.ok s := h
    split at h'
    · rename_i hS
      split at h'
      · cases h'
      · rename_i hr
        exact ⟨hS, by simpa using hr⟩
    · cases h'
theorem good_run {kt : Nat → Int} {rt : ByteArray} {L : Nat → ByteArray} : ∀ n, GoodL kt rt L n → OS.run kt rt 0 (texL L n) OS.new = .ok (stO L n)
  | 0, _ => rfl
  | n + 1, h => by
    have ih := good_run n (fun j hj => h j (by omega))
    have h1 := run_snoc kt rt (L n) _ 0 _ _ ih
    rw [texL_len, Nat.zero_add, ← texL_succ] at h1
    rw [h1]
    obtain ⟨hs, hS, hk⟩ := h n (by omega)
    refine stO_ok hs (.inr ⟨hS, ?_⟩)
    cases hr : rdL L n (tT (L n)).num with
    | false => rfl
    | true =>
      obtain ⟨j, hj, e⟩ := (rdL_iff L n _).1 hr
      exact absurd e (hk j hj)
theorem step_unm {kt : Nat → Int} {rt t : ByteArray} {i : Nat} {s s1 : OS} (h : s.step kt rt i t = .ok s1) (hu : s1.un = []) : s.un = [] ∧ sdE kt rt t = none := by
  unfold OS.step at h
  split at h
  · cases h
    simp at hu
  · rename_i hs
    have hs' : sdE kt rt t = none := by simpa using hs
    refine ⟨?_, hs'⟩
    split at h
    · cases h; exact hu
    · split at h
      · split at h
        · cases h
        · cases h; exact hu
      · cases h
theorem run_split {kt : Nat → Int} {rt : ByteArray} {L : Nat → ByteArray} {n : Nat} {s : OS} (h : OS.run kt rt 0 (texL L (n + 1)) OS.new = .ok s) : ∃ s', OS.run kt rt 0 (texL L n) OS.new = .ok s' ∧ s'.step kt rt n (L n) = .ok s := by
  cases hr : OS.run kt rt 0 (texL L n) OS.new with
  | error e =>
    have := run_err kt rt [L n] _ 0 _ _ hr
    rw [← texL_succ, h] at this
    cases this
  | ok s' =>
    have h1 := run_snoc kt rt (L n) _ 0 _ _ hr
    rw [texL_len, Nat.zero_add, ← texL_succ, h] at h1
    exact ⟨s', rfl, h1.symm⟩
theorem run_good {kt : Nat → Int} {rt : ByteArray} {L : Nat → ByteArray} : ∀ n s, OS.run kt rt 0 (texL L n) OS.new = .ok s → s.un = [] → GoodL kt rt L n ∧ s = stO L n
  | 0, s, h, _ => by
    cases h
    exact ⟨fun j hj => by omega, rfl⟩
  | n + 1, s, h, hu => by
    obtain ⟨s', h1, h2⟩ := run_split h
    obtain ⟨hu', hs⟩ := step_unm h2 hu
    obtain ⟨hG, rfl⟩ := run_good n s' h1 hu'
    have hc := stO_bad hs h2
    rw [stO_ok hs hc] at h2
    cases h2
    · refine ⟨fun j hj => ?_, rfl⟩
      by_cases ej : j = n
      · subst ej
        refine ⟨hs, ?_, fun k hk e => ?_⟩
        · rcases hc with e0 | ⟨hS, _⟩
          · subst e0; exact ⟨rfl, rfl, rfl⟩
          · exact hS
        · rcases hc with e0 | ⟨_, hr⟩
          · omega
          · have := (rdL_iff L j _).2 ⟨k, hk, e⟩
            rw [hr] at this; cases this
      · exact hG j (by omega)
/-- the head of one vault -/
theorem same3_L {kt : Nat → Int} {rt a b : ByteArray} (ha : sdE kt rt a = none) (hb : sdE kt rt b = none) (h : Same3 a b) : LEq (tT a).L (tT b).L ∧ rdE kt a = none ∧ rdE kt b = none := by
  have f : ∀ t, sdE kt rt t = none → rdE kt t = none := fun t ht => by
    unfold sdE at ht
    split at ht
    · exact ht
    · rename_i hs; simpa using hs
  have h1 := f a ha
  have h2 := f b hb
  exact ⟨same_list (bytes_ok (rd_none h1).2.1) (bytes_ok (rd_none h2).2.1) h.2.1, h1, h2⟩
end Go.Proofs.YtadinjaocnlglaaGreatDoor
