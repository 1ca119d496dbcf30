/-
  layout.Volumes where there is no block; the walk of Stock.Repair where all stripes are whole.
  Plain: what was read rightly is what is written of it; and what is written is read rightly.
  Plain: what is written is read rightly.
  Plain: a volume that was read rightly is what is written of it.
  The walk of Stock.Repair where all stripes are whole.
  The walk of Stock.Repair where all stripes are whole.
  stock.Open at a nil list, and at a root of another size.
  A Vault: its calls behind the lock.
-/
import Derived.Test.YtadinjaocnlglaaGreatDoorZ29
import Derived.Test.YtadinjaocnlglaaGreatDoorZ24
import Derived.Test.YtadinjaocnlglaaGreatDoorZ20
import Derived.Test.YtadinjaocnlglaaGreatDoorZ13
import Derived.Test.YtadinjaocnlglaaGreatDoorZ25
import Derived.Test.YtadinjaocnlglaaGreatDoorZ14
namespace Go.Proofs.YtadinjaocnlglaaGreatDoor
open Go.RowKit
set_option maxRecDepth 100000
set_option maxHeartbeats 1000000
def Ahd (s : RS) : List UInt8 := s.text.data.toList.drop s.next
theorem ext_list (t : ByteArray) (a b : Nat) : (t.extract a b).data.toList = (t.data.toList.drop a).take (b - a) := by
 rw [ByteArray.data_extract, Array.toList_extract, List.extract_eq_take_drop]
theorem ext_end (t : ByteArray) (a : Nat) : (t.extract a t.size).data.toList = t.data.toList.drop a := by
 rw [ext_list, List.take_of_length_le]
 rw [List.length_drop]
 simp
theorem num_dec {s : RS} {lo : Nat} {hi : Int} (h : (s.num lo hi).1.wrong = false) : Ahd s = vi (s.num lo hi).2 ++ Ahd (s.num lo hi).1 := by
 obtain ⟨e, hc⟩ := num_val h
 rw [e]
 have h2 : (vrd (s.text.extract s.next s.text.size)).2 ≠ 0 := fun x => hc (.inl x)
 have h3 := vrd_dec h2
 rw [ext_end] at h3
 show s.text.data.toList.drop s.next = _ ++ s.text.data.toList.drop (s.next + _)
 rw [← List.drop_drop]
 exact h3
theorem bytes_dec {s : RS} {n : Nat} (h : (s.bytes n).1.wrong = false) : Ahd s = (s.bytes n).2.data.toList ++ Ahd (s.bytes n).1 := by
 have hw := bytes_ok h
 have hn : n ≤ s.text.size - s.next := by
  rcases Nat.lt_or_ge (s.text.size - s.next) n with hlt | hge
  ·unfold RS.bytes at h
   rw [hw, if_neg (by simp), if_pos hlt] at h
   cases h
  ·exact hge
 rw [bytes_val hw hn]
 show s.text.data.toList.drop s.next = (s.text.extract s.next (s.next + n)).data.toList ++ s.text.data.toList.drop (s.next + n)
 rw [ext_list, show s.next + n - s.next = n by omega, ← List.drop_drop, List.take_append_drop]
theorem word_dec {s : RS} {t : ByteArray} (h : (s.word t).wrong = false) : Ahd s = t.data.toList ++ Ahd (s.word t) := by
 unfold RS.word at h ⊢
 by_cases e : (s.bytes t.size).2 = t
 ·rw [if_pos e] at h ⊢
  have := bytes_dec h
  rw [e] at this
  exact this
 ·rw [if_neg e] at h
  cases h
def enL (l : List (ByteArray × Nat)) : List UInt8 := l.flatMap fun x => vi x.1.size ++ x.1.data.toList ++ vi x.2
theorem enL_cons (x : ByteArray × Nat) (l : List (ByteArray × Nat)) : enL (x :: l) = vi x.1.size ++ x.1.data.toList ++ vi x.2 ++ enL l := by simp [enL]
theorem enL_app (l r : List (ByteArray × Nat)) : enL (l ++ r) = enL l ++ enL r := by simp [enL]
theorem entry_dec {s : RS} {b : ByteArray} {l : Int} (h : (s.entry b l).1.wrong = false) : Ahd s = vi (s.entry b l).2.1.size ++ (s.entry b l).2.1.data.toList ++ vi (s.entry b l).2.2 ++ Ahd (s.entry b l).1 := by
 have h1 := num_dec (s := if leT ((s.num 1 255).1.bytes (s.num 1 255).2).2 b then ((s.num 1 255).1.bytes (s.num 1 255).2).1.refuse else ((s.num 1 255).1.bytes (s.num 1 255).2).1) h
 have h0 := (num_ok h).1
 split at h0
 ·cases h0
 ·rename_i hl
  rw [if_neg hl] at h1
  have h2 := bytes_dec h0
  have h3 := bytes_ok h0
  have h4 := num_dec h3
  have h5 := bytes_sz h0
  show Ahd s = vi ((s.num 1 255).1.bytes (s.num 1 255).2).2.size ++ ((s.num 1 255).1.bytes (s.num 1 255).2).2.data.toList ++ vi (s.entry b l).2.2 ++ Ahd (s.entry b l).1
  rw [h5, h4, h2, h1, ← List.append_assoc, ← List.append_assoc]
  have e : s.entry b l = (((((s.num 1 255).1.bytes (s.num 1 255).2).1.num 0 l).1), ((s.num 1 255).1.bytes (s.num 1 255).2).2, (((s.num 1 255).1.bytes (s.num 1 255).2).1.num 0 l).2) := by
   show (((if leT ((s.num 1 255).1.bytes (s.num 1 255).2).2 b then ((s.num 1 255).1.bytes (s.num 1 255).2).1.refuse else ((s.num 1 255).1.bytes (s.num 1 255).2).1).num 0 l).1, _, ((if leT ((s.num 1 255).1.bytes (s.num 1 255).2).2 b then ((s.num 1 255).1.bytes (s.num 1 255).2).1.refuse else ((s.num 1 255).1.bytes (s.num 1 255).2).1).num 0 l).2) = _
   rw [if_neg hl]
  rw [e]
theorem ents_dec : ∀ (k : Nat) {s : RS} {nm : ByteArray} {left : Int} {acc : List (ByteArray × Nat)}, (RS.ents k s nm left acc).1.wrong = false → ∃ es, (RS.ents k s nm left acc).2 = acc ++ es ∧ es.length = k ∧ Ahd s = enL es ++ Ahd (RS.ents k s nm left acc).1
 | 0, s, nm, left, acc, _ => ⟨[], by simp [RS.ents], rfl, rfl⟩
 | k + 1, s, nm, left, acc, h => by
  obtain ⟨es, h1, h2, h3⟩ := ents_dec k (s := (s.entry nm left).1) h
  have h4 := entry_dec (ents_ok k _ _ _ _ h)
  refine ⟨((s.entry nm left).2.1, (s.entry nm left).2.2) :: es, ?_, by simp [h2], ?_⟩
  ·rw [RS.ents, h1, List.append_assoc]; rfl
  ·rw [enL_cons, h4, h3, List.append_assoc _ (enL es) _]; rfl
def lstL (K M C V : Nat) (es : List (ByteArray × Nat)) : List UInt8 := vltT.data.toList ++ vi K ++ vi M ++ vi C ++ vi V ++ vi es.length ++ enL es
theorem list_dec {s : RS} (h : s.list.st.wrong = false) : Ahd s = lstL s.list.K s.list.M s.list.C s.list.V s.list.es ++ Ahd s.list.st := by
 obtain ⟨es, h1, h2, h3⟩ := ents_dec _ (s := (((((s.word ⟨#[86, 76, 84, 49]⟩).num 1 255).1.num 0 (255 - (((s.word ⟨#[86, 76, 84, 49]⟩).num 1 255).2 : Int))).1.num 1 64).1.num 1 16).1.num 0 16 |>.1) h
 have w5 := ents_ok _ _ _ _ _ h
 have w4 := (num_ok w5).1
 have w3 := (num_ok w4).1
 have w2 := (num_ok w3).1
 have w1 := (num_ok w2).1
 have w0 := (num_ok w1).1
 have d5 := num_dec w5
 have d4 := num_dec w4
 have d3 := num_dec w3
 have d2 := num_dec w2
 have d1 := num_dec w1
 have d0 := word_dec w0
 have e : s.list.es = es := h1
 unfold lstL
 rw [e, h2, d0, d1, d2, d3, d4, d5, h3]
 simp only [List.append_assoc]
 rfl
theorem told_ok2 {s : RS} (h : s.told.st.wrong = false) : ∃ (s0 : RS) (a : RS × ByteArray) (l : LT) (b : RS × Nat) (c : RS × ByteArray), s.word volM = s0 ∧ s0.bytes 32 = a ∧ a.1.list = l ∧ l.st.num 0 ((l.V : Int) - 1) = b ∧ b.1.bytes (l.cnt * 32) = c ∧ b.1.wrong = false ∧ c.1.wrong = false ∧ l.cnt ≤ 512 ∧ s.told = ⟨c.1, a.2, l.st.text.extract a.1.next l.st.next, l, b.2, c.2⟩ := by
 refine ⟨_, _, _, _, _, rfl, rfl, rfl, rfl, rfl, ?_⟩
 obtain ⟨s0, h0⟩ : ∃ x, s.word volM = x := ⟨_, rfl⟩
 obtain ⟨a, ha⟩ : ∃ x, s0.bytes 32 = x := ⟨_, rfl⟩
 obtain ⟨l, hl⟩ : ∃ x, a.1.list = x := ⟨_, rfl⟩
 obtain ⟨b, hb⟩ : ∃ x, l.st.num 0 ((l.V : Int) - 1) = x := ⟨_, rfl⟩
 have e : s.told = if b.1.wrong then ⟨b.1, a.2, l.st.text.extract a.1.next l.st.next, l, b.2, ⟨#[]⟩⟩ else ⟨((if 512 < l.cnt then b.1.refuse else b.1).bytes (l.cnt * 32)).1, a.2, l.st.text.extract a.1.next l.st.next, l, b.2, ((if 512 < l.cnt then b.1.refuse else b.1).bytes (l.cnt * 32)).2⟩ := by
  rw [← hb, ← hl, ← ha, ← h0]
  rfl
 rw [e] at h ⊢
 rw [h0, ha, hl, hb]
 by_cases hw : b.1.wrong = true
 ·rw [if_pos hw] at h
  rw [show (TT.mk b.1 a.2 (l.st.text.extract a.1.next l.st.next) l b.2 ⟨#[]⟩).st.wrong = b.1.wrong from rfl, hw] at h
  cases h
 ·rw [if_neg hw] at h ⊢
  have hw' : b.1.wrong = false := by simpa using hw
  by_cases hc : 512 < l.cnt
  ·rw [if_pos hc] at h
   have := bytes_ok h
   cases this
  ·rw [if_neg hc] at h ⊢
   exact ⟨hw', h, by omega, rfl⟩
theorem ahd_len {s s' : RS} {x : List UInt8} (ht : s'.text = s.text) (hn : s.next ≤ s.text.size) (hn' : s'.next ≤ s.text.size) (h : Ahd s = x ++ Ahd s') : s'.next = s.next + x.length := by
 have := congrArg List.length h
 unfold Ahd at this
 rw [List.length_append, List.length_drop, List.length_drop, ht] at this
 simp at this
 omega
theorem ba_ext {a b : ByteArray} (h : a.data.toList = b.data.toList) : a = b := ByteArray.ext (Array.toList_inj.1 h)
theorem told_dec {t : ByteArray} (h : (RS.on t).told.st.wrong = false) : t.data.toList = volM.data.toList ++ (RS.on t).told.root.data.toList ++ (RS.on t).told.lst.data.toList ++ vi (RS.on t).told.num ++ (RS.on t).told.lv.data.toList ++ Ahd (RS.on t).told.st ∧ (RS.on t).told.lst.data.toList = lstL (RS.on t).told.L.K (RS.on t).told.L.M (RS.on t).told.L.C (RS.on t).told.L.V (RS.on t).told.L.es ∧ (RS.on t).told.root.size = 32 := by
 obtain ⟨s0, a, l, b, c, h0, ha, hl, hb, hc, hbw, hcw, hcnt, e⟩ := told_ok2 h
 rw [e]
 have d4 : Ahd b.1 = c.2.data.toList ++ Ahd c.1 := by rw [← hc] at hcw ⊢; exact bytes_dec hcw
 have d3 : Ahd l.st = vi b.2 ++ Ahd b.1 := by rw [← hb] at hbw ⊢; exact num_dec hbw
 have hlw : l.st.wrong = false := by rw [← hb] at hbw; exact (num_ok hbw).1
 have d2 : Ahd a.1 = lstL l.K l.M l.C l.V l.es ++ Ahd l.st := by rw [← hl] at hlw ⊢; exact list_dec hlw
 have haw : a.1.wrong = false := by rw [← hl] at hlw; exact (list_ok hlw).1
 have d1 : Ahd s0 = a.2.data.toList ++ Ahd a.1 := by rw [← ha] at haw ⊢; exact bytes_dec haw
 have h0w : s0.wrong = false := by rw [← ha] at haw; exact bytes_ok haw
 have d0 : Ahd (RS.on t) = volM.data.toList ++ Ahd s0 := by rw [← h0] at h0w ⊢; exact word_dec h0w
 have hsz : a.2.size = 32 := by rw [← ha] at haw ⊢; exact bytes_sz haw
 have n0 : Nt s0 := by rw [← h0]; exact word_nt (Nat.zero_le _) _
 have na : Nt a.1 := by rw [← ha]; exact bytes_nt n0 _
 have nl : Nt l.st := by rw [← hl]; exact list_nt na
 have tx : l.st.text = a.1.text := by rw [← hl]; exact (list_adv a.1).1
 have hnx := ahd_len tx na (by rw [← tx]; exact nl) d2
 have hlst : (l.st.text.extract a.1.next l.st.next).data.toList = lstL l.K l.M l.C l.V l.es := by
  rw [ext_list, tx, hnx, show a.1.next + (lstL l.K l.M l.C l.V l.es).length - a.1.next = (lstL l.K l.M l.C l.V l.es).length by omega]
  have : a.1.text.data.toList.drop a.1.next = lstL l.K l.M l.C l.V l.es ++ Ahd l.st := d2
  rw [this, List.take_left]
 refine ⟨?_, hlst, hsz⟩
 show t.data.toList = volM.data.toList ++ a.2.data.toList ++ (l.st.text.extract a.1.next l.st.next).data.toList ++ vi b.2 ++ c.2.data.toList ++ Ahd c.1
 rw [hlst]
 have : t.data.toList = Ahd (RS.on t) := rfl
 rw [this, d0, d1, d2, d3, d4]
 simp only [List.append_assoc]
set_option maxHeartbeats 4000000
def nmE (es : List (ByteArray × Nat)) (j : Nat) : ByteArray := ((es[j]?).getD (⟨#[]⟩, 0)).1
def lnE (es : List (ByteArray × Nat)) (j : Nat) : Nat := ((es[j]?).getD (⟨#[]⟩, 0)).2
theorem enV_get : ∀ (es : List (ByteArray × Nat)) (j : Nat), j < es.length → (enV es)[j * 2]? = some (.string (nmE es j)) ∧ (enV es)[j * 2 + 1]? = some (.int .i64 (lnE es j))
 | [], j, h => by simp at h
 | x :: r, 0, _ => by simp [enV, nmE, lnE]
 | x :: r, j + 1, h => by
  have ih := enV_get r j (by simpa using h)
  have e : enV (x :: r) = .string x.1 :: .int .i64 x.2 :: enV r := by simp [enV]
  have e1 : (j + 1) * 2 = j * 2 + 1 + 1 := by omega
  rw [e, e1]
  simp only [List.getElem?_cons_succ]
  exact ih
theorem ent_cellsE {w : World} {B nE cE : Nat} {aE : Option Addr} {es : List (ByteArray × Nat)} (hn : nE = es.length) (h : w.ownsRow B 70 2 (.slice aE nE cE) nE (enV es)) :
  ∀ j, j < nE → ∃ b, aE = some ⟨b, 0, none⟩ ∧ b < w.heap.size ∧ w.cell? ⟨b, j * 2, none⟩ = some (.string (nmE es j)) ∧ w.cell? ⟨b, j * 2 + 1, none⟩ = some (.int .i64 (lnE es j)) := by
 intro j hj
 rcases h.2 with ⟨_, h2⟩ | ⟨g, cap, cur, hv, _, hh, _⟩
 ·omega
 ·cases hv
  obtain ⟨h1, h2⟩ := enV_get es j (by omega)
  have c1 := h.cells (g := g) rfl _ _ h1
  have c2 := h.cells (g := g) rfl _ _ h2
  rw [Addr.add_lit] at c1 c2
  exact ⟨g, rfl, (Array.getElem?_eq_some_iff.1 hh).1, by simpa using c1, by simpa using c2⟩
theorem nmE_le {es : List (ByteArray × Nat)} (h : ∀ x ∈ es, x.1.size ≤ 255) (j : Nat) : (nmE es j).size ≤ 1000 := by
 unfold nmE
 cases hj : es[j]? with
 | none => decide
 | some x =>
  have := h x (List.mem_of_getElem? hj)
  show x.1.size ≤ 1000
  omega
theorem mem_lenE : ∀ (es : List (ByteArray × Nat)) (x : ByteArray × Nat), x ∈ es → x.2 ≤ lenE es
 | [], x, h => by cases h
 | y :: r, x, h => by
  have e : lenE (y :: r) = y.2 + lenE r := by simp [lenE]
  rcases List.mem_cons.1 h with rfl | h
  ·omega
  ·have := mem_lenE r x h
   omega
theorem lnE_le {es : List (ByteArray × Nat)} (h : lenE es ≤ 4096) (j : Nat) : lnE es j ≤ 100000 := by
 unfold lnE
 cases hj : es[j]? with
 | none => decide
 | some x =>
  have := mem_lenE es x (List.mem_of_getElem? hj)
  show x.2 ≤ 100000
  omega
theorem lst2_enL (h : List UInt8) (es : List (ByteArray × Nat)) : ∀ j, j ≤ es.length → lst2 h (nmE es) (lnE es) j = h ++ enL (es.take j)
 | 0, _ => by simp [lst2, enL]
 | j + 1, hj => by
  have hg : es[j]? = some (es[j]'(by omega)) := List.getElem?_eq_getElem (by omega)
  have e0 : es.take (j + 1) = es.take j ++ [es[j]'(by omega)] := by rw [List.take_add_one, hg]; rfl
  have e1 : nmE es j = (es[j]'(by omega)).1 := by unfold nmE; rw [hg]; rfl
  have e2 : lnE es j = (es[j]'(by omega)).2 := by unfold lnE; rw [hg]; rfl
  rw [lst2, lst2_enL h es j (by omega), e0, enL_app, e1, e2, vint_list, vint_list]
  simp [enL]
theorem lstT_list (K M C V : Nat) (es : List (ByteArray × Nat)) : (lstT K M C V es.length (nmE es) (lnE es)).data.toList = lstL K M C V es := by
 show (lst2 (lst1 (num5 K M C V es.length) 5) (nmE es) (lnE es) es.length) = _
 have := lst2_enL (lst1 (num5 K M C V es.length) 5) es es.length (Nat.le_refl _)
 rw [List.take_length] at this
 rw [this]
 unfold lstL
 congr 1
 simp [lst1, num5, vint_list]
theorem sopen_root (rt : ByteArray) (v : Value) (w : World) (h0 : rt.size ≠ 0) (h32 : rt.size ≠ 32) : Calls Tryz.prog 104 #[v, .string rt] w fun e w' => ∃ z, e = .returned (.tuple #[.pointer none, .iface 305 (.pointer (some ⟨z, 0, none⟩))]) ∧ w'.heap[z]? = some (.cells #[.int .i64 9, .int .i64 0, .nilIface] 307 (0, 0)) ∧ Below w.heap.size w w' := by
 have e0 : ((rt.size : Int) != 0) = true := by rw [bne_iff_ne]; omega
 have e1 : ((rt.size : Int) != 32) = true := by rw [bne_iff_ne]; omega
 have e2 : ¬ (rt.size : Int) = 0 := by omega
 have e3 : ¬ (rt.size : Int) = 32 := by omega
 go_enter Tryz.func104, Tryz.ntmps104
 go_wp2_with fail
 refine Calls.mono (at_err 9 0 w) ?_
 rintro e w1 ⟨z, rfl, hz, hB⟩
 have HZ : Hid _ := hz
 have HB : Hid _ := hB
 clear hz hB
 go_wp2_with fail
 go_ret2
 exact ⟨z, rfl, HZ.out, HB.out⟩
theorem sopen_nil (rt : ByteArray) (w : World) (hrt : rt.size = 0 ∨ rt.size = 32) : Calls Tryz.prog 104 #[.slice none 0 0, .string rt] w fun e w' => ∃ v, e = .returned (.tuple #[.pointer none, v]) ∧ ErrD 11 0 (.returned v) w' ∧ Below w.heap.size w w' := by
 obtain ⟨k, hk⟩ : ∃ k, w.heap.size = k := ⟨_, rfl⟩
 obtain ⟨X, hX⟩ : ∃ X, w.alloc (.cells (stC (.pointer none) (.slice none 0 0) (.slice none 0 0) (.slice none 0 0) (.slice none 0 0)) 224) = X := ⟨_, rfl⟩
 have hB0 : Below w.heap.size w X := by rw [← hX]; exact (Below.refl _ _).alloc (Nat.le_refl _) _
 have hr : X.heap[k]? = some (.cells (stC (.pointer none) (.slice none 0 0) (.slice none 0 0) (.slice none 0 0) (.slice none 0 0)) 224 (0, 0)) := by rw [← hX, ← hk]; exact heap_alloc_new _ _
 have c0 : X.cell? ⟨k, 0, none⟩ = some (.pointer none) := cell_of_row _ _ _ _ 224 _ hr
 have hX' : w.alloc (.cells #[.pointer none, .slice none 0 0, .slice none 0 0, .slice none 0 0, .slice none 0 0] 224) = X := hX
 have HB0 : Hid _ := hB0
 have HK : Hid _ := hk
 clear hB0 hr hX
 rcases hrt with h0 | h32
 ·have h0' : (rt.size : Int) = 0 := by omega
  go_enter Tryz.func104, Tryz.ntmps104
  go_wp2_with fail
  refine wp_loop_rounds 1 ?_
  rw [rounds_succ]
  go_wp2_with fail
  refine Calls.mono (none_zero _ X) ?_
  rintro e w1 ⟨⟨z, rfl, hz⟩, hB⟩
  have HZ : Hid _ := hz
  have HB : Hid _ := hB
  clear hz hB
  go_wp2_with fail
  go_ret2
  exact ⟨_, rfl, ⟨z, rfl, HZ.out⟩, HB0.out.trans (HB.out.mono HB0.out.size)⟩
 ·have h32' : (rt.size : Int) = 32 := by omega
  go_enter Tryz.func104, Tryz.ntmps104
  go_wp2_with fail
  refine wp_loop_rounds 1 ?_
  rw [rounds_succ]
  go_wp2_with fail
  refine Calls.mono (none_zero _ X) ?_
  rintro e w1 ⟨⟨z, rfl, hz⟩, hB⟩
  have HZ : Hid _ := hz
  have HB : Hid _ := hB
  clear hz hB
  go_wp2_with fail
  go_ret2
  exact ⟨_, rfl, ⟨z, rfl, HZ.out⟩, HB0.out.trans (HB.out.mono HB0.out.size)⟩
end Go.Proofs.YtadinjaocnlglaaGreatDoor
namespace Go.Proofs.YtadinjaocnlglaaGreatDoor
open Go.RowKit Go.MuLone
set_option maxRecDepth 100000
set_option maxHeartbeats 4000000
theorem VS.set {kt : Nat → Int} {B k g p q f : Nat} {T : TT} {un : Value} {ul : List Nat} {rd : Nat → Bool} {bl : Nat → ByteArray} {dn : Nat → Bool} {zs : Nat → Nat} {bd : Nat → Value} {w : World} {j : Nat} {cs : Array Value} {t : TypeId} (h : VS kt B k g p q f T un ul rd bl dn zs bd w) (hj : w.heap[j]? = some (.cells cs t (0, 0))) (ht : t = 99 ∨ t = 159) (i : Nat) (v : Value) : VS kt B k g p q f T un ul rd bl dn zs bd (w.setCell ⟨j, i, none⟩ v) :=
 h.kept (fun x c t' ht' hx => by
  rw [set_other _ _ _ _ _ (row_ne hx hj (by rcases ht with e | e <;> rcases ht' with e' | e' | e' | e' | e' | e' | e' <;> simp [e, e']))]
  exact hx) (fun x hx => by
  have h3 : ∃ cur, w.heap[x]? = some (.cells cur 3 (0, 0)) := by
   rcases hx with e | ⟨s, hs, hd, e⟩
   ·exact own_type h.unO x e
   ·exact own_type (h.fn s hs hd).2 x e
  obtain ⟨cur, hcur⟩ := h3
  exact set_other _ _ _ _ _ (row_ne hcur hj (by rcases ht with e | e <;> simp [e])))
theorem own_setB {w : World} {B n j : Nat} {e t : TypeId} {size : Nat} {v u : Value} {xs : List Value} {cs : Array Value} (h : w.ownsRow B e size v n xs) (hj : w.heap[j]? = some (.cells cs t (0, 0))) (ht : e ≠ t) (i : Nat) : (w.setCell ⟨j, i, none⟩ u).ownsRow B e size v n xs := own_kept h (fun y hy => by
 obtain ⟨cur, hcur⟩ := own_type h y hy
 exact set_other _ _ _ _ _ (row_ne hcur hj ht))
theorem step99 {w0 w : World} {r0 : Nat} {S : Nat → Prop} {cs : Array Value} (h : w.heap[r0]? = some (.cells cs 99 (0, 0))) (hr : w0.heap.size ≤ r0) (hF : Fr S w0 w) (i : Nat) (v : Value) : (w.setCell ⟨r0, i, none⟩ v).heap[r0]? = some (.cells (cs.setIfInBounds i v) 99 (0, 0)) ∧ Fr S w0 (w.setCell ⟨r0, i, none⟩ v) ∧ (∀ (j : Nat) (c : Array Value) (t : TypeId), t ≠ 99 → w.heap[j]? = some (.cells c t (0, 0)) → (w.setCell ⟨r0, i, none⟩ v).heap[j]? = some (.cells c t (0, 0))) :=
 ⟨set_heap _ _ _ _ _ _ _ h, hF.set (.inr hr) _ _, fun j c t ht hj => by rw [set_other _ _ _ _ _ (row_ne hj h ht)]; exact hj⟩
def VL (v k x : Nat) (w : World) : Prop := w.heap[v]? = some (.cells (wC (x : Int) k) 159 (0, 0))
theorem VL.one {v k : Nat} {w : World} (h : VL v k 0 w) : VL v k 1 (w.setCell ⟨v, 0, none⟩ (.int .i32 1)) := by
 have := set_heap w v 0 (.int .i32 1) _ _ _ h
 simpa [wC, VL] using this
theorem VL.zero {v k : Nat} {w : World} (h : VL v k 1 w) : VL v k 0 (w.setCell ⟨v, 0, none⟩ (.int .i32 0)) := by
 have := set_heap w v 0 (.int .i32 0) _ _ _ h
 simpa [wC, VL] using this
def VVDid (kt : Nat → Int) (B v k g p q f : Nat) (T : TT) (un : Value) (ul : List Nat) (rd : Nat → Bool) (bl : Nat → ByteArray) (dn : Nat → Bool) (w : World) (e : Ending) (w' : World) : Prop :=
 ∃ (zs' : Nat → Nat) (bd' : Nat → Value) (a b c d u : Value), e = .returned (.agg (repC a b c d u)) ∧ VL v k 0 w' ∧ VS kt B k g p q f T un ul rd bl (dnS dn T.L.ns) zs' bd' w' ∧ Fr (fun j => j = q ∨ j = f ∨ j = v) w w' ∧
  w'.ownsRow w.heap.size 3 1 a ul.length (unV ul) ∧ w'.ownsRow w.heap.size 3 1 b (abF rd T.L.V).length (unV (abF rd T.L.V)) ∧ w'.ownsRow w.heap.size 3 1 c (baF kt T bl T.L.ns).length (unV (baF kt T bl T.L.ns)) ∧ w'.ownsRow w.heap.size 3 1 d (fsF kt T bl 1 T.L.ns).length (unV (fsF kt T bl 1 T.L.ns)) ∧ w'.ownsRow w.heap.size 3 1 u (fsF kt T bl 2 T.L.ns).length (unV (fsF kt T bl 2 T.L.ns)) ∧ RpA un bd' (dnS dn T.L.ns) T.L.ns [a, b, c, d, u]
theorem vverify (kt : Nat → Int) (B v k g p q f : Nat) (T : TT) (un : Value) (ul : List Nat) (rd : Nat → Bool) (bl : Nat → ByteArray) (dn : Nat → Bool) (zs : Nat → Nat) (bd : Nat → Value) (w : World) (hv : VL v k 0 w) (h : VS kt B k g p q f T un ul rd bl dn zs bd w) (hT : Told1 T) (hle : T.L.es.length ≤ 16 ∧ lenE T.L.es ≤ 4096) (hul : ul.length ≤ 10000000000000) (hG : Gd kt w) (hB : B ≤ w.heap.size) (h2 : v ≠ 2) :
  Calls Tryz.prog 40 #[.pointer (some ⟨v, 0, none⟩)] w fun e w' => VVDid kt B v k g p q f T un ul rd bl dn w e w' := by
 have hvl : v < w.heap.size := (Array.getElem?_eq_some_iff.1 hv).1
 obtain ⟨W, hW⟩ : ∃ W, w.alloc (.cells nil5 99) = W := ⟨_, rfl⟩
 have hbW : Below w.heap.size w W := by rw [← hW]; exact (Below.refl _ _).alloc (Nat.le_refl _) _
 have hWn : W.heap[w.heap.size]? = some (.cells nil5 99 (0, 0)) := by rw [← hW]; exact heap_alloc_new _ _
 have hvW : VL v k 0 W := (hbW.block v hvl).trans hv
 have h0 : W.cell? ⟨v, 0, none⟩ = some (.int .i32 0) := cell_of_row _ _ _ _ 159 _ hvW
 have f0 : W.frozen? ⟨v, 0, none⟩ = false := frozen_of_row _ _ _ _ 159 hvW
 have HL : Hid _ := lock_free muL ⟨v, 0, none⟩ W h0 f0
 obtain ⟨Y, hY⟩ : ∃ Y, W.setCell ⟨v, 0, none⟩ (.int .i32 1) = Y := ⟨_, rfl⟩
 have hvY : VL v k 1 Y := by rw [← hY]; exact hvW.one
 have hVY : VS kt B k g p q f T un ul rd bl dn zs bd Y := by rw [← hY]; exact (h.below hbW).set hvW (.inr rfl) _ _
 have hYn : Y.heap[w.heap.size]? = some (.cells nil5 99 (0, 0)) := by rw [← hY, set_other _ _ _ _ _ (by omega)]; exact hWn
 have hFY : Fr (fun j => j = q ∨ j = f ∨ j = v) w Y := by rw [← hY]; exact (Fr.below hbW).set (.inl (.inr (.inr rfl))) _ _
 have hGY : Gd kt Y := (hG.fr (S := fun j => j = v) (by rw [← hY]; exact (Fr.below (S := fun j => j = v) hbW).set (.inl rfl) _ _) (fun e => h2 e.symm))
 have HVF : Hid _ := verify_any kt B k g p q f T un ul rd bl dn zs bd Y hVY hT hle hul hGY (Nat.le_trans hB hFY.size)
 have c2 : Y.cell? ⟨v, 2, none⟩ = some (.pointer (some ⟨k, 0, none⟩)) := cell_of_row _ _ _ _ 159 _ hvY
 rw [hY] at HL
 have HVY : Hid (VL v k 1 Y) := hvY
 have HSY : Hid _ := hVY
 have HYN : Hid _ := hYn
 have HFY : Hid _ := hFY
 have hW' : w.alloc (.cells #[.slice none 0 0, .slice none 0 0, .slice none 0 0, .slice none 0 0, .slice none 0 0] 99) = W := hW
 have HSZ : Hid (w.heap.size ≤ Y.heap.size) := hFY.size
 clear hv h hbW hWn hvW h0 f0 hY hvY hVY hYn hFY hGY hW
 go_enter_defers Tryz.func40, Tryz.ntmps40
 go_wp2_with fail
 refine Calls.mono HL.out ?_
 rintro e w1 ⟨rfl, rfl⟩
 go_wp2_with fail
 refine Calls.mono HVF.out ?_
 rintro e w2 ⟨zs', bd', a, b, c, d, u, rfl, hS2, hF2, o1, o2, o3, o4, o5, hRA⟩
 have HRA : Hid _ := hRA
 clear hRA
 obtain ⟨xa, ya, ha⟩ := own_shape o1
 obtain ⟨xb, yb, hb⟩ := own_shape o2
 obtain ⟨xc, yc, hc⟩ := own_shape o3
 obtain ⟨xd, yd, hd⟩ := own_shape o4
 obtain ⟨xu, yu, hu⟩ := own_shape o5
 have hrl : w.heap.size < w1.heap.size := (Array.getElem?_eq_some_iff.1 HYN.out).1
 have hold : ∀ (j : Nat) (cs : Array Value) (t : TypeId), t ≠ 9 → t ≠ 232 → w1.heap[j]? = some (.cells cs t (0, 0)) → w2.heap[j]? = some (.cells cs t (0, 0)) := fun j cs t h9 h232 hj => by
  rw [hF2.old j (Array.getElem?_eq_some_iff.1 hj).1 (fun e => by
   rcases e with e | e
   ·exact row_ne hj HSY.out.blR h9 e
   ·exact row_ne hj HSY.out.fiR h232 e)]
  exact hj
 have hr2 := hold _ _ _ (by decide) (by decide) HYN.out
 have hv2 : VL v k 1 w2 := hold _ _ _ (by decide) (by decide) HVY.out
 obtain ⟨r, hr⟩ : ∃ r, w.heap.size = r := ⟨_, rfl⟩
 rw [hr] at hr2
 have p0 : w2.cell? ⟨r, 0, none⟩ = some (.slice none 0 0) := cell_of_row _ _ _ _ 99 _ hr2
 have p1 : w2.cell? ⟨r, 1, none⟩ = some (.slice none 0 0) := cell_of_row _ _ _ _ 99 _ hr2
 have p2 : w2.cell? ⟨r, 2, none⟩ = some (.slice none 0 0) := cell_of_row _ _ _ _ 99 _ hr2
 have p3 : w2.cell? ⟨r, 3, none⟩ = some (.slice none 0 0) := cell_of_row _ _ _ _ 99 _ hr2
 have p4 : w2.cell? ⟨r, 4, none⟩ = some (.slice none 0 0) := cell_of_row _ _ _ _ 99 _ hr2
 have fz : ∀ j, w2.frozen? ⟨r, j, none⟩ = false := fun j => frozen_of_row _ _ _ _ 99 hr2
 have HR2 : Hid _ := hr2
 have HS2 : Hid _ := hS2
 have HV2 : Hid (VL v k 1 w2) := hv2
 have HF2 : Hid _ := HFY.out.trans' (hF2.mono (T := fun j => j = q ∨ j = f ∨ j = v) (fun j _ e => by rcases e with e | e; exact .inl e; exact .inr (.inl e)))
 have HO1 : Hid _ := own_base o1 HSZ.out
 have HO2 : Hid _ := own_base o2 HSZ.out
 have HO3 : Hid _ := own_base o3 HSZ.out
 have HO4 : Hid _ := own_base o4 HSZ.out
 have HO5 : Hid _ := own_base o5 HSZ.out
 have HRR : Hid (w.heap.size = r) := hr
 have hrr : w.heap.size ≤ r := Nat.le_of_eq hr
 have hvr : v < r := by omega
 unfold repC
 subst ha hb hc hd hu
 clear hold hr2 hS2 hv2 hF2 o1 o2 o3 o4 o5 hr
 rw [HRR.out]
 go_wp2_with fail
 obtain ⟨h0, f0, k0⟩ := step99 HR2.out (by omega) HF2.out 0 (.slice xa ul.length ya)
 obtain ⟨h1, f1, k1⟩ := step99 h0 (by omega) f0 1 (.slice xb (abF rd T.L.V).length yb)
 obtain ⟨h2', f2, k2⟩ := step99 h1 (by omega) f1 2 (.slice xc (baF kt T bl T.L.ns).length yc)
 obtain ⟨h3, f3, k3⟩ := step99 h2' (by omega) f2 3 (.slice xd (fsF kt T bl 1 T.L.ns).length yd)
 obtain ⟨h4, f4, k4⟩ := step99 h3 (by omega) f3 4 (.slice xu (fsF kt T bl 2 T.L.ns).length yu)
 have hk := fun (j : Nat) (c : Array Value) (t : TypeId) (ht : t ≠ 99) hj => k4 j c t ht (k3 j c t ht (k2 j c t ht (k1 j c t ht (k0 j c t ht hj))))
 have hvZ := hk _ _ _ (by decide) HV2.out
 have hSZ := HS2.out.all hk
 have z1 := own_all HO1.out hk
 have z2 := own_all HO2.out hk
 have z3 := own_all HO3.out hk
 have z4 := own_all HO4.out hk
 have z5 := own_all HO5.out hk
 clear k0 k1 k2 k3 k4 hk h0 h1 h2' h3 f0 f1 f2 f3 p0 p1 p2 p3 p4 fz
 generalize ((((w2.setCell ⟨r, 0, none⟩ (.slice xa ul.length ya)).setCell ⟨r, 1, none⟩ (.slice xb (abF rd T.L.V).length yb)).setCell ⟨r, 2, none⟩ (.slice xc (baF kt T bl T.L.ns).length yc)).setCell ⟨r, 3, none⟩ (.slice xd (fsF kt T bl 1 T.L.ns).length yd)).setCell ⟨r, 4, none⟩ (.slice xu (fsF kt T bl 2 T.L.ns).length yu) = Z at *
 have hvZ' : VL v k 1 Z := hvZ
 refine leaves_cons (f := 69) (args := #[.pointer (some ⟨v, 0, none⟩)]) (by simp) (by simp [go_sem]) ?_
 refine (unlock_deferred muL ⟨v, 0, none⟩ .returning Z (cell_of_row _ _ _ _ 159 _ hvZ) (frozen_of_row _ _ _ _ 159 hvZ)).mono ?_
 rintro e u' w3 ⟨rfl, rfl, rfl⟩
 have hrow : (Z.setCell ⟨v, 0, none⟩ (.int .i32 0)).heap[r]? = _ := (set_other Z v 0 r _ (by omega)).trans h4
 refine ⟨_, results_cell_row Tryz.results40 _ _ r 99 _ (0, 0) _ rfl hrow Tryz.underlying99 rfl (by kernel_rfl), zs', bd', _, _, _, _, _, rfl, hvZ'.zero, hSZ.set hvZ (.inr rfl) _ _, f4.set (.inl (.inr (.inr rfl))) _ _, own_setB z1 hvZ (by decide) _, own_setB z2 hvZ (by decide) _, own_setB z3 hvZ (by decide) _, own_setB z4 hvZ (by decide) _, own_setB z5 hvZ (by decide) _, HRA.out⟩
end Go.Proofs.YtadinjaocnlglaaGreatDoor
