/-
  The walks of Top, Path, Follows.
-/
import Derived.Test.YtnghgdficnkbbaaDoorU4
namespace Go.Proofs.YtnghgdficnkbbaaDoor
open Go.RowKit
set_option maxHeartbeats 400000 in
theorem ptop_any (kt : Nat → Int) (L : Nat → ByteArray) (n : Nat) (v : Value) (w : World) (hn : n ≤ 4398046511104) (hG : Gd kt w) (hL : ∀ i, i < n → (L i).size ≤ 35184372088832) (h : Ls w v n L) :
    Calls Tryd.prog 14 #[v] w fun e w' => e = .returned (.string (topT (ofT kt) n L)) ∧ Below w.heap.size w w' := by
  have H : Hid _ := labels_any L n v w hn h
  have HL : Hid _ := hL
  have HG : Hid _ := hG
  have hT := topT_le (ofT kt) 35184372088832 (ofT_le kt) n L hL
  clear h hL hG
  go_enter Tryd.func14, Tryd.ntmps14
  go_wp2_with fail
  refine Calls.mono H.out ?_
  rintro e w1 ⟨rfl, hR1, hB1⟩
  have HR : Hid (Rw w1 w.heap.size n 42 (tI L)) := hR1
  have HB1 : Hid _ := hB1
  clear hR1 hB1
  go_wp2_with fail
  refine (ttop_any kt n L w.heap.size 0 n w1 (Nat.le_refl _) (by omega) (HG.out.below HB1.out) HR.out.lt HL.out (Rw.cl HR.out).co).mono ?_
  rintro e w2 ⟨rfl, hB2⟩
  have HB2 : Hid (Below w.heap.size w w2) := HB1.out.trans (hB2.mono HB1.out.size)
  clear hB2
  go_wp2_with fail
  refine (sclone_any _ _ (by omega)).mono ?_
  rintro e w3 ⟨rfl, hB3⟩
  have hB : Below w.heap.size w w3 := HB2.out.trans (hB3.mono HB2.out.size)
  clear hB3
  go_wp2
  go_ret
  exact ⟨rfl, hB⟩
set_option maxHeartbeats 400000 in
theorem vtop_any (kt : Nat → Int) (L : Nat → ByteArray) (n : Nat) (v : Value) (w : World) (hn : n ≤ 4398046511104) (hG : Gd kt w) (hL : ∀ i, i < n → (L i).size ≤ 35184372088832) (h : Ls w v n L) :
    Calls Tryd.prog 6 #[v] w fun e w' => e = .returned (.string (topT (ofT kt) n L)) ∧ Below w.heap.size w w' := by
  have H : Hid _ := ptop_any kt L n v w hn hG hL h
  clear h hL hG
  go_enter Tryd.func6, Tryd.ntmps6
  go_wp2_with fail
  refine Calls.mono H.out ?_
  rintro e w1 ⟨rfl, hB1⟩
  go_wp2
  go_ret
  exact ⟨rfl, hB1⟩
def nth (D : List ByteArray) (i : Nat) : ByteArray := D.getD i ⟨#[]⟩
theorem nth_mem (D : List ByteArray) (i : Nat) (h : i < D.length) : nth D i ∈ D := by
  unfold nth; rw [List.getD_eq_getElem?_getD, List.getElem?_eq_getElem h]; exact List.getElem_mem h
theorem own_ls {w : World} {B n : Nat} {t : TypeId} {v : Value} {L : List ByteArray} (h : w.ownsRow B t 1 v n (L.map Value.string)) (hL : L.length = n) : Ls w v n (nth L) := by
  rcases h.2 with ⟨h1, h'⟩ | ⟨g, cap, cur, hv, hb, hh, _⟩
  · exact .inl ⟨h1, h'⟩
  · subst hv
    refine .inr ⟨g, cap, rfl, (Array.getElem?_eq_some_iff.1 hh).1, fun i hi => ?_⟩
    rw [h.cellAt i (by omega)]
    have hi' : i < L.length := by omega
    simp [tI, nth, hi']
set_option maxHeartbeats 400000 in
theorem ppath_any (kt : Nat → Int) (L : Nat → ByteArray) (n i b cap : Nat) (w : World) (hi : i < n) (hn : n ≤ 4398046511104) (hG : Gd kt w) (hL : ∀ i, i < n → (L i).size ≤ 35184372088832) (hb : b < w.heap.size) (hC : Cl w b n (tI L)) :
    Calls Tryd.prog 15 #[.slice (some ⟨b, 0, none⟩) n cap, .int .i64 i] w fun e w' => ∃ g, e = .returned (.tuple #[.slice (some ⟨g, 0, none⟩) (pathT (ofT kt) n L i).length (pathT (ofT kt) n L i).length, .nilIface]) ∧ w.heap.size ≤ g ∧ Rw w' g (pathT (ofT kt) n L i).length 9 (tI (nth (pathT (ofT kt) n L i))) ∧ Below w.heap.size w w' := by
  have H : Hid _ := labels_some L b n cap w hn hb hC
  have HL : Hid _ := hL
  have HG : Hid _ := hG
  have hlen := sides_lt 63 n i (by omega)
  rw [← path_len (ofT kt) _ n L i (Nat.le_refl _)] at hlen
  have HS : Hid (∀ j, j < (pathT (ofT kt) n L i).length → (nth (pathT (ofT kt) n L i) j).size ≤ 140737488351232) := fun j hj => Nat.le_trans (pathT_le (ofT kt) 35184372088832 (ofT_le kt) n n L i (Nat.le_refl _) hL _ (nth_mem _ _ hj)) (by omega)
  have HT : Hid (∀ W : World, Gd kt W → w.heap.size < W.heap.size → Co W w.heap.size 0 n (tI L) → _) := fun W h1 h2 h3 => tpath_any kt n L i w.heap.size 0 n W hi (Nat.le_refl _) (by omega) h1 h2 hL h3
  obtain ⟨S, hS⟩ : ∃ S, pathT (ofT kt) n L i = S := ⟨_, rfl⟩
  rw [hS] at hlen HS HT ⊢
  clear hL hG hC hS HL
  go_enter Tryd.func15, Tryd.ntmps15
  go_wp2_with fail
  refine Calls.mono H.out ?_
  rintro e w1 ⟨rfl, hR1, hB1⟩
  have HR : Hid (Rw w1 w.heap.size n 42 (tI L)) := hR1
  have HB1 : Hid _ := hB1
  clear hR1 hB1
  go_wp2_with fail
  refine Calls.mono (HT.out w1 (HG.out.below HB1.out) HR.out.lt (Rw.cl HR.out).co) ?_
  rintro e w2 ⟨u, rfl, ho, hB2⟩
  have HB2 : Hid (Below w.heap.size w w2) := HB1.out.trans (hB2.mono HB1.out.size)
  have HLS : Hid (Ls w2 u S.length (nth S)) := own_ls ho rfl
  obtain ⟨a1, cap1, hu⟩ := own_shape ho
  subst hu
  clear ho hB2
  go_wp2_with fail
  refine (texts_any (nth S) S.length _ _ (by omega) HS.out HLS.out).mono ?_
  rintro e w3 ⟨rfl, hR3, hB3⟩
  have hB : Below w.heap.size w w3 := HB2.out.trans (hB3.mono HB2.out.size)
  have HZ := HB2.out.size
  clear hB3
  go_wp2
  go_ret2
  exact ⟨_, rfl, HZ, hR3, hB⟩
set_option maxHeartbeats 400000 in
theorem vpath_any (kt : Nat → Int) (L : Nat → ByteArray) (n i b cap : Nat) (w : World) (hi : i < n) (hn : n ≤ 4398046511104) (hG : Gd kt w) (hL : ∀ i, i < n → (L i).size ≤ 35184372088832) (hb : b < w.heap.size) (hC : Cl w b n (tI L)) :
    Calls Tryd.prog 8 #[.slice (some ⟨b, 0, none⟩) n cap, .int .i64 i] w fun e w' => ∃ g, e = .returned (.tuple #[.slice (some ⟨g, 0, none⟩) (pathT (ofT kt) n L i).length (pathT (ofT kt) n L i).length, .nilIface]) ∧ w.heap.size ≤ g ∧ Rw w' g (pathT (ofT kt) n L i).length 9 (tI (nth (pathT (ofT kt) n L i))) ∧ Below w.heap.size w w' := by
  have H : Hid _ := ppath_any kt L n i b cap w hi hn hG hL hb hC
  clear hL hG hC
  go_enter Tryd.func8, Tryd.ntmps8
  go_wp2_with fail
  refine Calls.mono H.out ?_
  rintro e w1 ⟨g, rfl, hg, hR, hB1⟩
  go_wp2
  go_ret2
  exact ⟨g, rfl, hg, hR, hB1⟩
theorem tl_beq (a b : ByteArray) : (a.toList == b.toList) = decide (a = b) := by
  rw [Bool.eq_iff_iff, beq_iff_eq, decide_eq_true_iff, ByteArray.toList_eq, ByteArray.toList_eq]
  constructor
  · intro h; exact ByteArray.ext (Array.toList_inj.1 h)
  · rintro rfl; rfl
/-- does the leaf with its path lead to the top -/
def fol (D : ByteArray → ByteArray) (top : ByteArray) (n i : Nat) (leaf : ByteArray) (m : Nat) (P : Nat → ByteArray) : Bool := if m = (sidesT n i).length then decide (climbT D leaf (sidesT n i) (lst P m) = top) else false
set_option maxHeartbeats 400000 in
theorem pfollows_any (kt : Nat → Int) (P : Nat → ByteArray) (n i m : Nat) (v : Value) (top leaf : ByteArray) (w : World) (hi : i < n) (hn : n < 9223372036854775808) (hm : m ≤ 4398046511104) (hG : Gd kt w) (hl : leaf.size ≤ 35184372088832) (hP : ∀ i, i < m → (P i).size ≤ 35184372088832) (h : Ls w v m P) :
    Calls Tryd.prog 16 #[.string top, .int .i64 n, .int .i64 i, .string leaf, v] w fun e w' => e = .returned (.bool (fol (ofT kt) top n i leaf m P)) ∧ Below w.heap.size w w' := by
  have H : Hid _ := labels_any P m v w hm h
  have HG : Hid _ := hG
  clear h hG
  by_cases hlen : m = (sidesT n i).length
  · have HF : Hid (fol (ofT kt) top n i leaf m P = decide (climbT (ofT kt) leaf (sidesT n i) (lst P m) = top)) := if_pos hlen
    have HCL : Hid (∀ W : World, Gd kt W → w.heap.size < W.heap.size → Cl W w.heap.size m (tI P) → _) := fun W h1 h2 h3 => climb_any kt P n i m w.heap.size m leaf W hi hn hlen h1 h2 hl hP h3
    obtain ⟨T, hT⟩ : ∃ T, climbT (ofT kt) leaf (sidesT n i) (lst P m) = T := ⟨_, rfl⟩
    rw [hT] at HF HCL
    clear hT hlen hP
    go_enter Tryd.func16, Tryd.ntmps16
    go_wp2_with fail
    refine Calls.mono H.out ?_
    rintro e w1 ⟨rfl, hR1, hB1⟩
    have HR : Hid (Rw w1 w.heap.size m 42 (tI P)) := hR1
    have HB1 : Hid _ := hB1
    clear hR1 hB1
    go_wp2_with fail
    refine Calls.mono (HCL.out w1 (HG.out.below HB1.out) HR.out.lt (Rw.cl HR.out)) ?_
    rintro e w2 ⟨rfl, hB2⟩
    have hB : Below w.heap.size w w2 := HB1.out.trans (hB2.mono HB1.out.size)
    clear hB2
    go_wp2
    go_ret
    rw [HF.out, ← tl_beq]
    exact ⟨rfl, hB⟩
  · have HF : Hid (fol (ofT kt) top n i leaf m P = false) := if_neg hlen
    have HCL : Hid _ := fun W => climb_len n i m w.heap.size m leaf W hi hn hlen
    clear hlen hP
    go_enter Tryd.func16, Tryd.ntmps16
    go_wp2_with fail
    refine Calls.mono H.out ?_
    rintro e w1 ⟨rfl, hR1, hB1⟩
    have HB1 : Hid _ := hB1
    clear hR1 hB1
    go_wp2_with fail
    refine Calls.mono (HCL.out w1) ?_
    rintro e w2 ⟨rfl, hB2⟩
    have hB : Below w.heap.size w w2 := HB1.out.trans (hB2.mono HB1.out.size)
    clear hB2
    go_wp2
    go_ret
    rw [HF.out]
    exact ⟨rfl, hB⟩
set_option maxHeartbeats 400000 in
theorem vfollows_any (kt : Nat → Int) (P : Nat → ByteArray) (n i m : Nat) (v : Value) (top leaf : ByteArray) (w : World) (hi : i < n) (hn : n < 9223372036854775808) (hm : m ≤ 4398046511104) (hG : Gd kt w) (hl : leaf.size ≤ 35184372088832) (hP : ∀ i, i < m → (P i).size ≤ 35184372088832) (h : Ls w v m P) :
    Calls Tryd.prog 9 #[.string top, .int .i64 n, .int .i64 i, .string leaf, v] w fun e w' => e = .returned (.bool (fol (ofT kt) top n i leaf m P)) ∧ Below w.heap.size w w' := by
  have H : Hid _ := pfollows_any kt P n i m v top leaf w hi hn hm hG hl hP h
  clear hP hG h
  go_enter Tryd.func9, Tryd.ntmps9
  go_wp2_with fail
  refine Calls.mono H.out ?_
  rintro e w1 ⟨rfl, hB⟩
  go_wp2
  go_ret
  exact ⟨rfl, hB⟩
end Go.Proofs.YtnghgdficnkbbaaDoor
