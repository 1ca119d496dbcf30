/-
  The walk of Stock.Verify.
-/
import Derived.Test.YtadinjaocnlglaaGreatDoorZ28
namespace Go.Proofs.YtadinjaocnlglaaGreatDoor
open Go.RowKit
set_option maxRecDepth 100000
set_option maxHeartbeats 8000000
def RpA (un : Value) (bd : Nat → Value) (dn : Nat → Bool) (ns : Nat) (l : List Value) : Prop := l.Pairwise Apt ∧ ∀ x ∈ l, ∀ j, x.ownBlock = some j → ¬ outV un bd dn ns j
def VDid (kt : Nat → Int) (B k g p q f : Nat) (T : TT) (un : Value) (ul : List Nat) (rd : Nat → Bool) (bl : Nat → ByteArray) (dn : Nat → Bool) (w : World) (e : Ending) (w' : World) : Prop :=
 ∃ (zs' : Nat → Nat) (bd' : Nat → Value) (a b c d u : Value), e = .returned (.agg (repC a b c d u)) ∧ VS kt B k g p q f T un ul rd bl (dnS dn T.L.ns) zs' bd' w' ∧ Fr (fun j => j = q ∨ j = f) w w' ∧
  w'.ownsRow w.heap.size 3 1 a ul.length (unV ul) ∧ w'.ownsRow w.heap.size 3 1 b (abF rd T.L.V).length (unV (abF rd T.L.V)) ∧ w'.ownsRow w.heap.size 3 1 c (baF kt T bl T.L.ns).length (unV (baF kt T bl T.L.ns)) ∧ w'.ownsRow w.heap.size 3 1 d (fsF kt T bl 1 T.L.ns).length (unV (fsF kt T bl 1 T.L.ns)) ∧ w'.ownsRow w.heap.size 3 1 u (fsF kt T bl 2 T.L.ns).length (unV (fsF kt T bl 2 T.L.ns)) ∧ RpA un bd' (dnS dn T.L.ns) T.L.ns [a, b, c, d, u]
theorem RL.rpa {B0 r : Nat} {L : List (Value × List Nat)} {un : Value} {bd : Nat → Value} {dn : Nat → Bool} {ns : Nat} {w : World} (h : RL B0 r L (outV un bd dn ns) w) : RpA un bd dn ns (L.map Prod.fst) :=
 ⟨List.pairwise_map.2 h.apt, fun x hx => by
  obtain ⟨y, hy, rfl⟩ := List.mem_map.1 hx
  exact h.far y hy⟩
theorem apt_nil (u : Value) : Apt u (.slice none 0 0) := fun _ _ h => by cases h
theorem own_nil (w : World) (B : Nat) : w.ownsRow B 3 1 (.slice none 0 0) ([] : List Nat).length (unV []) := ⟨rfl, .inl ⟨rfl, rfl⟩⟩
theorem VR.start {kt : Nat → Int} {B k g p q f : Nat} {T : TT} {un : Value} {ul : List Nat} {rd : Nat → Bool} {bl : Nat → ByteArray} {dn : Nat → Bool} {zs : Nat → Nat} {bd : Nat → Value} {w W w1 X0 : World} {v : Value} {r : Nat} (h : VS kt B k g p q f T un ul rd bl dn zs bd w) (hbW : Below w.heap.size w W) (hWn : W.heap[w.heap.size]? = some (.cells nil5 99 (0, 0))) (hb1 : Below W.heap.size W w1) (ho : w1.ownsRow W.heap.size 3 1 v ul.length (unV ul)) (hr : w1.heap.size = r)
  (hX : w1.alloc (.cells (repC v (.slice none 0 0) (.slice none 0 0) (.slice none 0 0) (.slice none 0 0)) 99) = X0) : VR kt B k g p q f T un ul rd bl dn zs bd w w.heap.size r [(v, ul), (.slice none 0 0, []), (.slice none 0 0, []), (.slice none 0 0, []), (.slice none 0 0, [])] X0 := by
 have hWl := (Array.getElem?_eq_some_iff.1 hWn).1
 have hbX : Below w1.heap.size w1 X0 := by rw [← hX]; exact (Below.refl _ _).alloc (Nat.le_refl _) _
 have hbb : Below w.heap.size w X0 := hbW.trans ((hb1.trans (hbX.mono hb1.size)).mono hbW.size)
 have hsz := hb1.size
 refine ⟨h.below hbb, ⟨?_, ?_, ?_, ?_⟩, ?_, by omega, ⟨Nat.le_refl _, by omega⟩, Fr.below hbb⟩
 ·rw [← hX, ← hr]; exact heap_alloc_new _ _
 ·intro x hx
  simp only [List.mem_cons, List.not_mem_nil, or_false] at hx
  rcases hx with rfl | rfl | rfl | rfl | rfl
  ·exact own_base (own_below ho hbX) hbW.size
  ·exact own_nil _ _
  ·exact own_nil _ _
  ·exact own_nil _ _
  ·exact own_nil _ _
 ·simp [apt_nil]
 ·intro x hx j hj ho'
  simp only [List.mem_cons, List.not_mem_nil, or_false] at hx
  rcases hx with rfl | rfl | rfl | rfl | rfl
  ·have h1 := own_ge ho j hj
   have h2 := h.outs j ho'
   omega
  ·cases hj
  ·cases hj
  ·cases hj
  ·cases hj
 ·rw [(hb1.trans (hbX.mono hb1.size)).block _ hWl]; exact hWn
theorem Gd.ne {kt : Nat → Int} {w : World} {j n : Nat} {t : TypeId} {F : Nat → Value} (h : Gd kt w) (hr : Rw w j n t F) (hF : ∀ i x, F i ≠ .int .u32 x) : j ≠ 2 := fun e => by
 subst e
 have h0 := h.tab 0 (by omega)
 rcases Nat.eq_zero_or_pos n with hn | hn
 ·subst hn
  have hr' : w.heap[2]? = some (.cells (rowV 0 F) t (0, 0)) := hr
  have : rowV 0 F = #[] := Array.eq_empty_of_size_eq_zero (rowV_size 0 F)
  rw [this] at hr'
  simp [World.cell?, hr'] at h0
 ·rw [hr.cell 0 hn] at h0
  exact hF 0 _ (Option.some.inj h0)
theorem Gd.fr {kt : Nat → Int} {w w' : World} {S : Nat → Prop} (h : Gd kt w) (hF : Fr S w w') (hS : ¬ S 2) : Gd kt w' :=
 ⟨fun k hk => (hF.cell (g := 2) (by have := h.one; omega) hS k).trans (h.tab k hk), Nat.le_trans h.one hF.size⟩
theorem VS.gd {kt : Nat → Int} {B k g p q f : Nat} {T : TT} {un : Value} {ul : List Nat} {rd : Nat → Bool} {bl : Nat → ByteArray} {dn : Nat → Bool} {zs : Nat → Nat} {bd : Nat → Value} {w w' : World} (h : VS kt B k g p q f T un ul rd bl dn zs bd w) (hG : Gd kt w) (hF : Fr (fun j => j = q ∨ j = f) w w') : Gd kt w' :=
 hG.fr hF (fun e => by
  rcases e with e | e
  ·exact hG.ne h.blR (fun i x => by unfold tX; simp) e.symm
  ·exact hG.ne h.fiR (fun i x => by unfold fiP; split <;> simp) e.symm)
theorem set99 {w0 w : World} {r0 q f : Nat} {cs : Array Value} (h : w.heap[r0]? = some (.cells cs 99 (0, 0))) (hr : w0.heap.size ≤ r0) (hF : Fr (fun j => j = q ∨ j = f) w0 w) (i : Nat) (v : Value) : (w.setCell ⟨r0, i, none⟩ v).heap[r0]? = some (.cells (cs.setIfInBounds i v) 99 (0, 0)) ∧ Fr (fun j => j = q ∨ j = f) w0 (w.setCell ⟨r0, i, none⟩ v) ∧ (∀ (j : Nat) (c : Array Value) (t : TypeId), t ≠ 99 → w.heap[j]? = some (.cells c t (0, 0)) → (w.setCell ⟨r0, i, none⟩ v).heap[j]? = some (.cells c t (0, 0))) :=
 ⟨set_heap _ _ _ _ _ _ _ h, hF.set (.inr hr) _ _, fun j c t ht hj => by rw [set_other _ _ _ _ _ (row_ne hj h ht)]; exact hj⟩
theorem VS.all {kt : Nat → Int} {B k g p q f : Nat} {T : TT} {un : Value} {ul : List Nat} {rd : Nat → Bool} {bl : Nat → ByteArray} {dn : Nat → Bool} {zs : Nat → Nat} {bd : Nat → Value} {w w' : World} (h : VS kt B k g p q f T un ul rd bl dn zs bd w) (ho : ∀ (j : Nat) (cs : Array Value) (t : TypeId), t ≠ 99 → w.heap[j]? = some (.cells cs t (0, 0)) → w'.heap[j]? = some (.cells cs t (0, 0))) : VS kt B k g p q f T un ul rd bl dn zs bd w' :=
 h.kept (fun j cs t ht hj => ho j cs t (by rcases ht with e | e | e | e | e | e | e <;> simp [e]) hj) (fun j hj => by
  rcases hj with e | ⟨s, hs, hd, e⟩
  ·obtain ⟨cur, hcur⟩ := own_type h.unO j e
   rw [ho _ _ _ (by decide) hcur, hcur]
  ·obtain ⟨cur, hcur⟩ := own_type (h.fn s hs hd).2 j e
   rw [ho _ _ _ (by decide) hcur, hcur])
theorem own_all {w w' : World} {B n : Nat} {v : Value} {xs : List Value} (h : w.ownsRow B 3 1 v n xs) (ho : ∀ (j : Nat) (cs : Array Value) (t : TypeId), t ≠ 99 → w.heap[j]? = some (.cells cs t (0, 0)) → w'.heap[j]? = some (.cells cs t (0, 0))) : w'.ownsRow B 3 1 v n xs := own_kept' h (fun j cs _ hj => ho j cs 3 (by decide) hj)
theorem verify_any (kt : Nat → Int) (B k g p q f : Nat) (T : TT) (un : Value) (ul : List Nat) (rd : Nat → Bool) (bl : Nat → ByteArray) (dn : Nat → Bool) (zs : Nat → Nat) (bd : Nat → Value) (w : World) (h : VS kt B k g p q f T un ul rd bl dn zs bd w) (hT : Told1 T) (hle : T.L.es.length ≤ 16 ∧ lenE T.L.es ≤ 4096) (hul : ul.length ≤ 10000000000000) (hG : Gd kt w) (hB : B ≤ w.heap.size) :
  Calls Tryz.prog 80 #[.pointer (some ⟨k, 0, none⟩)] w fun e w' => VDid kt B k g p q f T un ul rd bl dn w e w' := by
 have H : Hid _ := h
 have hkl : k < w.heap.size := (Array.getElem?_eq_some_iff.1 h.row).1
 have HCL : Hid (∀ X : World, Below w.heap.size w X → Calls Tryz.prog 126 #[un] X fun e w' => ∃ v', e = .returned v' ∧ w'.ownsRow X.heap.size 3 1 v' ul.length (unV ul) ∧ Below X.heap.size X w') := fun X hX => clone_i B ul.length un ul X (own_below h.unO hX) hul
 have k1 : w.cell? ⟨k, 1, none⟩ = some un := cell_of_row _ _ _ _ 224 _ h.row
 obtain ⟨W, hW⟩ : ∃ W, w.alloc (.cells nil5 99) = W := ⟨_, rfl⟩
 have hbW : Below w.heap.size w W := by rw [← hW]; exact (Below.refl _ _).alloc (Nat.le_refl _) _
 have hWn : W.heap[w.heap.size]? = some (.cells nil5 99 (0, 0)) := by rw [← hW]; exact heap_alloc_new _ _
 have kw : W.cell? ⟨k, 1, none⟩ = some un := (hbW.cell (p := ⟨k, 1, none⟩) hkl).trans k1
 obtain ⟨au, cu, hun⟩ := own_shape h.unO
 subst hun
 have HBW : Hid _ := hbW
 have HWN : Hid _ := hWn
 have HLE : Hid _ := hle
 have hW' : w.alloc (.cells #[.slice none 0 0, .slice none 0 0, .slice none 0 0, .slice none 0 0, .slice none 0 0] 99) = W := hW
 clear h hbW hWn k1 hW
 go_enter Tryz.func80, Tryz.ntmps80
 go_wp2_with fail
 refine Calls.mono (HCL.out W HBW.out) ?_
 rintro e w1 ⟨v1, rfl, ho1, hb1⟩
 obtain ⟨a1, c1, hv1⟩ := own_shape ho1
 subst hv1
 obtain ⟨r, hr⟩ : ∃ r, w1.heap.size = r := ⟨_, rfl⟩
 obtain ⟨X0, hX0⟩ : ∃ X, w1.alloc (.cells #[.slice a1 ul.length c1, .slice none 0 0, .slice none 0 0, .slice none 0 0, .slice none 0 0] 99) = X := ⟨_, rfl⟩
 have HV0 : Hid _ := VR.start H.out HBW.out HWN.out hb1 ho1 hr hX0
 have hsz1 := hb1.size
 have hsz2 := HBW.out.size
 obtain ⟨r0, hr0⟩ : ∃ r0, w.heap.size = r0 := ⟨_, rfl⟩
 have y2 : X0.cell? ⟨k, 2, none⟩ = some (.slice (some ⟨p, 0, none⟩) T.L.V T.L.V) := cell_of_row _ _ _ _ 224 _ HV0.out.vs.row
 obtain ⟨V, hVe⟩ : ∃ x, T.L.V = x := ⟨_, rfl⟩
 have hv16 := hT.v16
 rw [hVe] at y2 hv16
 have HVE : Hid _ := hVe
 rw [← hX0] at y2
 have HR : Hid _ := hr
 have HX : Hid _ := hX0
 have HR0 : Hid _ := hr0
 clear hb1 ho1 kw hr hX0 hr0 hW'
 go_wp2_with fail
 rw [HX.out, HR.out, HR0.out]
 clear y2
 go_loopw [19] (fun iv wr => ∃ (i : Nat) (va : Value), i ≤ V ∧ iv = .int .i64 i ∧ VR kt B k g p q f T (.slice au ul.length cu) ul rd bl dn zs bd w r0 r [(.slice a1 ul.length c1, ul), (va, abF rd i), (.slice none 0 0, []), (.slice none 0 0, []), (.slice none 0 0, [])] wr) (fun iv _ => V - (intOf iv).toNat)
 case atStart => exact ⟨0, _, by omega, rfl, by have := HV0.out; rw [HR0.out] at this; exact this⟩
 case round =>
  obtain ⟨i, va, hi, rfl, hI⟩ := hrel
  have HI : Hid _ := hI
  by_cases hlt : i < V
  ·have d1 : wr.cell? ⟨p, i, none⟩ = some (.bool (rd i)) := hI.vs.rdR.cell i (by rw [HVE.out]; exact hlt)
   have hin : (i : Int) < (V : Int) := by omega
   cases hrd : rd i with
   | true =>
    rw [hrd] at d1
    have HRD : Hid _ := hrd
    clear hI hrd
    go_wp2_with fail
    go_roundw
    case rel => exact ⟨i + 1, va, by omega, by go_num, by rw [abF, if_pos HRD.out]; exact HI.out⟩
    case measure => simp [intOf]; omega
   | false =>
    rw [hrd] at d1
    have hal := abF_len rd i
    obtain ⟨v', w2, hr2, hV2, hrow⟩ := VR.one (l1 := [(.slice a1 ul.length c1, ul)]) i hI (by omega)
    have HRUN : Hid _ := hr2
    have HV2 : Hid _ := hV2
    have d2 : wr.cell? ⟨r, 1, none⟩ = some va := cell_of_row _ _ _ _ 99 _ hI.rl.row
    have m1 : w2.cell? ⟨r, 1, none⟩ = some va := cell_of_row _ _ _ _ 99 _ hrow
    have m2 := frozen_of_row w2 r 1 _ 99 hrow
    have HRD : Hid _ := hrd
    obtain ⟨av, cv, hva⟩ : ∃ a c, va = .slice a (abF rd i).length c := own_shape (hI.rl.own (va, abF rd i) (by simp))
    obtain ⟨av', cv', hva'⟩ : ∃ a c, v' = .slice a ((abF rd i).length + 1) c := by have := own_shape (hV2.rl.own (v', abF rd i ++ [i]) (by simp)); rw [show (v', abF rd i ++ [i]).2.length = (abF rd i).length + 1 by simp] at this; exact this
    subst hva hva'
    clear hI hrd hr2 hV2 hrow
    go_wp2_with (at_builtin; refine wpList_app rfl (.tmp 27) (.tmp 29) 39 rfl _ _ _ (by simp [Act.eval]) (by simp [Act.eval]) _ HRUN.out ?_)
    refine ⟨⟨i + 1, .slice av' ((abF rd i).length + 1) cv', by omega, by go_num, ?_⟩, by simp [intOf]; omega⟩
    have := HV2.out
    rw [abF, if_neg (by rw [HRD.out]; simp)]
    exact this
  ·have ei : i = V := by omega
   subst ei
   obtain ⟨ns, hns⟩ : ∃ x, T.L.ns = x := ⟨_, rfl⟩
   have y4 : wr.cell? ⟨k, 4, none⟩ = some (.slice (some ⟨f, 0, none⟩) ns ns) := by rw [← hns]; exact cell_of_row _ _ _ _ 224 _ hI.vs.row
   have hn0 : 0 < T.n := by have := hT.k1; unfold TT.n; omega
   have hnc : ns * T.n ≤ 512 := by rw [← hns]; exact hT.cnt
   have HNS : Hid _ := hns
   clear hI
   go_wp2_with fail
   clear y4
   go_loopw [38] (fun sv wr => ∃ (s : Nat) (zs' : Nat → Nat) (bd' : Nat → Value) (vb vs vf : Value), s ≤ ns ∧ sv = .int .i64 s ∧ VR kt B k g p q f T (.slice au ul.length cu) ul rd bl (dnS dn s) zs' bd' w r0 r [(.slice a1 ul.length c1, ul), (va, abF rd i), (vb, baF kt T bl s), (vs, fsF kt T bl 1 s), (vf, fsF kt T bl 2 s)] wr) (fun sv _ => ns - (intOf sv).toNat)
   case atStart => exact ⟨0, zs, bd, _, _, _, by omega, rfl, by rw [dnS_0]; exact HI.out⟩
   case round =>
    obtain ⟨s, zs', bd', vb, vs, vf, hsn, rfl, hJ⟩ := hrel
    have HJ : Hid _ := hJ
    by_cases hlt : s < ns
    ·have HST : Hid _ := stripe_any kt B k g p q f s T (.slice au ul.length cu) ul rd bl (dnS dn s) zs' bd' wr hJ.vs hT HLE.out (H.out.gd hG hJ.fr) (Nat.le_trans hB hJ.fr.size) (by rw [hns]; exact hlt)
     have hin : (s : Int) < (ns : Int) := by omega
     clear hJ
     go_wp2_with fail
     refine Calls.mono HST.out ?_
     rintro e w1 ⟨zs1, bd1, rfl, hv1, hF1, h1, h2⟩
     have hJ1 := VR.stripe HJ.out hv1 hF1 h1 h2
     rw [dnS_step] at hJ1
     clear hv1 hF1 h1 h2
     have hds : dnS dn (s + 1) s = true := by simp [dnS]
     have hle1 := baF_len kt T bl s
     have hle2 : s * T.n ≤ 512 := Nat.le_trans (Nat.mul_le_mul_right _ hsn) hnc
     have hle3 : (stB kt T bl s).length ≤ T.n := badF_len _ _ _
     have hle4 : T.n ≤ 255 := hT.km
     have hle5 : s ≤ 512 := by have : s * 1 ≤ s * T.n := Nat.mul_le_mul_left s hn0; omega
     have hfl1 := fsF_len kt T bl 1 s
     have hfl2 := fsF_len kt T bl 2 s
     obtain ⟨v', w2, hr2, hJ2, hrow⟩ := VR.more (l1 := [(.slice a1 ul.length c1, ul), (va, abF rd i)]) s hJ1 (by rw [hns]; exact hlt) hds (by omega) (by omega)
     have HRUN : Hid _ := hr2
     have HJ2 : Hid _ := hJ2
     have m1 : w2.cell? ⟨r, 2, none⟩ = some vb := cell_of_row _ _ _ _ 99 _ hrow
     have m2 := frozen_of_row w2 r 2 _ 99 hrow
     have d2 : w1.cell? ⟨r, 2, none⟩ = some vb := cell_of_row _ _ _ _ 99 _ hJ1.rl.row
     obtain ⟨zr, _⟩ := hJ1.vs.fn s (by rw [hns]; exact hlt) hds
     obtain ⟨z, hz⟩ : ∃ z, zs1 s = z := ⟨_, rfl⟩
     rw [hz] at zr ⊢
     have d3 : w1.cell? ⟨z, 0, none⟩ = some (bd1 s) := cell_of_row _ _ _ _ 231 _ zr
     obtain ⟨Y, hY⟩ : ∃ Y, w2.setCell ⟨r, 2, none⟩ v' = Y := ⟨_, rfl⟩
     have hJ3 : VR kt B k g p q f T (.slice au ul.length cu) ul rd bl (dnS dn (s + 1)) zs1 bd1 w r0 r [(.slice a1 ul.length c1, ul), (va, abF rd i), (v', baF kt T bl (s + 1)), (vs, fsF kt T bl 1 s), (vf, fsF kt T bl 2 s)] Y := by rw [← hY]; exact hJ2
     obtain ⟨zr2, _⟩ := hJ3.vs.fn s (by rw [hns]; exact hlt) hds
     obtain ⟨fa, hfa⟩ : ∃ x, stF kt T bl s = x := ⟨_, rfl⟩
     rw [hz, hfa] at zr2
     have d4 : Y.cell? ⟨z, 1, none⟩ = some (.int .i64 fa) := cell_of_row _ _ _ _ 231 _ zr2
     have HJ3 : Hid _ := hJ3
     have HFA : Hid _ := hfa
     obtain ⟨ab, cb, hvb⟩ : ∃ a c, vb = .slice a (baF kt T bl s).length c := own_shape (hJ1.rl.own (vb, baF kt T bl s) (by simp))
     obtain ⟨ab', cb', hvb'⟩ : ∃ a c, v' = .slice a (baF kt T bl (s + 1)).length c := own_shape (hJ3.rl.own (v', baF kt T bl (s + 1)) (by simp))
     obtain ⟨ad, cd, hbd⟩ : ∃ a c, bd1 s = .slice a (stB kt T bl s).length c := own_shape (hJ1.vs.fn s (by rw [hns]; exact hlt) hds).2
     rw [hbd] at d3 HRUN
     by_cases e1 : fa = 1
     ·subst e1
      obtain ⟨v3, w3, hr3, hJ4, hrow3⟩ := VR.one (l1 := [(.slice a1 ul.length c1, ul), (va, abF rd i), (v', baF kt T bl (s + 1))]) s hJ3 (by omega)
      have HRUN3 : Hid _ := hr3
      have HJ4 : Hid _ := hJ4
      have m3 : w3.cell? ⟨r, 3, none⟩ = some vs := cell_of_row _ _ _ _ 99 _ hrow3
      have m4 := frozen_of_row w3 r 3 _ 99 hrow3
      have d5 : Y.cell? ⟨r, 3, none⟩ = some vs := cell_of_row _ _ _ _ 99 _ hJ3.rl.row
      obtain ⟨av, cv, hva⟩ : ∃ a c, vs = .slice a (fsF kt T bl 1 s).length c := own_shape (hJ3.rl.own (vs, fsF kt T bl 1 s) (by simp))
      obtain ⟨av', cv', hva'⟩ : ∃ a c, v3 = .slice a ((fsF kt T bl 1 s).length + 1) c := by have := own_shape (hJ4.rl.own (v3, fsF kt T bl 1 s ++ [s]) (by simp)); rw [show (v3, fsF kt T bl 1 s ++ [s]).2.length = (fsF kt T bl 1 s).length + 1 by simp] at this; exact this
      subst hvb hvb' hva hva'
      clear hJ1 hJ2 hJ3 hJ4 hr2 hr3 hrow hrow3 zr zr2 hfa hbd
      go_wp2_with fail
      go_region_law (refine step_app rfl (.tmp 45) (.tmp 49) 39 rfl _ _ _ (by simp [Act.eval]) (by simp [Act.eval]) _ HRUN.out ?_)
      all_goals go_wp2_with (at_builtin; refine wpList_app rfl (.tmp 59) (.tmp 61) 39 rfl _ _ _ (by simp [Act.eval]) (by simp [Act.eval]) _ HRUN3.out ?_)
      all_goals (refine ⟨⟨s + 1, zs1, bd1, .slice ab' (baF kt T bl (s + 1)).length cb', .slice av' ((fsF kt T bl 1 s).length + 1) cv', vf, by omega, by go_num, ?_⟩, by simp [intOf]; omega⟩; rw [fsF, fsF, HFA.out, if_pos rfl, if_neg (by omega)]; exact HJ4.out)
     ·by_cases e2 : fa = 2
      ·subst e2
       obtain ⟨v3, w3, hr3, hJ4, hrow3⟩ := VR.one (l1 := [(.slice a1 ul.length c1, ul), (va, abF rd i), (v', baF kt T bl (s + 1)), (vs, fsF kt T bl 1 s)]) s hJ3 (by omega)
       have HRUN3 : Hid _ := hr3
       have HJ4 : Hid _ := hJ4
       have m3 : w3.cell? ⟨r, 4, none⟩ = some vf := cell_of_row _ _ _ _ 99 _ hrow3
       have m4 := frozen_of_row w3 r 4 _ 99 hrow3
       have d5 : Y.cell? ⟨r, 4, none⟩ = some vf := cell_of_row _ _ _ _ 99 _ hJ3.rl.row
       obtain ⟨av, cv, hva⟩ : ∃ a c, vf = .slice a (fsF kt T bl 2 s).length c := own_shape (hJ3.rl.own (vf, fsF kt T bl 2 s) (by simp))
       obtain ⟨av', cv', hva'⟩ : ∃ a c, v3 = .slice a ((fsF kt T bl 2 s).length + 1) c := by have := own_shape (hJ4.rl.own (v3, fsF kt T bl 2 s ++ [s]) (by simp)); rw [show (v3, fsF kt T bl 2 s ++ [s]).2.length = (fsF kt T bl 2 s).length + 1 by simp] at this; exact this
       subst hvb hvb' hva hva'
       clear hJ1 hJ2 hJ3 hJ4 hr2 hr3 hrow hrow3 zr zr2 hfa hbd
       go_wp2_with fail
       go_region_law (refine step_app rfl (.tmp 45) (.tmp 49) 39 rfl _ _ _ (by simp [Act.eval]) (by simp [Act.eval]) _ HRUN.out ?_)
       all_goals go_wp2_with (at_builtin; refine wpList_app rfl (.tmp 67) (.tmp 69) 39 rfl _ _ _ (by simp [Act.eval]) (by simp [Act.eval]) _ HRUN3.out ?_)
       all_goals (refine ⟨⟨s + 1, zs1, bd1, .slice ab' (baF kt T bl (s + 1)).length cb', vs, .slice av' ((fsF kt T bl 2 s).length + 1) cv', by omega, by go_num, ?_⟩, by simp [intOf]; omega⟩; rw [fsF, fsF, HFA.out, if_neg (by omega), if_pos rfl]; exact HJ4.out)
      ·have b1 : ((fa : Int) == 1) = false := by simp; omega
       have b2 : ((fa : Int) == 2) = false := by simp; omega
       subst hvb hvb'
       clear hJ1 hJ2 hJ3 hr2 hrow zr zr2 hfa hbd
       go_wp2_with fail
       go_region_law (refine step_app rfl (.tmp 45) (.tmp 49) 39 rfl _ _ _ (by simp [Act.eval]) (by simp [Act.eval]) _ HRUN.out ?_)
       all_goals go_wp2_with fail
       all_goals (refine ⟨⟨s + 1, zs1, bd1, .slice ab' (baF kt T bl (s + 1)).length cb', vs, vf, by omega, by go_num, ?_⟩, by simp [intOf]; omega⟩; rw [fsF, fsF, HFA.out, if_neg (by omega), if_neg (by omega)]; exact HJ3.out)
    ·have es : s = ns := by omega
     subst es
     obtain ⟨ab, cb, hvb⟩ : ∃ a c, vb = .slice a (baF kt T bl s).length c := own_shape (hJ.rl.own (vb, baF kt T bl s) (by simp))
     obtain ⟨ash, cs, hvs⟩ : ∃ a c, vs = .slice a (fsF kt T bl 1 s).length c := own_shape (hJ.rl.own (vs, fsF kt T bl 1 s) (by simp))
     obtain ⟨af, cf, hvf⟩ : ∃ a c, vf = .slice a (fsF kt T bl 2 s).length c := own_shape (hJ.rl.own (vf, fsF kt T bl 2 s) (by simp))
     obtain ⟨aa, ca, hva⟩ : ∃ a c, va = .slice a (abF rd i).length c := own_shape (hJ.rl.own (va, abF rd i) (by simp))
     subst hvb hvs hvf hva
     have c0 : wr.cell? ⟨r, 0, none⟩ = some (.slice a1 ul.length c1) := cell_of_row _ _ _ _ 99 _ hJ.rl.row
     have c1' : wr.cell? ⟨r, 1, none⟩ = some (.slice aa (abF rd i).length ca) := cell_of_row _ _ _ _ 99 _ hJ.rl.row
     have c2 : wr.cell? ⟨r, 2, none⟩ = some (.slice ab (baF kt T bl s).length cb) := cell_of_row _ _ _ _ 99 _ hJ.rl.row
     have c3 : wr.cell? ⟨r, 3, none⟩ = some (.slice ash (fsF kt T bl 1 s).length cs) := cell_of_row _ _ _ _ 99 _ hJ.rl.row
     have c4 : wr.cell? ⟨r, 4, none⟩ = some (.slice af (fsF kt T bl 2 s).length cf) := cell_of_row _ _ _ _ 99 _ hJ.rl.row
     have o0 : wr.cell? ⟨r0, 0, none⟩ = some (.slice none 0 0) := cell_of_row _ _ _ _ 99 _ hJ.r0R
     have o1 : wr.cell? ⟨r0, 1, none⟩ = some (.slice none 0 0) := cell_of_row _ _ _ _ 99 _ hJ.r0R
     have o2 : wr.cell? ⟨r0, 2, none⟩ = some (.slice none 0 0) := cell_of_row _ _ _ _ 99 _ hJ.r0R
     have o3 : wr.cell? ⟨r0, 3, none⟩ = some (.slice none 0 0) := cell_of_row _ _ _ _ 99 _ hJ.r0R
     have o4 : wr.cell? ⟨r0, 4, none⟩ = some (.slice none 0 0) := cell_of_row _ _ _ _ 99 _ hJ.r0R
     have fz : ∀ j, wr.frozen? ⟨r0, j, none⟩ = false := fun j => frozen_of_row _ _ _ _ 99 hJ.r0R
     clear hJ
     go_wp2_with fail
     obtain ⟨h0, f0, k0⟩ := set99 HJ.out.r0R HJ.out.lo.1 HJ.out.fr 0 (.slice a1 ul.length c1)
     obtain ⟨h1, f1, k1⟩ := set99 h0 HJ.out.lo.1 f0 1 (.slice aa (abF rd i).length ca)
     obtain ⟨h2, f2, k2⟩ := set99 h1 HJ.out.lo.1 f1 2 (.slice ab (baF kt T bl s).length cb)
     obtain ⟨h3, f3, k3⟩ := set99 h2 HJ.out.lo.1 f2 3 (.slice ash (fsF kt T bl 1 s).length cs)
     obtain ⟨h4, f4, k4⟩ := set99 h3 HJ.out.lo.1 f3 4 (.slice af (fsF kt T bl 2 s).length cf)
     have hk := fun (j : Nat) (c : Array Value) (t : TypeId) (ht : t ≠ 99) hj => k4 j c t ht (k3 j c t ht (k2 j c t ht (k1 j c t ht (k0 j c t ht hj))))
     refine bodyPost_ret (v := .agg (repC (.slice a1 ul.length c1) (.slice aa (abF rd i).length ca) (.slice ab (baF kt T bl s).length cb) (.slice ash (fsF kt T bl 1 s).length cs) (.slice af (fsF kt T bl 2 s).length cf))) ?_ rfl ?_
     ·exact results_cell_row Tryz.results80 _ _ r0 99 _ (0, 0) _ rfl h4 Tryz.underlying99 rfl (by kernel_rfl)
     ·refine ⟨zs', bd', _, _, _, _, _, rfl, ?_, f4, ?_⟩
      ·have := HJ.out.vs.all hk
       rw [HNS.out]
       exact this
      ·rw [HNS.out, HVE.out]
       exact ⟨own_all (HJ.out.rl.own (.slice a1 ul.length c1, ul) (by simp)) hk, own_all (HJ.out.rl.own (.slice aa (abF rd i).length ca, abF rd i) (by simp)) hk, own_all (HJ.out.rl.own (.slice ab (baF kt T bl s).length cb, baF kt T bl s) (by simp)) hk, own_all (HJ.out.rl.own (.slice ash (fsF kt T bl 1 s).length cs, fsF kt T bl 1 s) (by simp)) hk, own_all (HJ.out.rl.own (.slice af (fsF kt T bl 2 s).length cf, fsF kt T bl 2 s) (by simp)) hk, (by
        have h := RL.rpa HJ.out.rl
        rw [HNS.out] at h
        exact h)⟩
end Go.Proofs.YtadinjaocnlglaaGreatDoor
