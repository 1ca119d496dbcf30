/-
  The walks of fullTexts, fullInts, fullObjects, fullEntries, looks.
  A hall: what a step leaves of it.
  The walks of vaultlaw's sameInts, sameEntries, sameObjects, sameParams.
-/
import Derived.Test.YtadinjaocnlglaaGreatDoorZ40
import Derived.Test.YtadinjaocnlglaaGreatDoorZ41
import Derived.Test.YtadinjaocnlglaaGreatDoorZ36
import Derived.BigQuiet
namespace Go.Proofs.YtadinjaocnlglaaGreatDoor
open Go.RowKit
set_option maxRecDepth 100000
set_option maxHeartbeats 4000000
theorem fulT_any (v : Value) (m : ByteArray) (w : World) (h : FulG w 9 1 (mk1 (.string m)) v) :
  Calls Tryz.prog 94 #[v, .string m] w fun e w' => e = .returned (.bool true) ∧ Below w.heap.size w w' := by
 obtain ⟨a, n, c, rfl, hn, h⟩ := h
 have HC : Hid (∀ i, i < n → ∃ g, a = some ⟨g, 0, none⟩ ∧ w.cell? ⟨g, i, none⟩ = some (.string m)) := by
  intro i hi
  rcases h with h0 | ⟨g, cur, ha, hh, hc⟩
  ·omega
  ·refine ⟨g, ha, ?_⟩
   rw [cell_of_row _ _ _ _ 9 _ hh]
   have := hc i hi 0 (by omega)
   simpa [mk1] using this
 clear h
 go_enter Tryz.func94, Tryz.ntmps94
 go_wp2_with fail
 go_loopw [5] (fun iv wr => ∃ i q : Nat, i ≤ n ∧ iv = .int .i64 i ∧ wr = w.drewN q) (fun iv _ => n - (intOf iv).toNat)
 case atStart => exact ⟨0, 0, by omega, rfl, rfl⟩
 case round =>
  obtain ⟨i, q, hi, rfl, hq⟩ := hrel
  by_cases hlt : i < n
  ·obtain ⟨g, ha, hc⟩ := HC.out i hlt
   subst ha
   have c1 : wr.cell? ⟨g, i, none⟩ = some (.string m) := by rw [hq]; exact hc
   have HQ : Hid _ := hq
   clear hq hc
   have hi0' : (0 : Int) ≤ (i : Int) := by omega
   have hin' : (i : Int) < (n : Int) := by omega
   go_wp2_with fail
   go_roundw
   case rel => exact ⟨i + 1, q, by omega, by go_num, HQ.out⟩
   case measure => simp [intOf]; omega
  ·have hin' : ¬ (i : Int) < (n : Int) := by omega
   have HQ : Hid _ := hq
   clear hq
   go_wp2_with fail
   go_ret
   exact ⟨rfl, by rw [HQ.out]; exact below_drewN (Below.refl _ _) q⟩
theorem fulI_any (v : Value) (m : Int) (w : World) (h : FulG w 3 1 (mk1 (.int .i64 m)) v) :
  Calls Tryz.prog 95 #[v, .int .i64 m] w fun e w' => e = .returned (.bool true) ∧ Below w.heap.size w w' := by
 obtain ⟨a, n, c, rfl, hn, h⟩ := h
 have HC : Hid (∀ i, i < n → ∃ g, a = some ⟨g, 0, none⟩ ∧ w.cell? ⟨g, i, none⟩ = some (.int .i64 m)) := by
  intro i hi
  rcases h with h0 | ⟨g, cur, ha, hh, hc⟩
  ·omega
  ·refine ⟨g, ha, ?_⟩
   rw [cell_of_row _ _ _ _ 3 _ hh]
   have := hc i hi 0 (by omega)
   simpa [mk1] using this
 clear h
 go_enter Tryz.func95, Tryz.ntmps95
 go_wp2_with fail
 go_loopw [5] (fun iv wr => ∃ i q : Nat, i ≤ n ∧ iv = .int .i64 i ∧ wr = w.drewN q) (fun iv _ => n - (intOf iv).toNat)
 case atStart => exact ⟨0, 0, by omega, rfl, rfl⟩
 case round =>
  obtain ⟨i, q, hi, rfl, hq⟩ := hrel
  by_cases hlt : i < n
  ·obtain ⟨g, ha, hc⟩ := HC.out i hlt
   subst ha
   have c1 : wr.cell? ⟨g, i, none⟩ = some (.int .i64 m) := by rw [hq]; exact hc
   have HQ : Hid _ := hq
   clear hq hc
   have hi0' : (0 : Int) ≤ (i : Int) := by omega
   have hin' : (i : Int) < (n : Int) := by omega
   go_wp2_with fail
   go_roundw
   case rel => exact ⟨i + 1, q, by omega, by go_num, HQ.out⟩
   case measure => simp [intOf]; omega
  ·have hin' : ¬ (i : Int) < (n : Int) := by omega
   have HQ : Hid _ := hq
   clear hq
   go_wp2_with fail
   go_ret
   exact ⟨rfl, by rw [HQ.out]; exact below_drewN (Below.refl _ _) q⟩
theorem fulO_any (v : Value) (m : ByteArray) (w : World) (h : FulG w 72 2 (mkO (.string m)) v) :
  Calls Tryz.prog 96 #[v, .string m] w fun e w' => e = .returned (.bool true) ∧ Below w.heap.size w w' := by
 obtain ⟨a, n, c, rfl, hn, h⟩ := h
 have HC : Hid (∀ i, i < n → ∃ g, a = some ⟨g, 0, none⟩ ∧ w.cell? ⟨g, i * 2, none⟩ = some (.string m) ∧ w.cell? ⟨g, i * 2 + 1, none⟩ = some (.string m)) := by
  intro i hi
  rcases h with h0 | ⟨g, cur, ha, hh, hc⟩
  ·omega
  ·refine ⟨g, ha, ?_, ?_⟩
   ·rw [cell_of_row _ _ _ _ 72 _ hh]
    exact hc i hi 0 (by omega)
   ·rw [cell_of_row _ _ _ _ 72 _ hh]
    exact hc i hi 1 (by omega)
 clear h
 go_enter Tryz.func96, Tryz.ntmps96
 go_wp2_with fail
 go_loopw [5] (fun iv wr => ∃ i q : Nat, i ≤ n ∧ iv = .int .i64 i ∧ wr = w.drewN q) (fun iv _ => n - (intOf iv).toNat)
 case atStart => exact ⟨0, 0, by omega, rfl, rfl⟩
 case round =>
  obtain ⟨i, q, hi, rfl, hq⟩ := hrel
  by_cases hlt : i < n
  ·obtain ⟨g, ha, hc, hd⟩ := HC.out i hlt
   subst ha
   have c1 : wr.cell? ⟨g, i * 2, none⟩ = some (.string m) := by rw [hq]; exact hc
   have c2 : wr.cell? ⟨g, i * 2 + 1, none⟩ = some (.string m) := by rw [hq]; exact hd
   clear hd
   have HQ : Hid _ := hq
   clear hq hc
   have hi0' : (0 : Int) ≤ (i : Int) := by omega
   have hin' : (i : Int) < (n : Int) := by omega
   go_wp2_with fail
   go_roundw
   case rel => exact ⟨i + 1, q, by omega, by go_num, HQ.out⟩
   case measure => simp [intOf]; omega
  ·have hin' : ¬ (i : Int) < (n : Int) := by omega
   have HQ : Hid _ := hq
   clear hq
   go_wp2_with fail
   go_ret
   exact ⟨rfl, by rw [HQ.out]; exact below_drewN (Below.refl _ _) q⟩
theorem fulE_any (v : Value) (m : ByteArray) (w : World) (h : FulG w 70 2 (mkE (.string m)) v) :
  Calls Tryz.prog 97 #[v, .string m] w fun e w' => e = .returned (.bool true) ∧ Below w.heap.size w w' := by
 obtain ⟨a, n, c, rfl, hn, h⟩ := h
 have HC : Hid (∀ i, i < n → ∃ g, a = some ⟨g, 0, none⟩ ∧ w.cell? ⟨g, i * 2, none⟩ = some (.string m) ∧ w.cell? ⟨g, i * 2 + 1, none⟩ = some (.int .i64 0)) := by
  intro i hi
  rcases h with h0 | ⟨g, cur, ha, hh, hc⟩
  ·omega
  ·refine ⟨g, ha, ?_, ?_⟩
   ·rw [cell_of_row _ _ _ _ 70 _ hh]
    exact hc i hi 0 (by omega)
   ·rw [cell_of_row _ _ _ _ 70 _ hh]
    exact hc i hi 1 (by omega)
 clear h
 go_enter Tryz.func97, Tryz.ntmps97
 go_wp2_with fail
 go_loopw [5] (fun iv wr => ∃ i q : Nat, i ≤ n ∧ iv = .int .i64 i ∧ wr = w.drewN q) (fun iv _ => n - (intOf iv).toNat)
 case atStart => exact ⟨0, 0, by omega, rfl, rfl⟩
 case round =>
  obtain ⟨i, q, hi, rfl, hq⟩ := hrel
  by_cases hlt : i < n
  ·obtain ⟨g, ha, hc, hd⟩ := HC.out i hlt
   subst ha
   have c1 : wr.cell? ⟨g, i * 2, none⟩ = some (.string m) := by rw [hq]; exact hc
   have c2 : wr.cell? ⟨g, i * 2 + 1, none⟩ = some (.int .i64 0) := by rw [hq]; exact hd
   clear hd
   have HQ : Hid _ := hq
   clear hq hc
   have hi0' : (0 : Int) ≤ (i : Int) := by omega
   have hin' : (i : Int) < (n : Int) := by omega
   go_wp2_with fail
   go_roundw
   case rel => exact ⟨i + 1, q, by omega, by go_num, HQ.out⟩
   case measure => simp [intOf]; omega
  ·have hin' : ¬ (i : Int) < (n : Int) := by omega
   have HQ : Hid _ := hq
   clear hq
   go_wp2_with fail
   go_ret
   exact ⟨rfl, by rw [HQ.out]; exact below_drewN (Below.refl _ _) q⟩
theorem looksG (base B : Nat) (l0 lo : Value) (bk : Bk) (w : World) (H : BkI base B l0 lo bk w) (hT : bk.T.length ≤ 100000000000) (hI : bk.I.length ≤ 100000000000) (hO : bk.O.length ≤ 100000000000) (hE : bk.E.length ≤ 100000000000) :
  Calls Tryz.prog 52 #[.pointer (some ⟨B, 1, none⟩)] w fun e w' => e = .returned (.bool true) ∧ Below w.heap.size w w' := by
 have HH : Hid (BkI base B l0 lo bk w) := H
 obtain ⟨vT, vI, vO, vE, h1, h2, h3, h4, h5⟩ := H.row
 obtain ⟨aT, cT, rfl⟩ := own_shape h2
 obtain ⟨aI, cI, rfl⟩ := own_shape h3
 obtain ⟨aO, cO, rfl⟩ := own_shape h4
 obtain ⟨aE, cE, rfl⟩ := own_shape h5
 have H2 : Hid _ := h2
 have H3 : Hid _ := h3
 have H4 : Hid _ := h4
 have H5 : Hid _ := h5
 have hBl : B < w.heap.size := (Array.getElem?_eq_some_iff.1 h1).1
 have HC : Hid (∀ X : World, Below w.heap.size w X → X.cell? ⟨B, 2, none⟩ = some (.slice aT bk.T.length cT) ∧ X.cell? ⟨B, 3, none⟩ = some (.slice aI bk.I.length cI) ∧ X.cell? ⟨B, 4, none⟩ = some (.slice aO bk.O.length cO) ∧ X.cell? ⟨B, 5, none⟩ = some (.slice aE bk.E.length cE)) := fun X hX => by
  have e := (hX.block B hBl).trans h1
  exact ⟨cell_of_row _ _ _ _ 50 _ e, cell_of_row _ _ _ _ 50 _ e, cell_of_row _ _ _ _ 50 _ e, cell_of_row _ _ _ _ 50 _ e⟩
 clear H h1 h2 h3 h4 h5
 go_enter Tryz.func52, Tryz.ntmps52
 go_wp2_with fail
 go_loopw [3] (fun iv wr => ∃ i : Nat, i ≤ bk.T.length ∧ iv = .int .i64 i ∧ Below w.heap.size w wr) (fun iv _ => bk.T.length - (intOf iv).toNat)
 case atStart => exact ⟨0, Nat.zero_le _, rfl, Below.refl _ _⟩
 case round =>
  obtain ⟨i, hi, rfl, hb⟩ := hrel
  have HBT : Hid (Below w.heap.size w wr) := hb
  obtain ⟨o2, o3, o4, o5⟩ := HC.out wr hb
  by_cases hlt : i < bk.T.length
  ·obtain ⟨g, ha, hgl, hc⟩ := own_flatG H2.out i hlt
   subst ha
   obtain ⟨e, he⟩ : ∃ e, bk.T[i] = e := ⟨_, rfl⟩
   obtain ⟨hok, hm, _⟩ := (HH.out.low hb).T e (by rw [← he]; exact List.getElem_mem hlt)
   rw [he] at hc
   obtain ⟨el, ea, eb, ec, em0⟩ := e
   obtain ⟨em, rfl⟩ : ∃ s, em0 = .string s := hm
   obtain ⟨f1, f2, f3, f4⟩ := hok
   have F1 : Hid (FulG wr 9 1 (mk1 (.string em)) el) := f1
   have F2 : Hid (FulG wr 9 1 (mk1 (.string em)) ea) := f2
   have F3 : Hid (FulG wr 9 1 (mk1 (.string em)) eb) := f3
   have F4 : Hid (FulG wr 9 1 (mk1 (.string em)) ec) := f4
   obtain ⟨l1, l2, l3, hl, _⟩ := f1
   subst hl
   obtain ⟨m1, m2, m3, hm, _⟩ := f2
   subst hm
   obtain ⟨p1, p2, p3, hp, _⟩ := f3
   subst hp
   obtain ⟨q1, q2, q3, hq, _⟩ := f4
   subst hq
   have c0 : wr.cell? ⟨g, i * 5, none⟩ = some (.slice l1 l2 l3) := (hb.cell (p := ⟨g, i * 5, none⟩) hgl).trans (hc 0 (by omega))
   have c1 : wr.cell? ⟨g, i * 5 + 1, none⟩ = some (.slice m1 m2 m3) := (hb.cell (p := ⟨g, i * 5 + 1, none⟩) hgl).trans (hc 1 (by omega))
   have c2 : wr.cell? ⟨g, i * 5 + 2, none⟩ = some (.slice p1 p2 p3) := (hb.cell (p := ⟨g, i * 5 + 2, none⟩) hgl).trans (hc 2 (by omega))
   have c3 : wr.cell? ⟨g, i * 5 + 3, none⟩ = some (.slice q1 q2 q3) := (hb.cell (p := ⟨g, i * 5 + 3, none⟩) hgl).trans (hc 3 (by omega))
   have c4 : wr.cell? ⟨g, i * 5 + 4, none⟩ = some (.string em) := (hb.cell (p := ⟨g, i * 5 + 4, none⟩) hgl).trans (hc 4 (by omega))
   have hi0 : (0 : Int) ≤ (i : Int) := by omega
   have hin : (i : Int) < (bk.T.length : Int) := by omega
   clear hc hb he
   go_wp2_with fail
   obtain ⟨w1, hw1⟩ : ∃ w1, w1 = wr.alloc (Obj.cells #[Value.slice l1 l2 l3, Value.slice m1 m2 m3, Value.slice p1 p2 p3, Value.slice q1 q2 q3, .string em] 191) := ⟨_, rfl⟩
   have hrow : w1.heap[wr.heap.size]? = some (.cells #[Value.slice l1 l2 l3, Value.slice m1 m2 m3, Value.slice p1 p2 p3, Value.slice q1 q2 q3, .string em] 191 (0, 0)) := by rw [hw1]; exact heap_alloc_new _ _
   have HB1 : Hid (Below wr.heap.size wr w1) := by show Below wr.heap.size wr w1; rw [hw1]; exact (Below.refl _ _).alloc (Nat.le_refl _) _
   rw [← hw1]
   clear hw1 c0 c1 c2 c3 c4 o2 o3 o4 o5
   obtain ⟨x, hx⟩ : ∃ x, x = wr.heap.size := ⟨_, rfl⟩
   have hxl : x < w1.heap.size := by rw [hx]; exact (Array.getElem?_eq_some_iff.1 hrow).1
   rw [← hx] at hrow ⊢
   have HR : Hid (∀ X : World, Below w1.heap.size w1 X → X.heap[x]? = some (.cells #[Value.slice l1 l2 l3, Value.slice m1 m2 m3, Value.slice p1 p2 p3, Value.slice q1 q2 q3, .string em] 191 (0, 0))) := fun X hX => (hX.block x hxl).trans hrow
   have HLO : Hid (∀ (X : World) (v : Value), Below w1.heap.size w1 X → FulG wr 9 1 (mk1 (.string em)) v → FulG X 9 1 (mk1 (.string em)) v) := fun X v hX hv => hv.kept (fun q cur _ hc => by
    have hql := (Array.getElem?_eq_some_iff.1 hc).1
    rw [hX.block q (Nat.lt_of_lt_of_le hql HB1.out.size), HB1.out.block q hql])
   clear hx hrow hxl
   refine (fulT_any _ _ _ (HLO.out w1 _ (Below.refl _ _) F1.out)).mono ?_
   rintro e' w2 ⟨rfl, y1⟩
   have r0 : w2.cell? ⟨x, 1, none⟩ = some (.slice m1 m2 m3) := cell_of_row _ _ _ _ 191 _ (HR.out w2 y1)
   have r4 : w2.cell? ⟨x, 4, none⟩ = some (.string em) := cell_of_row _ _ _ _ 191 _ (HR.out w2 y1)
   have Y0 : Hid _ := y1
   clear y1
   go_wp2_with fail
   refine (fulT_any _ _ _ (HLO.out w2 _ Y0.out F2.out)).mono ?_
   rintro e' w3 ⟨rfl, z0⟩
   have y2 : Below w1.heap.size w1 w3 := Y0.out.trans (z0.mono Y0.out.size)
   clear r0 r4 z0
   have r0 : w3.cell? ⟨x, 2, none⟩ = some (.slice p1 p2 p3) := cell_of_row _ _ _ _ 191 _ (HR.out w3 y2)
   have r4 : w3.cell? ⟨x, 4, none⟩ = some (.string em) := cell_of_row _ _ _ _ 191 _ (HR.out w3 y2)
   have Y1 : Hid _ := y2
   clear y2
   go_wp2_with fail
   refine (fulT_any _ _ _ (HLO.out w3 _ Y1.out F3.out)).mono ?_
   rintro e' w4 ⟨rfl, z1⟩
   have y3 : Below w1.heap.size w1 w4 := Y1.out.trans (z1.mono Y1.out.size)
   clear r0 r4 z1
   have r0 : w4.cell? ⟨x, 3, none⟩ = some (.slice q1 q2 q3) := cell_of_row _ _ _ _ 191 _ (HR.out w4 y3)
   have r4 : w4.cell? ⟨x, 4, none⟩ = some (.string em) := cell_of_row _ _ _ _ 191 _ (HR.out w4 y3)
   have Y2 : Hid _ := y3
   clear y3
   go_wp2_with fail
   refine (fulT_any _ _ _ (HLO.out w4 _ Y2.out F4.out)).mono ?_
   rintro e' w5 ⟨rfl, z2⟩
   have y4 : Below w1.heap.size w1 w5 := Y2.out.trans (z2.mono Y2.out.size)
   clear r0 r4 z2
   have hbz : Below w.heap.size w w5 := HBT.out.trans ((HB1.out.trans (y4.mono HB1.out.size)).mono HBT.out.size)
   have HBZ : Hid _ := hbz
   clear y4 hbz
   go_wp2_with fail
   go_roundw
   case rel => exact ⟨i + 1, by omega, by go_num, HBZ.out⟩
   case measure => simp [intOf]; omega
  ·have hin : ¬ (i : Int) < (bk.T.length : Int) := by omega
   clear hb
   go_wp2_with fail
   go_loopw [5] (fun iv wr => ∃ i : Nat, i ≤ bk.I.length ∧ iv = .int .i64 i ∧ Below w.heap.size w wr) (fun iv _ => bk.I.length - (intOf iv).toNat)
   case atStart => exact ⟨0, Nat.zero_le _, rfl, HBT.out⟩
   case round =>
    obtain ⟨i, hi, rfl, hb⟩ := hrel
    have HBI : Hid (Below w.heap.size w wr) := hb
    obtain ⟨o2, o3, o4, o5⟩ := HC.out wr hb
    by_cases hlt : i < bk.I.length
    ·obtain ⟨g, ha, hgl, hc⟩ := own_flatG H3.out i hlt
     subst ha
     obtain ⟨e, he⟩ : ∃ e, bk.I[i] = e := ⟨_, rfl⟩
     obtain ⟨hok, hm, _⟩ := (HH.out.low hb).I e (by rw [← he]; exact List.getElem_mem hlt)
     rw [he] at hc
     obtain ⟨el, ea, eb, ec, em0⟩ := e
     obtain ⟨em, rfl⟩ : ∃ s, em0 = .int .i64 s := hm
     obtain ⟨f1, f2, f3, f4⟩ := hok
     have F1 : Hid (FulG wr 3 1 (mk1 (.int .i64 em)) el) := f1
     have F2 : Hid (FulG wr 3 1 (mk1 (.int .i64 em)) ea) := f2
     have F3 : Hid (FulG wr 3 1 (mk1 (.int .i64 em)) eb) := f3
     have F4 : Hid (FulG wr 3 1 (mk1 (.int .i64 em)) ec) := f4
     obtain ⟨l1, l2, l3, hl, _⟩ := f1
     subst hl
     obtain ⟨m1, m2, m3, hm, _⟩ := f2
     subst hm
     obtain ⟨p1, p2, p3, hp, _⟩ := f3
     subst hp
     obtain ⟨q1, q2, q3, hq, _⟩ := f4
     subst hq
     have c0 : wr.cell? ⟨g, i * 5, none⟩ = some (.slice l1 l2 l3) := (hb.cell (p := ⟨g, i * 5, none⟩) hgl).trans (hc 0 (by omega))
     have c1 : wr.cell? ⟨g, i * 5 + 1, none⟩ = some (.slice m1 m2 m3) := (hb.cell (p := ⟨g, i * 5 + 1, none⟩) hgl).trans (hc 1 (by omega))
     have c2 : wr.cell? ⟨g, i * 5 + 2, none⟩ = some (.slice p1 p2 p3) := (hb.cell (p := ⟨g, i * 5 + 2, none⟩) hgl).trans (hc 2 (by omega))
     have c3 : wr.cell? ⟨g, i * 5 + 3, none⟩ = some (.slice q1 q2 q3) := (hb.cell (p := ⟨g, i * 5 + 3, none⟩) hgl).trans (hc 3 (by omega))
     have c4 : wr.cell? ⟨g, i * 5 + 4, none⟩ = some (.int .i64 em) := (hb.cell (p := ⟨g, i * 5 + 4, none⟩) hgl).trans (hc 4 (by omega))
     have hi0 : (0 : Int) ≤ (i : Int) := by omega
     have hin : (i : Int) < (bk.I.length : Int) := by omega
     clear hc hb he
     go_wp2_with fail
     obtain ⟨w1, hw1⟩ : ∃ w1, w1 = wr.alloc (Obj.cells #[Value.slice l1 l2 l3, Value.slice m1 m2 m3, Value.slice p1 p2 p3, Value.slice q1 q2 q3, .int .i64 em] 193) := ⟨_, rfl⟩
     have hrow : w1.heap[wr.heap.size]? = some (.cells #[Value.slice l1 l2 l3, Value.slice m1 m2 m3, Value.slice p1 p2 p3, Value.slice q1 q2 q3, .int .i64 em] 193 (0, 0)) := by rw [hw1]; exact heap_alloc_new _ _
     have HB1 : Hid (Below wr.heap.size wr w1) := by show Below wr.heap.size wr w1; rw [hw1]; exact (Below.refl _ _).alloc (Nat.le_refl _) _
     rw [← hw1]
     clear hw1 c0 c1 c2 c3 c4 o2 o3 o4 o5
     obtain ⟨x, hx⟩ : ∃ x, x = wr.heap.size := ⟨_, rfl⟩
     have hxl : x < w1.heap.size := by rw [hx]; exact (Array.getElem?_eq_some_iff.1 hrow).1
     rw [← hx] at hrow ⊢
     have HR : Hid (∀ X : World, Below w1.heap.size w1 X → X.heap[x]? = some (.cells #[Value.slice l1 l2 l3, Value.slice m1 m2 m3, Value.slice p1 p2 p3, Value.slice q1 q2 q3, .int .i64 em] 193 (0, 0))) := fun X hX => (hX.block x hxl).trans hrow
     have HLO : Hid (∀ (X : World) (v : Value), Below w1.heap.size w1 X → FulG wr 3 1 (mk1 (.int .i64 em)) v → FulG X 3 1 (mk1 (.int .i64 em)) v) := fun X v hX hv => hv.kept (fun q cur _ hc => by
      have hql := (Array.getElem?_eq_some_iff.1 hc).1
      rw [hX.block q (Nat.lt_of_lt_of_le hql HB1.out.size), HB1.out.block q hql])
     clear hx hrow hxl
     refine (fulI_any _ _ _ (HLO.out w1 _ (Below.refl _ _) F1.out)).mono ?_
     rintro e' w2 ⟨rfl, y1⟩
     have r0 : w2.cell? ⟨x, 1, none⟩ = some (.slice m1 m2 m3) := cell_of_row _ _ _ _ 193 _ (HR.out w2 y1)
     have r4 : w2.cell? ⟨x, 4, none⟩ = some (.int .i64 em) := cell_of_row _ _ _ _ 193 _ (HR.out w2 y1)
     have Y0 : Hid _ := y1
     clear y1
     go_wp2_with fail
     refine (fulI_any _ _ _ (HLO.out w2 _ Y0.out F2.out)).mono ?_
     rintro e' w3 ⟨rfl, z0⟩
     have y2 : Below w1.heap.size w1 w3 := Y0.out.trans (z0.mono Y0.out.size)
     clear r0 r4 z0
     have r0 : w3.cell? ⟨x, 2, none⟩ = some (.slice p1 p2 p3) := cell_of_row _ _ _ _ 193 _ (HR.out w3 y2)
     have r4 : w3.cell? ⟨x, 4, none⟩ = some (.int .i64 em) := cell_of_row _ _ _ _ 193 _ (HR.out w3 y2)
     have Y1 : Hid _ := y2
     clear y2
     go_wp2_with fail
     refine (fulI_any _ _ _ (HLO.out w3 _ Y1.out F3.out)).mono ?_
     rintro e' w4 ⟨rfl, z1⟩
     have y3 : Below w1.heap.size w1 w4 := Y1.out.trans (z1.mono Y1.out.size)
     clear r0 r4 z1
     have r0 : w4.cell? ⟨x, 3, none⟩ = some (.slice q1 q2 q3) := cell_of_row _ _ _ _ 193 _ (HR.out w4 y3)
     have r4 : w4.cell? ⟨x, 4, none⟩ = some (.int .i64 em) := cell_of_row _ _ _ _ 193 _ (HR.out w4 y3)
     have Y2 : Hid _ := y3
     clear y3
     go_wp2_with fail
     refine (fulI_any _ _ _ (HLO.out w4 _ Y2.out F4.out)).mono ?_
     rintro e' w5 ⟨rfl, z2⟩
     have y4 : Below w1.heap.size w1 w5 := Y2.out.trans (z2.mono Y2.out.size)
     clear r0 r4 z2
     have hbz : Below w.heap.size w w5 := HBI.out.trans ((HB1.out.trans (y4.mono HB1.out.size)).mono HBI.out.size)
     have HBZ : Hid _ := hbz
     clear y4 hbz
     go_wp2_with fail
     go_roundw
     case rel => exact ⟨i + 1, by omega, by go_num, HBZ.out⟩
     case measure => simp [intOf]; omega
    ·have hin : ¬ (i : Int) < (bk.I.length : Int) := by omega
     clear hb
     go_wp2_with fail
     go_loopw [7] (fun iv wr => ∃ i : Nat, i ≤ bk.O.length ∧ iv = .int .i64 i ∧ Below w.heap.size w wr) (fun iv _ => bk.O.length - (intOf iv).toNat)
     case atStart => exact ⟨0, Nat.zero_le _, rfl, HBI.out⟩
     case round =>
      obtain ⟨i, hi, rfl, hb⟩ := hrel
      have HBO : Hid (Below w.heap.size w wr) := hb
      obtain ⟨o2, o3, o4, o5⟩ := HC.out wr hb
      by_cases hlt : i < bk.O.length
      ·obtain ⟨g, ha, hgl, hc⟩ := own_flatG H4.out i hlt
       subst ha
       obtain ⟨e, he⟩ : ∃ e, bk.O[i] = e := ⟨_, rfl⟩
       obtain ⟨hok, hm, _⟩ := (HH.out.low hb).O e (by rw [← he]; exact List.getElem_mem hlt)
       rw [he] at hc
       obtain ⟨el, ea, eb, ec, em0⟩ := e
       obtain ⟨em, rfl⟩ : ∃ s, em0 = .string s := hm
       obtain ⟨f1, f2, f3, f4⟩ := hok
       have F1 : Hid (FulG wr 72 2 (mkO (.string em)) el) := f1
       have F2 : Hid (FulG wr 72 2 (mkO (.string em)) ea) := f2
       have F3 : Hid (FulG wr 72 2 (mkO (.string em)) eb) := f3
       have F4 : Hid (FulG wr 72 2 (mkO (.string em)) ec) := f4
       obtain ⟨l1, l2, l3, hl, _⟩ := f1
       subst hl
       obtain ⟨m1, m2, m3, hm, _⟩ := f2
       subst hm
       obtain ⟨p1, p2, p3, hp, _⟩ := f3
       subst hp
       obtain ⟨q1, q2, q3, hq, _⟩ := f4
       subst hq
       have c0 : wr.cell? ⟨g, i * 5, none⟩ = some (.slice l1 l2 l3) := (hb.cell (p := ⟨g, i * 5, none⟩) hgl).trans (hc 0 (by omega))
       have c1 : wr.cell? ⟨g, i * 5 + 1, none⟩ = some (.slice m1 m2 m3) := (hb.cell (p := ⟨g, i * 5 + 1, none⟩) hgl).trans (hc 1 (by omega))
       have c2 : wr.cell? ⟨g, i * 5 + 2, none⟩ = some (.slice p1 p2 p3) := (hb.cell (p := ⟨g, i * 5 + 2, none⟩) hgl).trans (hc 2 (by omega))
       have c3 : wr.cell? ⟨g, i * 5 + 3, none⟩ = some (.slice q1 q2 q3) := (hb.cell (p := ⟨g, i * 5 + 3, none⟩) hgl).trans (hc 3 (by omega))
       have c4 : wr.cell? ⟨g, i * 5 + 4, none⟩ = some (.string em) := (hb.cell (p := ⟨g, i * 5 + 4, none⟩) hgl).trans (hc 4 (by omega))
       have hi0 : (0 : Int) ≤ (i : Int) := by omega
       have hin : (i : Int) < (bk.O.length : Int) := by omega
       clear hc hb he
       go_wp2_with fail
       obtain ⟨w1, hw1⟩ : ∃ w1, w1 = wr.alloc (Obj.cells #[Value.slice l1 l2 l3, Value.slice m1 m2 m3, Value.slice p1 p2 p3, Value.slice q1 q2 q3, .string em] 195) := ⟨_, rfl⟩
       have hrow : w1.heap[wr.heap.size]? = some (.cells #[Value.slice l1 l2 l3, Value.slice m1 m2 m3, Value.slice p1 p2 p3, Value.slice q1 q2 q3, .string em] 195 (0, 0)) := by rw [hw1]; exact heap_alloc_new _ _
       have HB1 : Hid (Below wr.heap.size wr w1) := by show Below wr.heap.size wr w1; rw [hw1]; exact (Below.refl _ _).alloc (Nat.le_refl _) _
       rw [← hw1]
       clear hw1 c0 c1 c2 c3 c4 o2 o3 o4 o5
       obtain ⟨x, hx⟩ : ∃ x, x = wr.heap.size := ⟨_, rfl⟩
       have hxl : x < w1.heap.size := by rw [hx]; exact (Array.getElem?_eq_some_iff.1 hrow).1
       rw [← hx] at hrow ⊢
       have HR : Hid (∀ X : World, Below w1.heap.size w1 X → X.heap[x]? = some (.cells #[Value.slice l1 l2 l3, Value.slice m1 m2 m3, Value.slice p1 p2 p3, Value.slice q1 q2 q3, .string em] 195 (0, 0))) := fun X hX => (hX.block x hxl).trans hrow
       have HLO : Hid (∀ (X : World) (v : Value), Below w1.heap.size w1 X → FulG wr 72 2 (mkO (.string em)) v → FulG X 72 2 (mkO (.string em)) v) := fun X v hX hv => hv.kept (fun q cur _ hc => by
        have hql := (Array.getElem?_eq_some_iff.1 hc).1
        rw [hX.block q (Nat.lt_of_lt_of_le hql HB1.out.size), HB1.out.block q hql])
       clear hx hrow hxl
       refine (fulO_any _ _ _ (HLO.out w1 _ (Below.refl _ _) F1.out)).mono ?_
       rintro e' w2 ⟨rfl, y1⟩
       have r0 : w2.cell? ⟨x, 1, none⟩ = some (.slice m1 m2 m3) := cell_of_row _ _ _ _ 195 _ (HR.out w2 y1)
       have r4 : w2.cell? ⟨x, 4, none⟩ = some (.string em) := cell_of_row _ _ _ _ 195 _ (HR.out w2 y1)
       have Y0 : Hid _ := y1
       clear y1
       go_wp2_with fail
       refine (fulO_any _ _ _ (HLO.out w2 _ Y0.out F2.out)).mono ?_
       rintro e' w3 ⟨rfl, z0⟩
       have y2 : Below w1.heap.size w1 w3 := Y0.out.trans (z0.mono Y0.out.size)
       clear r0 r4 z0
       have r0 : w3.cell? ⟨x, 2, none⟩ = some (.slice p1 p2 p3) := cell_of_row _ _ _ _ 195 _ (HR.out w3 y2)
       have r4 : w3.cell? ⟨x, 4, none⟩ = some (.string em) := cell_of_row _ _ _ _ 195 _ (HR.out w3 y2)
       have Y1 : Hid _ := y2
       clear y2
       go_wp2_with fail
       refine (fulO_any _ _ _ (HLO.out w3 _ Y1.out F3.out)).mono ?_
       rintro e' w4 ⟨rfl, z1⟩
       have y3 : Below w1.heap.size w1 w4 := Y1.out.trans (z1.mono Y1.out.size)
       clear r0 r4 z1
       have r0 : w4.cell? ⟨x, 3, none⟩ = some (.slice q1 q2 q3) := cell_of_row _ _ _ _ 195 _ (HR.out w4 y3)
       have r4 : w4.cell? ⟨x, 4, none⟩ = some (.string em) := cell_of_row _ _ _ _ 195 _ (HR.out w4 y3)
       have Y2 : Hid _ := y3
       clear y3
       go_wp2_with fail
       refine (fulO_any _ _ _ (HLO.out w4 _ Y2.out F4.out)).mono ?_
       rintro e' w5 ⟨rfl, z2⟩
       have y4 : Below w1.heap.size w1 w5 := Y2.out.trans (z2.mono Y2.out.size)
       clear r0 r4 z2
       have hbz : Below w.heap.size w w5 := HBO.out.trans ((HB1.out.trans (y4.mono HB1.out.size)).mono HBO.out.size)
       have HBZ : Hid _ := hbz
       clear y4 hbz
       go_wp2_with fail
       go_roundw
       case rel => exact ⟨i + 1, by omega, by go_num, HBZ.out⟩
       case measure => simp [intOf]; omega
      ·have hin : ¬ (i : Int) < (bk.O.length : Int) := by omega
       clear hb
       go_wp2_with fail
       go_loopw [9] (fun iv wr => ∃ i : Nat, i ≤ bk.E.length ∧ iv = .int .i64 i ∧ Below w.heap.size w wr) (fun iv _ => bk.E.length - (intOf iv).toNat)
       case atStart => exact ⟨0, Nat.zero_le _, rfl, HBO.out⟩
       case round =>
        obtain ⟨i, hi, rfl, hb⟩ := hrel
        have HBE : Hid (Below w.heap.size w wr) := hb
        obtain ⟨o2, o3, o4, o5⟩ := HC.out wr hb
        by_cases hlt : i < bk.E.length
        ·obtain ⟨g, ha, hgl, hc⟩ := own_flatG H5.out i hlt
         subst ha
         obtain ⟨e, he⟩ : ∃ e, bk.E[i] = e := ⟨_, rfl⟩
         obtain ⟨hok, hm, _⟩ := (HH.out.low hb).E e (by rw [← he]; exact List.getElem_mem hlt)
         rw [he] at hc
         obtain ⟨el, ea, eb, ec, em0⟩ := e
         obtain ⟨em, rfl⟩ : ∃ s, em0 = .string s := hm
         obtain ⟨f1, f2, f3, f4⟩ := hok
         have F1 : Hid (FulG wr 70 2 (mkE (.string em)) el) := f1
         have F2 : Hid (FulG wr 70 2 (mkE (.string em)) ea) := f2
         have F3 : Hid (FulG wr 70 2 (mkE (.string em)) eb) := f3
         have F4 : Hid (FulG wr 70 2 (mkE (.string em)) ec) := f4
         obtain ⟨l1, l2, l3, hl, _⟩ := f1
         subst hl
         obtain ⟨m1, m2, m3, hm, _⟩ := f2
         subst hm
         obtain ⟨p1, p2, p3, hp, _⟩ := f3
         subst hp
         obtain ⟨q1, q2, q3, hq, _⟩ := f4
         subst hq
         have c0 : wr.cell? ⟨g, i * 5, none⟩ = some (.slice l1 l2 l3) := (hb.cell (p := ⟨g, i * 5, none⟩) hgl).trans (hc 0 (by omega))
         have c1 : wr.cell? ⟨g, i * 5 + 1, none⟩ = some (.slice m1 m2 m3) := (hb.cell (p := ⟨g, i * 5 + 1, none⟩) hgl).trans (hc 1 (by omega))
         have c2 : wr.cell? ⟨g, i * 5 + 2, none⟩ = some (.slice p1 p2 p3) := (hb.cell (p := ⟨g, i * 5 + 2, none⟩) hgl).trans (hc 2 (by omega))
         have c3 : wr.cell? ⟨g, i * 5 + 3, none⟩ = some (.slice q1 q2 q3) := (hb.cell (p := ⟨g, i * 5 + 3, none⟩) hgl).trans (hc 3 (by omega))
         have c4 : wr.cell? ⟨g, i * 5 + 4, none⟩ = some (.string em) := (hb.cell (p := ⟨g, i * 5 + 4, none⟩) hgl).trans (hc 4 (by omega))
         have hi0 : (0 : Int) ≤ (i : Int) := by omega
         have hin : (i : Int) < (bk.E.length : Int) := by omega
         clear hc hb he
         go_wp2_with fail
         obtain ⟨w1, hw1⟩ : ∃ w1, w1 = wr.alloc (Obj.cells #[Value.slice l1 l2 l3, Value.slice m1 m2 m3, Value.slice p1 p2 p3, Value.slice q1 q2 q3, .string em] 198) := ⟨_, rfl⟩
         have hrow : w1.heap[wr.heap.size]? = some (.cells #[Value.slice l1 l2 l3, Value.slice m1 m2 m3, Value.slice p1 p2 p3, Value.slice q1 q2 q3, .string em] 198 (0, 0)) := by rw [hw1]; exact heap_alloc_new _ _
         have HB1 : Hid (Below wr.heap.size wr w1) := by show Below wr.heap.size wr w1; rw [hw1]; exact (Below.refl _ _).alloc (Nat.le_refl _) _
         rw [← hw1]
         clear hw1 c0 c1 c2 c3 c4 o2 o3 o4 o5
         obtain ⟨x, hx⟩ : ∃ x, x = wr.heap.size := ⟨_, rfl⟩
         have hxl : x < w1.heap.size := by rw [hx]; exact (Array.getElem?_eq_some_iff.1 hrow).1
         rw [← hx] at hrow ⊢
         have HR : Hid (∀ X : World, Below w1.heap.size w1 X → X.heap[x]? = some (.cells #[Value.slice l1 l2 l3, Value.slice m1 m2 m3, Value.slice p1 p2 p3, Value.slice q1 q2 q3, .string em] 198 (0, 0))) := fun X hX => (hX.block x hxl).trans hrow
         have HLO : Hid (∀ (X : World) (v : Value), Below w1.heap.size w1 X → FulG wr 70 2 (mkE (.string em)) v → FulG X 70 2 (mkE (.string em)) v) := fun X v hX hv => hv.kept (fun q cur _ hc => by
          have hql := (Array.getElem?_eq_some_iff.1 hc).1
          rw [hX.block q (Nat.lt_of_lt_of_le hql HB1.out.size), HB1.out.block q hql])
         clear hx hrow hxl
         refine (fulE_any _ _ _ (HLO.out w1 _ (Below.refl _ _) F1.out)).mono ?_
         rintro e' w2 ⟨rfl, y1⟩
         have r0 : w2.cell? ⟨x, 1, none⟩ = some (.slice m1 m2 m3) := cell_of_row _ _ _ _ 198 _ (HR.out w2 y1)
         have r4 : w2.cell? ⟨x, 4, none⟩ = some (.string em) := cell_of_row _ _ _ _ 198 _ (HR.out w2 y1)
         have Y0 : Hid _ := y1
         clear y1
         go_wp2_with fail
         refine (fulE_any _ _ _ (HLO.out w2 _ Y0.out F2.out)).mono ?_
         rintro e' w3 ⟨rfl, z0⟩
         have y2 : Below w1.heap.size w1 w3 := Y0.out.trans (z0.mono Y0.out.size)
         clear r0 r4 z0
         have r0 : w3.cell? ⟨x, 2, none⟩ = some (.slice p1 p2 p3) := cell_of_row _ _ _ _ 198 _ (HR.out w3 y2)
         have r4 : w3.cell? ⟨x, 4, none⟩ = some (.string em) := cell_of_row _ _ _ _ 198 _ (HR.out w3 y2)
         have Y1 : Hid _ := y2
         clear y2
         go_wp2_with fail
         refine (fulE_any _ _ _ (HLO.out w3 _ Y1.out F3.out)).mono ?_
         rintro e' w4 ⟨rfl, z1⟩
         have y3 : Below w1.heap.size w1 w4 := Y1.out.trans (z1.mono Y1.out.size)
         clear r0 r4 z1
         have r0 : w4.cell? ⟨x, 3, none⟩ = some (.slice q1 q2 q3) := cell_of_row _ _ _ _ 198 _ (HR.out w4 y3)
         have r4 : w4.cell? ⟨x, 4, none⟩ = some (.string em) := cell_of_row _ _ _ _ 198 _ (HR.out w4 y3)
         have Y2 : Hid _ := y3
         clear y3
         go_wp2_with fail
         refine (fulE_any _ _ _ (HLO.out w4 _ Y2.out F4.out)).mono ?_
         rintro e' w5 ⟨rfl, z2⟩
         have y4 : Below w1.heap.size w1 w5 := Y2.out.trans (z2.mono Y2.out.size)
         clear r0 r4 z2
         have hbz : Below w.heap.size w w5 := HBE.out.trans ((HB1.out.trans (y4.mono HB1.out.size)).mono HBE.out.size)
         have HBZ : Hid _ := hbz
         clear y4 hbz
         go_wp2_with fail
         go_roundw
         case rel => exact ⟨i + 1, by omega, by go_num, HBZ.out⟩
         case measure => simp [intOf]; omega
        ·have hin : ¬ (i : Int) < (bk.E.length : Int) := by omega
         clear hb
         go_wp2_with fail
         go_ret
         exact ⟨rfl, HBE.out⟩
def drV (ds : List Dr) : List Value := ds.flatMap fun d => [.pointer (some ⟨d.v, 0, none⟩), .pointer (some ⟨d.y, 0, none⟩)]
structure Dr.away (a b : Dr) : Prop where
 q : a.q ≠ b.q
 f : a.f ≠ b.f
 v : a.v ≠ b.v
 y1 : ∀ j, a.C ≤ j → j < a.Y.heap.size → j ≠ b.q
 y2 : ∀ j, b.C ≤ j → j < b.Y.heap.size → j ≠ a.q
structure HK (kt : Nat → Int) (base h : Nat) (lost : Bool) (ds : List Dr) (bk : Bk) (Z : Nat → Prop) (w : World) : Prop where
 lo : base ≤ h
 bs : 8 ≤ base
 bw : base ≤ w.heap.size
 book : ∃ l0, BkI base h l0 (.bool lost) bk w ∧ w.ownsRow base 147 2 l0 ds.length (drV ds)
 fit : ∀ d ∈ ds, d.fit kt
 here : ∀ d ∈ ds, d.at kt base Z w
 ne : ds.Pairwise Dr.away
 far : ∀ j, bk.has j → ∀ d ∈ ds, j ≠ d.q ∧ j ≠ d.f ∧ j ≠ d.v
 glb : Glb kt w
def noZ : Nat → Prop := fun _ => False
theorem pw_or {α : Type} {R : α → α → Prop} {a b : α} : ∀ {l : List α}, l.Pairwise R → a ∈ l → b ∈ l → a = b ∨ R a b ∨ R b a
 | [], _, ha, _ => by cases ha
 | x :: r, h, ha, hb => by
  rw [List.pairwise_cons] at h
  rcases List.mem_cons.1 ha with ea | ha'
  ·rcases List.mem_cons.1 hb with eb | hb'
   ·exact .inl (by rw [ea, eb])
   ·exact .inr (.inl (by rw [ea]; exact h.1 b hb'))
  ·rcases List.mem_cons.1 hb with eb | hb'
   ·exact .inr (.inr (by rw [eb]; exact h.1 a ha'))
   ·exact pw_or h.2 ha' hb'
section
variable {kt : Nat → Int} {base h : Nat} {lost : Bool} {ds : List Dr} {bk : Bk} {Z : Nat → Prop} {w w' : World}
theorem HK.low (H : HK kt base h lost ds bk Z w) (hb : Below w.heap.size w w') : HK kt base h lost ds bk Z w' := by
 obtain ⟨l0, h1, h2⟩ := H.book
 exact ⟨H.lo, H.bs, Nat.le_trans H.bw hb.size, ⟨l0, h1.low hb, own_kept h2 (fun q hq => hb.block q (own_lt h2 q hq))⟩, H.fit, fun d hd => (H.here d hd).low hb, H.ne, H.far, H.glb.low H.bs (hb.mono H.bw)⟩
theorem HK.mono {Z' : Nat → Prop} (H : HK kt base h lost ds bk Z w) (hz : ∀ j, Z' j → Z j) : HK kt base h lost ds bk Z' w := ⟨H.lo, H.bs, H.bw, H.book, H.fit, fun d hd => (H.here d hd).mono hz, H.ne, H.far, H.glb⟩
theorem HK.work (H : HK kt base h lost ds bk noZ w) {d : Dr} (hd : d ∈ ds) (hF : Fr (fun j => j = d.q ∨ j = d.f ∨ j = d.v) w w') (hvl : VL d.v d.k 0 w') (hvs : ∃ dn zs bd, VS kt d.B d.k d.g d.p d.q d.f (tT d.t0) d.un d.ul d.rd d.bl dn zs bd w' ∧ ∀ j, Z j → ¬ outV d.un bd dn (tT d.t0).L.ns j) (hZ : ∀ j, Z j → w.heap.size ≤ j) : HK kt base h lost ds bk Z w' := by
 obtain ⟨l0, h1, h2⟩ := H.book
 have hA := H.here d hd
 obtain ⟨dn, zs, bd, hV, _⟩ := hA.vs
 have hgo : ∀ (j : Nat) (cs : Array Value) (t : TypeId), w.heap[j]? = some (.cells cs t (0, 0)) → t ≠ 9 → t ≠ 232 → t ≠ 159 → w'.heap[j]? = some (.cells cs t (0, 0)) := fun j cs t hj a1 a2 a3 => by
  rw [hF.old j (Array.getElem?_eq_some_iff.1 hj).1 (fun e => by
   rcases e with e | e | e
   ·exact row_ne hj hV.blR a1 e
   ·exact row_ne hj hV.fiR a2 e
   ·exact row_ne hj hA.vl a3 e)]
  exact hj
 have hbel : Below base w w' := Fr.low hF (fun j hj => by
  obtain ⟨_, l1, l2, l3, _⟩ := hA.lo
  rcases hj with e | e | e <;> rw [e] <;> assumption) H.bw
 refine ⟨H.lo, H.bs, Nat.le_trans H.bw hF.size, ⟨l0, h1.kept hF.size (fun j cs t ht hj => hgo j cs t hj (by rcases ht with e | e | e | e | e <;> rw [e] <;> decide) (by rcases ht with e | e | e | e | e <;> rw [e] <;> decide) (by rcases ht with e | e | e | e | e <;> rw [e] <;> decide)) (fun q hq => ?_), own_kept' h2 (fun j cs _ hj => hgo j cs 147 hj (by decide) (by decide) (by decide))⟩, H.fit, fun d' hd' => ?_, H.ne, H.far, H.glb.low H.bs hbel⟩
 ·obtain ⟨a1, a2, a3⟩ := H.far q hq d hd
  exact hF.old q (h1.lt hq).2 (fun e => by
   rcases e with e | e | e
   ·exact a1 e
   ·exact a2 e
   ·exact a3 e)
 ·rcases pw_or H.ne hd' hd with e | e | e
  ·subst e
   exact hA.self hF hvl hvs hZ
  ·exact (H.here d' hd').other hA hF e.q e.f e.v e.y1 hZ
  ·exact (H.here d' hd').other hA hF e.q.symm e.f.symm e.v.symm e.y2 hZ
theorem HK.keepI {z : Value} {l0 : Value} (H : HK kt base h lost ds bk Z w) (h2 : w.ownsRow base 147 2 l0 ds.length (drV ds)) (hK : KeptI base h l0 (.bool lost) bk z w w') (hz : ∀ j, z.ownBlock = some j → Z j ∧ ∃ cs t, w.heap[j]? = some (.cells cs t (0, 0)) ∧ (t = 3 ∨ t = 9 ∨ t = 70 ∨ t = 72)) : ∃ x : Ent, HK kt base h lost ds { bk with n := bk.n + 1, I := bk.I ++ [x] } Z w' ∧ ∀ j, Bk.has { bk with n := bk.n + 1, I := bk.I ++ [x] } j → bk.has j ∨ z.ownBlock = some j ∨ w.heap.size ≤ j := by
 obtain ⟨x, b1, b2, b3, b4⟩ := hK
 have hhas : ∀ j, Bk.has { bk with n := bk.n + 1, I := bk.I ++ [x] } j → bk.has j ∨ z.ownBlock = some j ∨ w.heap.size ≤ j := fun j hj => by
  have hx : (∃ e ∈ bk.I ++ [x], e.has j) → (∃ e ∈ bk.I, e.has j) ∨ z.ownBlock = some j ∨ w.heap.size ≤ j := fun ⟨e, he, hq⟩ => by
   rcases List.mem_append.1 he with he | he
   ·exact .inl ⟨e, he, hq⟩
   ·rw [List.mem_singleton.1 he] at hq
    exact .inr (b2 j hq)
  rcases hj with hj | hj | hj | hj
  ·exact .inl (.inl hj)
  ·rcases hx hj with h1 | h1
   ·exact .inl (.inr (.inl h1))
   ·exact .inr h1
  ·exact .inl (.inr (.inr (.inl hj)))
  ·exact .inl (.inr (.inr (.inr hj)))
 refine ⟨x, ⟨H.lo, H.bs, Nat.le_trans H.bw b4.size, ⟨l0, b1, own_kept' h2 (fun j cs _ hj => b3 j cs 147 hj (by decide) (by decide) (fun e => ?_))⟩, H.fit, fun d hd => (H.here d hd).kz b3 (by decide) hz b4.size, H.ne, fun j hj d hd => ?_, H.glb.low H.bs b4⟩, hhas⟩
 ·obtain ⟨_, cs2, t2, e2, ht2⟩ := hz j e
  exact row_ne hj e2 (by rcases ht2 with e | e | e | e <;> rw [e] <;> decide) rfl
 ·have hA := H.here d hd
  obtain ⟨dn, zs, bd, hV, _⟩ := hA.vs
  rcases hhas j hj with h1 | h1 | h1
  ·exact H.far j h1 d hd
  ·obtain ⟨hZ, cs2, t2, e2, ht2⟩ := hz j h1
   exact ⟨(hA.zn j hZ).1, row_ne e2 hV.fiR (by rcases ht2 with e | e | e | e <;> rw [e] <;> decide), row_ne e2 hA.vl (by rcases ht2 with e | e | e | e <;> rw [e] <;> decide)⟩
  ·have l1 := hV.blR.lt
   have l2 := hV.fiR.lt
   have l3 := (Array.getElem?_eq_some_iff.1 hA.vl).1
   exact ⟨by omega, by omega, by omega⟩
theorem HK.keepE {z : Value} {l0 : Value} (H : HK kt base h lost ds bk Z w) (h2 : w.ownsRow base 147 2 l0 ds.length (drV ds)) (hK : KeptE base h l0 (.bool lost) bk z w w') (hz : ∀ j, z.ownBlock = some j → Z j ∧ ∃ cs t, w.heap[j]? = some (.cells cs t (0, 0)) ∧ (t = 3 ∨ t = 9 ∨ t = 70 ∨ t = 72)) : ∃ x : Ent, HK kt base h lost ds { bk with n := bk.n + 1, E := bk.E ++ [x] } Z w' ∧ ∀ j, Bk.has { bk with n := bk.n + 1, E := bk.E ++ [x] } j → bk.has j ∨ z.ownBlock = some j ∨ w.heap.size ≤ j := by
 obtain ⟨x, b1, b2, b3, b4⟩ := hK
 have hhas : ∀ j, Bk.has { bk with n := bk.n + 1, E := bk.E ++ [x] } j → bk.has j ∨ z.ownBlock = some j ∨ w.heap.size ≤ j := fun j hj => by
  have hx : (∃ e ∈ bk.E ++ [x], e.has j) → (∃ e ∈ bk.E, e.has j) ∨ z.ownBlock = some j ∨ w.heap.size ≤ j := fun ⟨e, he, hq⟩ => by
   rcases List.mem_append.1 he with he | he
   ·exact .inl ⟨e, he, hq⟩
   ·rw [List.mem_singleton.1 he] at hq
    exact .inr (b2 j hq)
  rcases hj with hj | hj | hj | hj
  ·exact .inl (.inl hj)
  ·exact .inl (.inr (.inl hj))
  ·exact .inl (.inr (.inr (.inl hj)))
  ·rcases hx hj with h1 | h1
   ·exact .inl (.inr (.inr (.inr h1)))
   ·exact .inr h1
 refine ⟨x, ⟨H.lo, H.bs, Nat.le_trans H.bw b4.size, ⟨l0, b1, own_kept' h2 (fun j cs _ hj => b3 j cs 147 hj (by decide) (by decide) (fun e => ?_))⟩, H.fit, fun d hd => (H.here d hd).kz b3 (by decide) hz b4.size, H.ne, fun j hj d hd => ?_, H.glb.low H.bs b4⟩, hhas⟩
 ·obtain ⟨_, cs2, t2, e2, ht2⟩ := hz j e
  exact row_ne hj e2 (by rcases ht2 with e | e | e | e <;> rw [e] <;> decide) rfl
 ·have hA := H.here d hd
  obtain ⟨dn, zs, bd, hV, _⟩ := hA.vs
  rcases hhas j hj with h1 | h1 | h1
  ·exact H.far j h1 d hd
  ·obtain ⟨hZ, cs2, t2, e2, ht2⟩ := hz j h1
   exact ⟨(hA.zn j hZ).1, row_ne e2 hV.fiR (by rcases ht2 with e | e | e | e <;> rw [e] <;> decide), row_ne e2 hA.vl (by rcases ht2 with e | e | e | e <;> rw [e] <;> decide)⟩
  ·have l1 := hV.blR.lt
   have l2 := hV.fiR.lt
   have l3 := (Array.getElem?_eq_some_iff.1 hA.vl).1
   exact ⟨by omega, by omega, by omega⟩
end
theorem lsameInts (l : List Nat) (B1 B2 : Nat) (x y : Value) (w : World) (hl : l.length ≤ 100000000) (hA : w.ownsRow B1 3 1 x l.length (unV l)) (hB : w.ownsRow B2 3 1 y l.length (unV l)) :
  Calls Tryz.prog 163 #[x, y] w fun e w' => e = .returned (.bool true) ∧ Below w.heap.size w w' := by
 obtain ⟨a, c, rfl⟩ := own_shape hA
 obtain ⟨b, d, rfl⟩ := own_shape hB
 have HA : Hid (∀ i, i < l.length → ∃ g, a = some ⟨g, 0, none⟩ ∧ w.cell? ⟨g, i, none⟩ = some (.int .i64 (l.getD i 0 : Nat))) := own_ir hA rfl
 have HB : Hid (∀ i, i < l.length → ∃ g, b = some ⟨g, 0, none⟩ ∧ w.cell? ⟨g, i, none⟩ = some (.int .i64 (l.getD i 0 : Nat))) := own_ir hB rfl
 obtain ⟨n, hn⟩ : ∃ n, l.length = n := ⟨_, rfl⟩
 rw [hn] at HA HB hl ⊢
 clear hA hB hn
 go_enter Tryz.func163, Tryz.ntmps163
 go_wp2_with fail
 go_loopw [5] (fun iv wr => ∃ i m : Nat, i ≤ n ∧ iv = .int .i64 i ∧ wr = w.drewN m) (fun iv _ => n - (intOf iv).toNat)
 case atStart => exact ⟨0, 0, by omega, rfl, rfl⟩
 case round =>
  obtain ⟨i, m, hi, rfl, hw⟩ := hrel
  by_cases hlt : i < n
  ·have hin : (i : Int) < (n : Int) := by omega
   obtain ⟨ga, rfl, x0⟩ := HA.out i hlt
   obtain ⟨gb, rfl, x1⟩ := HB.out i hlt
   have y0 : wr.cell? ⟨ga, i, none⟩ = some (.int .i64 (l.getD i 0 : Nat)) := by rw [hw]; exact x0
   have y1 : wr.cell? ⟨gb, i, none⟩ = some (.int .i64 (l.getD i 0 : Nat)) := by rw [hw]; exact x1
   obtain ⟨z, hz⟩ : ∃ z, l.getD i 0 = z := ⟨_, rfl⟩
   rw [hz] at y0 y1
   have HW : Hid _ := hw
   clear hw x0 x1 hz
   go_wp2_with fail
   go_quiet (fail)
   go_wp2_with fail
   go_roundw
   case rel => exact ⟨i + 1, _, by omega, by go_num, by rw [HW.out, World.drewN_drewN]⟩
   case measure => simp [intOf]; omega
  ·have hin : ¬ (i : Int) < (n : Int) := by omega
   have HW : Hid _ := hw
   clear hw
   go_wp2_with fail
   go_ret
   exact ⟨rfl, by rw [HW.out]; exact below_drewN (Below.refl _ _) m⟩
theorem lsameE (es : List (ByteArray × Nat)) (n : Nat) (hn : es.length = n) (B1 B2 : Nat) (x y : Value) (w : World) (hn2 : n ≤ 1000000) (hA : w.ownsRow B1 70 2 x n (enV es)) (hB : w.ownsRow B2 70 2 y n (enV es)) :
  Calls Tryz.prog 112 #[x, y] w fun e w' => e = .returned (.bool true) ∧ Below w.heap.size w w' := by
 obtain ⟨a, c, rfl⟩ := own_shape hA
 obtain ⟨b, d, rfl⟩ := own_shape hB
 have HA : Hid (∀ i, i < n → ∃ g, a = some ⟨g, 0, none⟩ ∧ w.cell? ⟨g, i * 2, none⟩ = some (.string (nmE es i)) ∧ w.cell? ⟨g, i * 2 + 1, none⟩ = some (.int .i64 (lnE es i : Nat))) := fun i hi => by
  obtain ⟨g, e, _, q1, q2⟩ := ent_cellsE hn.symm hA i hi
  exact ⟨g, e, q1, q2⟩
 have HB : Hid (∀ i, i < n → ∃ g, b = some ⟨g, 0, none⟩ ∧ w.cell? ⟨g, i * 2, none⟩ = some (.string (nmE es i)) ∧ w.cell? ⟨g, i * 2 + 1, none⟩ = some (.int .i64 (lnE es i : Nat))) := fun i hi => by
  obtain ⟨g, e, _, q1, q2⟩ := ent_cellsE hn.symm hB i hi
  exact ⟨g, e, q1, q2⟩
 clear hA hB
 go_enter Tryz.func112, Tryz.ntmps112
 go_wp2_with fail
 go_loopw [5] (fun iv wr => ∃ i m : Nat, i ≤ n ∧ iv = .int .i64 i ∧ wr = w.drewN m) (fun iv _ => n - (intOf iv).toNat)
 case atStart => exact ⟨0, 0, by omega, rfl, rfl⟩
 case round =>
  obtain ⟨i, m, hi, rfl, hw⟩ := hrel
  by_cases hlt : i < n
  ·have hin : (i : Int) < (n : Int) := by omega
   obtain ⟨ga, rfl, x0, x2⟩ := HA.out i hlt
   obtain ⟨gb, rfl, x1, x3⟩ := HB.out i hlt
   obtain ⟨nm, hnm⟩ : ∃ z, nmE es i = z := ⟨_, rfl⟩
   obtain ⟨ln, hln⟩ : ∃ z, lnE es i = z := ⟨_, rfl⟩
   rw [hnm] at x0 x1
   rw [hln] at x2 x3
   have y0 : wr.cell? ⟨ga, i * 2, none⟩ = some (.string nm) := by rw [hw]; exact x0
   have y1 : wr.cell? ⟨gb, i * 2, none⟩ = some (.string nm) := by rw [hw]; exact x1
   have y2 : wr.cell? ⟨ga, i * 2 + 1, none⟩ = some (.int .i64 ln) := by rw [hw]; exact x2
   have y3 : wr.cell? ⟨gb, i * 2 + 1, none⟩ = some (.int .i64 ln) := by rw [hw]; exact x3
   have q1 : (nm.toList == nm.toList) = true := texts_eq rfl
   have HW : Hid _ := hw
   clear hw x0 x1 x2 x3 hnm hln
   go_wp2_with fail
   go_quiet (fail)
   go_wp2_with fail
   go_roundw
   case rel => exact ⟨i + 1, _, by omega, by go_num, by rw [HW.out, World.drewN_drewN]⟩
   case measure => simp [intOf]; omega
  ·have hin : ¬ (i : Int) < (n : Int) := by omega
   have HW : Hid _ := hw
   clear hw
   go_wp2_with fail
   go_ret
   exact ⟨rfl, by rw [HW.out]; exact below_drewN (Below.refl _ _) m⟩
theorem lsameP (K M C V : Int) (w : World) :
  Calls Tryz.prog 109 #[.agg #[.int .i64 K, .int .i64 M, .int .i64 C, .int .i64 V], .agg #[.int .i64 K, .int .i64 M, .int .i64 C, .int .i64 V]] w fun e w' => e = .returned (.bool true) ∧ Below w.heap.size w w' := by
 have HB : Hid (Below w.heap.size w ((w.alloc (.cells #[.int .i64 K, .int .i64 M, .int .i64 C, .int .i64 V] 23)).alloc (.cells #[.int .i64 K, .int .i64 M, .int .i64 C, .int .i64 V] 23))) := by
  have h1 : Below w.heap.size w (w.alloc (.cells #[.int .i64 K, .int .i64 M, .int .i64 C, .int .i64 V] 23)) := (Below.refl _ _).alloc (Nat.le_refl _) _
  exact h1.alloc h1.size _
 go_enter Tryz.func109, Tryz.ntmps109
 go_wp2_with fail
 go_ret
 exact ⟨rfl, HB.out⟩
end Go.Proofs.YtadinjaocnlglaaGreatDoor
