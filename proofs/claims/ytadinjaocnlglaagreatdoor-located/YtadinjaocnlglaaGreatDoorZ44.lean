/-
  The walk of vaultkeep's planned.
-/
import Derived.Test.YtadinjaocnlglaaGreatDoorZ42
import Derived.BigRegion
import Derived.StillTailTactics
import Derived.Deep.RegionHeldLaw
namespace Go.Proofs.YtadinjaocnlglaaGreatDoor
open Go.RowKit
set_option maxRecDepth 100000
set_option maxHeartbeats 4000000
def plN (L : Nat → ByteArray) (V nb C v : Nat) : Nat := (L v).size - ((v + 1) * nb / V - v * nb / V) * C
def PlD (w : World) (K M C V ns nb : Nat) (pl : Nat → Nat) (e : Ending) (w' : World) : Prop := ∃ x gf cf gp cp, e = .returned (.pointer (some ⟨x, 0, none⟩)) ∧ Pln x gf cf gp cp K M C V ns nb pl w' ∧ Below w.heap.size w w' ∧ w.heap.size ≤ x ∧ w.heap.size ≤ gf ∧ w.heap.size ≤ gp
theorem PI.done {w0 : World} {pb x K M C V ns nb : Nat} {fv pv : Value} {pl : Nat → Nat} {w : World} (h : PI w0 pb x K M C V ns nb fv ((List.range (V + 1)).map (fun v => v * nb / V)) pv ((List.range V).map pl) w) (hV : 1 ≤ V) : PlD w0 K M C V ns nb pl (.returned (.pointer (some ⟨x, 0, none⟩))) w := by
  have h1 := h.o1
  have h2 := h.o2
  have l1 : ((List.range (V + 1)).map (fun v => v * nb / V)).length = V + 1 := by simp
  have l2 : ((List.range V).map pl).length = V := by simp
  rw [l1] at h1
  rw [l2] at h2
  have hr := h.row
  obtain ⟨a, cf, rfl⟩ := own_shape h1
  obtain ⟨gf, rfl, b1, c1⟩ := unV_cells h1 (by omega)
  obtain ⟨b, cp, rfl⟩ := own_shape h2
  obtain ⟨gp, rfl, b2, c2⟩ := unV_cells h2 (by omega)
  refine ⟨x, gf, cf, gp, cp, rfl, ⟨hr, fun v hv => ?_, fun v hv => ?_⟩, h.bel, h.lo, b1, b2⟩
  · rw [c1 v (by rw [l1]; omega)]; simp
  · rw [c2 v (by rw [l2]; omega)]; simp
theorem PI.drew {w0 : World} {pb x K M C V ns nb : Nat} {fv : Value} {l1 : List Nat} {pv : Value} {l2 : List Nat} {w : World} (h : PI w0 pb x K M C V ns nb fv l1 pv l2 w) : PI w0 pb x K M C V ns nb fv l1 pv l2 w.drew :=
  ⟨h.bx, h.row, own_kept h.o1 (fun _ _ => rfl), own_kept h.o2 (fun _ _ => rfl), h.ap, h.bel.drew, h.lo⟩
theorem planned_any (F : Nat → Ob) (q lc : Nat) (la : Option Addr) (K M C V gv cv : Nat) (L : Nat → ByteArray) (w : World) (hK1 : 1 ≤ K) (hK2 : K ≤ 5) (hM : M ≤ 3) (hC1 : 1 ≤ C) (hC2 : C ≤ 8) (hV1 : 1 ≤ V) (hV2 : V ≤ 5) (hq : q ≤ 1000000) (hs1 : ∀ j, j < q → (F j).2.size ≤ 1000000) (hs : (smF F q).size ≤ 100)
    (hL : ∀ i, i < q → ∃ g, la = some ⟨g, 0, none⟩ ∧ w.cell? ⟨g, i * 2, none⟩ = some (.string (F i).1) ∧ w.cell? ⟨g, i * 2 + 1, none⟩ = some (.string (F i).2))
    (hT : ∀ v, v < V → w.cell? ⟨gv, v, none⟩ = some (.string (L v))) (hfit : ∀ v, v < V → ((v + 1) * nbT K M C (smF F q) / V - v * nbT K M C (smF F q) / V) * C ≤ (L v).size) (hLs : ∀ v, v < V → (L v).size ≤ 1000000000) :
    Calls Tryz.prog 30 #[.agg #[.int .i64 K, .int .i64 M, .int .i64 C, .int .i64 V], .slice la q lc, .slice (some ⟨gv, 0, none⟩) V cv] w (PlD w K M C V (nst (K * C) (smF F q).size) (nbT K M C (smF F q)) (plN L V (nbT K M C (smF F q)) C)) := by
  have hz0 : 0 < K * C := Nat.mul_pos hK1 hC1
  have hz1 : K * C ≤ 40 := Nat.le_trans (Nat.mul_le_mul hK2 hC2) (by omega)
  have HAM : Hid (∀ W, Below w.heap.size w W → Calls Tryz.prog 75 #[.slice la q lc] W fun e w' => e = .returned (.int .i64 ((smF F q).size : Nat)) ∧ w' = W) := fun W hW => amount_any F q lc la W hq hs1 (fun i hi => by
    obtain ⟨g, e, x0, x1⟩ := hL i hi
    exact ⟨g, e, (hW.cell (p := ⟨g, i * 2, none⟩) (block_lt_of_cell x0)).trans x0, (hW.cell (p := ⟨g, i * 2 + 1, none⟩) (block_lt_of_cell x1)).trans x1⟩)
  have hgl : gv < w.heap.size := block_lt_of_cell (hT 0 (by omega))
  have HT : Hid (∀ W, Below w.heap.size w W → ∀ v, v < V → W.cell? ⟨gv, v, none⟩ = some (.string (L v))) := fun W hW v hv => (hW.cell (p := ⟨gv, v, none⟩) hgl).trans (hT v hv)
  have hns0 := nst_len (K * C) (smF F q).size hz0
  obtain ⟨A, hA⟩ : ∃ A, (smF F q).size = A := ⟨_, rfl⟩
  rw [hA] at HAM hs hns0 ⊢
  have enb : nbT K M C (smF F q) = nst (K * C) A * (K + M) := by unfold nbT; rw [hA]
  rw [enb] at hfit ⊢
  obtain ⟨z, hz⟩ : ∃ z, K * C = z := ⟨_, rfl⟩
  rw [hz] at hz0 hz1 hns0 hfit ⊢
  obtain ⟨ns, hns⟩ : ∃ ns, nst z A = ns := ⟨_, rfl⟩
  rw [hns] at hns0 hfit ⊢
  have hnb1 : ns * (K + M) ≤ 100 * 8 := Nat.mul_le_mul (by omega) (by omega)
  obtain ⟨nb, hnb⟩ : ∃ nb, ns * (K + M) = nb := ⟨_, rfl⟩
  rw [hnb] at hfit hnb1 ⊢
  have e1 : (K : Int) * (C : Int) = (z : Int) := by rw [← hz]; simp
  have e2 : (A : Int) + (z : Int) - 1 = ((A + z - 1 : Nat) : Int) := by omega
  have d1 : ((A : Int) + (z : Int) - 1) / (z : Int) = (ns : Int) := by rw [e2, ← Int.natCast_ediv, ← hns]; rfl
  have hne : ((z : Int) == 0) = false := by simp; omega
  have d2 : (ns : Int) * ((K : Int) + (M : Int)) = (nb : Int) := by rw [← hnb]; simp
  have u1 : IntKind.i64.wrap (z : Int) = (z : Int) := by rw [IntKind.wrap_i64]; omega
  have u2 : IntKind.i64.wrap ((A : Int) + (z : Int)) = (A : Int) + (z : Int) := by rw [IntKind.wrap_i64]; omega
  have u3 : IntKind.i64.wrap ((A : Int) + (z : Int) - 1) = (A : Int) + (z : Int) - 1 := by rw [IntKind.wrap_i64]; omega
  have u4 : IntKind.i64.wrap (ns : Int) = (ns : Int) := by rw [IntKind.wrap_i64]; omega
  have hz3 : ¬ (z : Int) = 0 := by omega
  have hz4 : ¬ z = 0 := by omega
  have d3 : ((A : Int) + (z : Int) - 1).tdiv (z : Int) = (ns : Int) := by rw [Int.tdiv_eq_ediv_of_nonneg (by omega)]; exact d1
  have HF : Hid _ := hfit
  have HLS : Hid _ := hLs
  clear hA enb hz hns hnb hT hL hs1 e2 hfit hLs
  go_enter Tryz.func30, Tryz.ntmps30
  go_wp2_with fail
  obtain ⟨W, hW⟩ : ∃ W, (w.alloc (Obj.cells #[Value.int IntKind.i64 K, Value.int IntKind.i64 M, Value.int IntKind.i64 C, Value.int IntKind.i64 V] 23)).alloc (Obj.cells #[Value.int IntKind.i64 K, Value.int IntKind.i64 M, Value.int IntKind.i64 C, Value.int IntKind.i64 V, Value.int IntKind.i64 0, Value.int IntKind.i64 0, Value.slice none 0 0, Value.slice none 0 0] 84) = W := ⟨_, rfl⟩
  have hbx : W.heap[w.heap.size]? = some (.cells #[.int .i64 K, .int .i64 M, .int .i64 C, .int .i64 V] 23 (0, 0)) := by rw [← hW, heap_alloc_old _ _ (by simp)]; exact heap_alloc_new _ _
  have hrow : W.heap[w.heap.size + 1]? = some (.cells #[.int .i64 K, .int .i64 M, .int .i64 C, .int .i64 V, .int .i64 0, .int .i64 0, .slice none 0 0, .slice none 0 0] 84 (0, 0)) := by
    rw [← hW]
    have := heap_alloc_new (w.alloc (Obj.cells #[Value.int IntKind.i64 K, Value.int IntKind.i64 M, Value.int IntKind.i64 C, Value.int IntKind.i64 V] 23)) (Obj.cells #[Value.int IntKind.i64 K, Value.int IntKind.i64 M, Value.int IntKind.i64 C, Value.int IntKind.i64 V, Value.int IntKind.i64 0, Value.int IntKind.i64 0, Value.slice none 0 0, Value.slice none 0 0] 84)
    simpa using this
  have HBW : Hid (Below w.heap.size w W) := by show Below _ _ _; rw [← hW]; exact ((Below.refl _ _).alloc (Nat.le_refl _) _).alloc (by simp) _
  rw [hW]
  obtain ⟨pb, hpb⟩ : ∃ pb, w.heap.size = pb := ⟨_, rfl⟩
  obtain ⟨x, hx⟩ : ∃ x, w.heap.size + 1 = x := ⟨_, rfl⟩
  rw [hpb] at hbx hgl
  rw [hx] at hrow
  have HXL : Hid (w.heap.size ≤ x) := by show _ ≤ _; omega
  have HPB : Hid _ := hpb
  rw [hx, hpb]
  have hxp : x ≠ pb := by omega
  have hpx : pb ≠ x := by omega
  clear hW hx hpb
  have a0 : W.cell? ⟨pb, 0, none⟩ = some (.int .i64 K) := cell_of_row _ _ _ _ 23 _ hbx
  have a1 : W.cell? ⟨pb, 1, none⟩ = some (.int .i64 M) := cell_of_row _ _ _ _ 23 _ hbx
  have a2 : W.cell? ⟨pb, 2, none⟩ = some (.int .i64 C) := cell_of_row _ _ _ _ 23 _ hbx
  have x4 : W.cell? ⟨x, 4, none⟩ = some (.int .i64 0) := cell_of_row _ _ _ _ 84 _ hrow
  have x5 : W.cell? ⟨x, 5, none⟩ = some (.int .i64 0) := cell_of_row _ _ _ _ 84 _ hrow
  have f4 := frozen_of_row W x 4 _ 84 hrow
  have f5 := frozen_of_row W x 5 _ 84 hrow
  have HBX : Hid _ := hbx
  have HROW : Hid _ := hrow
  clear hbx hrow
  refine still_tail_drew 18 (by kernel_rfl) (by kernel_rfl) ?_
  simp only [List.take_succ_cons, List.take_zero, List.drop_succ_cons, List.drop_zero]
  repeat still_step
  still_call (HAM.out _ HBW.out.drew)
  repeat still_step
  refine wpStill_nil ?_
  go_wp2_with fail
  obtain ⟨W1, hW1⟩ : ∃ W1, (W.setCell ⟨x, 4, none⟩ (.int .i64 ns)).drew = W1 := ⟨_, rfl⟩
  have HBX1 : Hid (W1.heap[pb]? = some (.cells #[.int .i64 K, .int .i64 M, .int .i64 C, .int .i64 V] 23 (0, 0))) := by
    show _ = _
    rw [← hW1]
    exact (set_other W x 4 pb _ hpx).trans HBX.out
  have HROW1 : Hid (W1.heap[x]? = some (.cells #[.int .i64 K, .int .i64 M, .int .i64 C, .int .i64 V, .int .i64 ns, .int .i64 0, .slice none 0 0, .slice none 0 0] 84 (0, 0))) := by
    show _ = _
    rw [← hW1]
    exact set_heap W x 4 _ _ 84 _ HROW.out
  have HBW1 : Hid (Below w.heap.size w W1) := by show Below _ _ _; rw [← hW1]; exact (HBW.out.setCell HXL.out _).drew
  rw [hW1]
  clear hW1 a0 a1 a2 x4 x5 f4 f5 HBX HROW HBW HAM e1 u1 u2 u3 d1 d3 hne hz3 hz4
  have a0 : W1.cell? ⟨pb, 0, none⟩ = some (.int .i64 K) := cell_of_row _ _ _ _ 23 _ HBX1.out
  have a1 : W1.cell? ⟨pb, 1, none⟩ = some (.int .i64 M) := cell_of_row _ _ _ _ 23 _ HBX1.out
  have x4 : W1.cell? ⟨x, 4, none⟩ = some (.int .i64 ns) := cell_of_row _ _ _ _ 84 _ HROW1.out
  have x5 : W1.cell? ⟨x, 5, none⟩ = some (.int .i64 0) := cell_of_row _ _ _ _ 84 _ HROW1.out
  have f5 := frozen_of_row W1 x 5 _ 84 HROW1.out
  have u5 : IntKind.i64.wrap ((K : Int) + (M : Int)) = (K : Int) + (M : Int) := by rw [IntKind.wrap_i64]; omega
  have u6 : IntKind.i64.wrap (nb : Int) = (nb : Int) := by rw [IntKind.wrap_i64]; omega
  go_region
  obtain ⟨W2, hW2⟩ : ∃ W2, (W1.setCell ⟨x, 5, none⟩ (.int .i64 nb)).drew = W2 := ⟨_, rfl⟩
  have HPI : Hid (PI w pb x K M C V ns nb (.slice none 0 0) [] (.slice none 0 0) [] W2) := by
    show PI _ _ _ _ _ _ _ _ _ _ _ _ _ _
    rw [← hW2]
    exact ⟨(set_other W1 x 5 pb _ hpx).trans HBX1.out, set_heap W1 x 5 _ _ 84 _ HROW1.out, ⟨rfl, .inl ⟨rfl, rfl⟩⟩, ⟨rfl, .inl ⟨rfl, rfl⟩⟩, fun j h1 => (by cases h1), (HBW1.out.setCell HXL.out _).drew, HXL.out⟩
  rw [hW2]
  clear hW2 a0 a1 x4 x5 f5 HBX1 HROW1 HBW1 HXL u5 d2 hxp hpx
  have hVn : ((V : Int) == 0) = false := by simp; omega
  have hV3 : ¬ (V : Int) = 0 := by omega
  have hV4 : ¬ V = 0 := by omega
  go_wp2_with fail
  go_loopw [8] (fun iv wr => ∃ (i : Nat) (fv : Value), i ≤ V + 1 ∧ iv = .int .i64 i ∧ PI w pb x K M C V ns nb fv ((List.range i).map (fun v => v * nb / V)) (.slice none 0 0) [] wr) (fun iv _ => V + 1 - (intOf iv).toNat)
  case atStart => exact ⟨0, .slice none 0 0, by omega, rfl, HPI.out⟩
  case round =>
    obtain ⟨i, fv, hi, rfl, hPI⟩ := hrel
    have HPI : Hid _ := hPI
    clear hPI
    have a3 : wr.cell? ⟨pb, 3, none⟩ = some (.int .i64 V) := cell_of_row _ _ _ _ 23 _ HPI.out.bx
    by_cases hlt : i ≤ V
    · have hin : (i : Int) ≤ (V : Int) := by omega
      have hinb : i * nb ≤ 5 * 800 := Nat.mul_le_mul (by omega) (by omega)
      have hq1 : i * nb / V ≤ 4000 := Nat.le_trans (Nat.div_le_self _ _) (by omega)
      obtain ⟨Z, hZ⟩ : ∃ Z, i * nb = Z := ⟨_, rfl⟩
      obtain ⟨Q, hQ⟩ : ∃ Q, i * nb / V = Q := ⟨_, rfl⟩
      rw [hQ] at hq1
      rw [hZ] at hinb
      have e1 : (i : Int) * (nb : Int) = (Z : Int) := by rw [← hZ]; simp
      have d1 : (Z : Int) / (V : Int) = (Q : Int) := by rw [← hQ, ← hZ, Int.natCast_ediv]
      have d3 : (Z : Int).tdiv (V : Int) = (Q : Int) := by rw [Int.tdiv_eq_ediv_of_nonneg (by omega)]; exact d1
      have u7 : IntKind.i64.wrap (Z : Int) = (Z : Int) := by rw [IntKind.wrap_i64]; omega
      have u8 : IntKind.i64.wrap (Q : Int) = (Q : Int) := by rw [IntKind.wrap_i64]; omega
      have x5 : wr.cell? ⟨x, 5, none⟩ = some (.int .i64 nb) := cell_of_row _ _ _ _ 84 _ HPI.out.row
      have x6 : wr.cell? ⟨x, 6, none⟩ = some fv := cell_of_row _ _ _ _ 84 _ HPI.out.row
      obtain ⟨v', w2, hrun, hPI2, hrow2⟩ := PI.fst HPI.out.drew Q (by simp; omega)
      have HRUN : Hid ((Builtin.append_ #[39, 39] 39 #[fv, .slice (some ⟨wr.heap.size, 0, none⟩) 1 1]).run Tryz.prog (wr.alloc (.cells #[.int .i64 Q] 3)).drew = .ok v' w2) := hrun
      have HPI2 : Hid _ := hPI2
      have x6' : w2.cell? ⟨x, 6, none⟩ = some fv := cell_of_row _ _ _ _ 84 _ hrow2
      have f6' := frozen_of_row w2 x 6 _ 84 hrow2
      have HQ : Hid (((List.range (i + 1)).map (fun v => v * nb / V)) = (List.range i).map (fun v => v * nb / V) ++ [Q]) := by show _ = _; rw [List.range_succ, List.map_append]; simp [hQ]
      clear hZ hQ hrun hPI2 hrow2
      have ho1 := HPI.out.o1
      rw [show ((List.range i).map (fun v => v * nb / V)).length = i by simp] at ho1
      obtain ⟨fa, fc, hfv⟩ := own_shape ho1
      subst hfv
      have ho2 := HPI2.out.o1
      rw [show ((List.range i).map (fun v => v * nb / V) ++ [Q]).length = i + 1 by simp] at ho2
      obtain ⟨ga, gc', hgv⟩ := own_shape ho2
      subst hgv
      clear ho1 ho2
      have hxl : x < wr.heap.size := (Array.getElem?_eq_some_iff.1 HPI.out.row).1
      have hpl : pb < wr.heap.size := (Array.getElem?_eq_some_iff.1 HPI.out.bx).1
      go_wp2_with fail
      go_region_law (refine step_app rfl (.tmp 54) (.tmp 64) 39 rfl _ _ _ (by simp [Act.eval]) (by simp [Act.eval]) _ HRUN.out ?_)
      all_goals
        go_wp2_with fail
        go_roundw
        case rel => exact ⟨i + 1, _, by omega, by go_num, by rw [HQ.out]; exact HPI2.out⟩
        case measure => simp [intOf]; omega
    · have hin : ¬ (i : Int) ≤ (V : Int) := by omega
      obtain rfl : i = V + 1 := by omega
      have l1 : ((List.range (V + 1)).map (fun v => v * nb / V)).length = V + 1 := by simp
      have ho1 := HPI.out.o1
      rw [l1] at ho1
      obtain ⟨fa, cf, hfv⟩ := own_shape ho1
      subst hfv
      obtain ⟨gf, hfa, _, _⟩ := unV_cells ho1 (by omega)
      subst hfa
      clear ho1
      go_wp2_with fail
      go_loopw [9] (fun iv wr => ∃ (i : Nat) (pv : Value), i ≤ V ∧ iv = .int .i64 i ∧ PI w pb x K M C V ns nb (.slice (some ⟨gf, 0, none⟩) (V + 1) cf) ((List.range (V + 1)).map (fun v => v * nb / V)) pv ((List.range i).map (plN L V nb C)) wr) (fun iv _ => V - (intOf iv).toNat)
      case atStart => exact ⟨0, .slice none 0 0, by omega, rfl, HPI.out⟩
      case round =>
        obtain ⟨i, pv, hi, rfl, hPI⟩ := hrel
        have HPJ : Hid _ := hPI
        clear hPI HPI a3
        have a3 : wr.cell? ⟨pb, 3, none⟩ = some (.int .i64 V) := cell_of_row _ _ _ _ 23 _ HPJ.out.bx
        by_cases hlt : i < V
        · have hin : (i : Int) < (V : Int) := by omega
          have h5 := rng_top (nb := nb) (v := i + 1) hV1 (by omega)
          have h6 := rng_le (nb := nb) (V := V) (show i ≤ i + 1 by omega)
          have h7 := HF.out i hlt
          have h8 := HLS.out i hlt
          obtain ⟨A0, hA0⟩ : ∃ A0, i * nb / V = A0 := ⟨_, rfl⟩
          obtain ⟨A1, hA1⟩ : ∃ A1, (i + 1) * nb / V = A1 := ⟨_, rfl⟩
          have hfc : ∀ W pv' l2, PI w pb x K M C V ns nb (.slice (some ⟨gf, 0, none⟩) (V + 1) cf) ((List.range (V + 1)).map (fun v => v * nb / V)) pv' l2 W → W.cell? ⟨gf, i, none⟩ = some (.int .i64 (A0 : Nat)) ∧ W.cell? ⟨gf, i + 1, none⟩ = some (.int .i64 (A1 : Nat)) := fun W pv' l2 h => by
            have ho := h.o1
            rw [l1] at ho
            obtain ⟨g, hg, _, c⟩ := unV_cells ho (by omega)
            cases hg
            refine ⟨?_, ?_⟩
            · rw [c i (by rw [l1]; omega), ← hA0]; simp
            · rw [c (i + 1) (by rw [l1]; omega), ← hA1]; simp
          rw [hA0] at h6 h7
          rw [hA1] at h5 h6 h7
          have hDC : (A1 - A0) * C ≤ 800 * 8 := Nat.mul_le_mul (by omega) hC2
          obtain ⟨D, hD⟩ : ∃ D, A1 - A0 = D := ⟨_, rfl⟩
          rw [hD] at hDC h7
          obtain ⟨Z, hZ⟩ : ∃ Z, D * C = Z := ⟨_, rfl⟩
          rw [hZ] at hDC h7
          obtain ⟨S, hS⟩ : ∃ S, (L i).size = S := ⟨_, rfl⟩
          rw [hS] at h7 h8
          obtain ⟨Q, hQ⟩ : ∃ Q, S - Z = Q := ⟨_, rfl⟩
          have hpn : plN L V nb C i = Q := by unfold plN; rw [hA0, hA1, hD, hZ, hS, hQ]
          have e1 : IntKind.i64.wrap ((A1 : Int) - (A0 : Int)) = (D : Int) := by rw [IntKind.wrap_i64]; omega
          have e2 : IntKind.i64.wrap ((D : Int) * (C : Int)) = (Z : Int) := by rw [← Int.natCast_mul, hZ, IntKind.wrap_i64]; omega
          have e3 : IntKind.i64.wrap ((S : Int) - (Z : Int)) = (Q : Int) := by rw [IntKind.wrap_i64]; omega
          have e4 : IntKind.i64.wrap (S : Int) = (S : Int) := by rw [IntKind.wrap_i64]; omega
          obtain ⟨v', w2, hrun, hPI2, hrow2⟩ := PI.plc HPJ.out.drew Q (by simp; omega)
          have HRUN : Hid ((Builtin.append_ #[39, 39] 39 #[pv, .slice (some ⟨wr.heap.size, 0, none⟩) 1 1]).run Tryz.prog (wr.alloc (.cells #[.int .i64 Q] 3)).drew = .ok v' w2) := hrun
          have HPI2 : Hid _ := hPI2
          obtain ⟨I1, hI1⟩ : ∃ I1, i + 1 = I1 := ⟨_, rfl⟩
          have e5 : IntKind.i64.wrap ((i : Int) + 1) = (I1 : Int) := by rw [IntKind.wrap_i64]; omega
          have e6 : (I1 : Int) < (V : Int) + 1 := by omega
          have e7 : (i : Int) < (V : Int) + 1 := by omega
          have hfc' := hfc
          rw [hI1] at hfc'
          obtain ⟨g0, g1⟩ := hfc' _ _ _ HPJ.out
          obtain ⟨k0, k1⟩ := hfc' _ _ _ HPI2.out
          have hxg : x ≠ gf := fun e => by
            have ho := HPJ.out.o1
            obtain ⟨cur, hcur⟩ := own_type ho gf rfl
            exact row_ne HPJ.out.row hcur (by decide) e
          have hxp : x ≠ pb := row_ne HPJ.out.row HPJ.out.bx (by decide)
          have hgw : gv < w.heap.size := by rw [HPB.out]; exact hgl
          have hxv : x ≠ gv := by have := HPJ.out.lo; omega
          have t0 := HT.out wr HPJ.out.bel i hlt
          have t1 := HT.out _ HPI2.out.bel i hlt
          have b2 : wr.cell? ⟨pb, 2, none⟩ = some (.int .i64 C) := cell_of_row _ _ _ _ 23 _ HPJ.out.bx
          have b2' : (w2.setCell ⟨x, 7, none⟩ v').cell? ⟨pb, 2, none⟩ = some (.int .i64 C) := cell_of_row _ _ _ _ 23 _ HPI2.out.bx
          have x6 : wr.cell? ⟨x, 6, none⟩ = some (.slice (some ⟨gf, 0, none⟩) (V + 1) cf) := cell_of_row _ _ _ _ 84 _ HPJ.out.row
          have x7 : wr.cell? ⟨x, 7, none⟩ = some pv := cell_of_row _ _ _ _ 84 _ HPJ.out.row
          have x6' : (w2.setCell ⟨x, 7, none⟩ v').cell? ⟨x, 6, none⟩ = some (.slice (some ⟨gf, 0, none⟩) (V + 1) cf) := cell_of_row _ _ _ _ 84 _ HPI2.out.row
          have y6 : w2.cell? ⟨x, 6, none⟩ = some (.slice (some ⟨gf, 0, none⟩) (V + 1) cf) := cell_of_row _ _ _ _ 84 _ hrow2
          have y7 : w2.cell? ⟨x, 7, none⟩ = some pv := cell_of_row _ _ _ _ 84 _ hrow2
          have f7 := frozen_of_row w2 x 7 _ 84 hrow2
          have back : ∀ j o, j ≠ x → w2.cell? ⟨j, o, none⟩ = (w2.setCell ⟨x, 7, none⟩ v').cell? ⟨j, o, none⟩ := fun j o hj => (World.cell?_of_block (a := ⟨j, o, none⟩) (set_other w2 x 7 j v' hj)).symm
          have n0 : w2.cell? ⟨gf, i, none⟩ = some (.int .i64 (A0 : Nat)) := (back gf i (fun e => hxg e.symm)).trans k0
          have n1 : w2.cell? ⟨gf, I1, none⟩ = some (.int .i64 (A1 : Nat)) := (back gf I1 (fun e => hxg e.symm)).trans k1
          have n2 : w2.cell? ⟨pb, 2, none⟩ = some (.int .i64 C) := (back pb 2 (fun e => hxp e.symm)).trans b2'
          have n3 : w2.cell? ⟨gv, i, none⟩ = some (.string (L i)) := (back gv i (fun e => hxv e.symm)).trans t1
          have HLQ : Hid (((List.range (i + 1)).map (plN L V nb C)) = (List.range i).map (plN L V nb C) ++ [Q]) := by show _ = _; rw [List.range_succ, List.map_append]; simp [hpn]
          have ho1 := HPJ.out.o2
          rw [show ((List.range i).map (plN L V nb C)).length = i by simp] at ho1
          obtain ⟨pa, pc', hfv⟩ := own_shape ho1
          subst hfv
          have ho2 := HPI2.out.o2
          rw [show ((List.range i).map (plN L V nb C) ++ [Q]).length = i + 1 by simp] at ho2
          obtain ⟨ga, gc', hgv⟩ := own_shape ho2
          subst hgv
          have hxl : x < wr.heap.size := (Array.getElem?_eq_some_iff.1 HPJ.out.row).1
          have hpl : pb < wr.heap.size := (Array.getElem?_eq_some_iff.1 HPJ.out.bx).1
          have hgl2 : gf < wr.heap.size := block_lt_of_cell g0
          have hvl : gv < wr.heap.size := block_lt_of_cell t0
          have HI1 : Hid _ := hI1
          clear hA0 hA1 hfc hfc' hD hZ hQ hpn hrun hPI2 hI1 back hrow2 ho1 ho2 hgw
          go_wp2_with fail
          refine wp_region_held_drew (S := (fun X => X.cell? ⟨x, 6, none⟩ = some (.slice (some ⟨gf, 0, none⟩) (V + 1) cf) ∧ X.cell? ⟨gf, i, none⟩ = some (.int .i64 (A0 : Nat)) ∧ X.cell? ⟨gf, I1, none⟩ = some (.int .i64 (A1 : Nat)) ∧ X.cell? ⟨pb, 2, none⟩ = some (.int .i64 C) ∧ X.cell? ⟨gv, i, none⟩ = some (.string (L i)))) (by kernel_rfl) (by exact ⟨x6, g0, g1, b2, t0⟩) (fun hHeld => ?_)
          refine wpAnyH_take (i := 0) (oi := Oper.mk (some 80) _ _ _ _ _) (v := ?v0) rfl (by kernel_rfl) (by kernel_rfl) (by kernel_rfl) (fun _ _ _ h => h) (Or.inl ⟨by rfl, ?hy0⟩) (by assumption) ?rest0
          case hy0 => (intro X hX; (try dsimp only at hX); go_simp; try with_reducible rfl)
          try go_frame
          refine wpAnyH_take (i := 1) (oi := Oper.mk (some 81) _ _ _ _ _) (v := ?v1) rfl (by kernel_rfl) (by kernel_rfl) (by kernel_rfl) (fun _ _ _ h => h) (Or.inl ⟨by rfl, ?hy1⟩) (by assumption) ?rest1
          case hy1 => (intro X hX; (try dsimp only at hX); go_simp; try with_reducible rfl)
          try go_frame
          refine wpAnyH_take (i := 2) (oi := Oper.mk (some 82) _ _ _ _ _) (v := ?v2) rfl (by kernel_rfl) (by kernel_rfl) (by kernel_rfl) (fun _ _ _ h => h) (Or.inl ⟨by rfl, ?hy2⟩) (by assumption) ?rest2
          case hy2 => (intro X hX; (try dsimp only at hX); go_simp; try with_reducible rfl)
          try go_frame
          refine wpAnyH_take (i := 3) (oi := Oper.mk (some 83) _ _ _ _ _) (v := ?v3) rfl (by kernel_rfl) (by kernel_rfl) (by kernel_rfl) (fun _ _ _ h => h) (Or.inl ⟨by rfl, ?hy3⟩) (by assumption) ?rest3
          case hy3 => (intro X hX; (try dsimp only at hX); go_simp; try with_reducible rfl)
          try go_frame
          refine wpAnyH_take (i := 5) (oi := Oper.mk (some 85) _ _ _ _ _) (v := ?v5) rfl (by kernel_rfl) (by kernel_rfl) (by kernel_rfl) (fun _ _ _ h => h) (Or.inl ⟨by rfl, ?hy5⟩) (by assumption) ?rest5
          case hy5 => (intro X hX; (try dsimp only at hX); go_simp; try with_reducible rfl)
          try go_frame
          refine wpAnyH_take (i := 6) (oi := Oper.mk (some 86) _ _ _ _ _) (v := ?v6) rfl (by kernel_rfl) (by kernel_rfl) (by kernel_rfl) (fun _ _ _ h => h) (Or.inl ⟨by rfl, ?hy6⟩) (by assumption) ?rest6
          case hy6 => (intro X hX; (try dsimp only at hX); go_simp; try with_reducible rfl)
          try go_frame
          refine wpAnyH_take (i := 7) (oi := Oper.mk (some 87) _ _ _ _ _) (v := ?v7) rfl (by kernel_rfl) (by kernel_rfl) (by kernel_rfl) (fun _ _ _ h => h) (Or.inl ⟨by rfl, ?hy7⟩) (by assumption) ?rest7
          case hy7 => (intro X hX; (try dsimp only at hX); go_simp; try with_reducible rfl)
          try go_frame
          refine wpAnyH_take (i := 8) (oi := Oper.mk (some 88) _ _ _ _ _) (v := ?v8) rfl (by kernel_rfl) (by kernel_rfl) (by kernel_rfl) (fun _ _ _ h => h) (Or.inl ⟨by rfl, ?hy8⟩) (by assumption) ?rest8
          case hy8 => (intro X hX; (try dsimp only at hX); go_simp; try with_reducible rfl)
          try go_frame
          refine wpAnyH_take (i := 9) (oi := Oper.mk (some 89) _ _ _ _ _) (v := ?v9) rfl (by kernel_rfl) (by kernel_rfl) (by kernel_rfl) (fun _ _ _ h => h) (Or.inl ⟨by rfl, ?hy9⟩) (by assumption) ?rest9
          case hy9 => (intro X hX; (try dsimp only at hX); go_simp; try with_reducible rfl)
          try go_frame
          refine wpAnyH_take (i := 10) (oi := Oper.mk (some 90) _ _ _ _ _) (v := ?v10) rfl (by kernel_rfl) (by kernel_rfl) (by kernel_rfl) (fun _ _ _ h => h) (Or.inl ⟨by rfl, ?hy10⟩) (by assumption) ?rest10
          case hy10 => (intro X hX; (try dsimp only at hX); go_simp; try with_reducible rfl)
          try go_frame
          refine wpAnyH_take (i := 11) (oi := Oper.mk (some 91) _ _ _ _ _) (v := ?v11) rfl (by kernel_rfl) (by kernel_rfl) (by kernel_rfl) (fun _ _ _ h => h) (Or.inl ⟨by rfl, ?hy11⟩) (by assumption) ?rest11
          case hy11 => (intro X hX; (try dsimp only at hX); go_simp; try with_reducible rfl)
          try go_frame
          refine wpAnyH_take (i := 12) (oi := Oper.mk (some 92) _ _ _ _ _) (v := ?v12) rfl (by kernel_rfl) (by kernel_rfl) (by kernel_rfl) (fun _ _ _ h => h) (Or.inl ⟨by rfl, ?hy12⟩) (by assumption) ?rest12
          case hy12 => (intro X hX; (try dsimp only at hX); go_simp; try with_reducible rfl)
          try go_frame
          refine wpAnyH_take (i := 13) (oi := Oper.mk (some 93) _ _ _ _ _) (v := ?v13) rfl (by kernel_rfl) (by kernel_rfl) (by kernel_rfl) (fun _ _ _ h => h) (Or.inl ⟨by rfl, ?hy13⟩) (by assumption) ?rest13
          case hy13 => (intro X hX; (try dsimp only at hX); go_simp; try with_reducible rfl)
          try go_frame
          refine wpAnyH_take (i := 14) (oi := Oper.mk (some 94) _ _ _ _ _) (v := ?v14) rfl (by kernel_rfl) (by kernel_rfl) (by kernel_rfl) (fun _ _ _ h => h) (Or.inl ⟨by rfl, ?hy14⟩) (by assumption) ?rest14
          case hy14 => (intro X hX; (try dsimp only at hX); go_simp; try with_reducible rfl)
          try go_frame
          refine wpAnyH_take (i := 15) (oi := Oper.mk (some 95) _ _ _ _ _) (v := ?v15) rfl (by kernel_rfl) (by kernel_rfl) (by kernel_rfl) (fun _ _ _ h => h) (Or.inl ⟨by rfl, ?hy15⟩) (by assumption) ?rest15
          case hy15 => (intro X hX; (try dsimp only at hX); go_simp; try with_reducible rfl)
          try go_frame
          refine wpAnyH_take (i := 16) (oi := Oper.mk (some 96) _ _ _ _ _) (v := ?v16) rfl (by kernel_rfl) (by kernel_rfl) (by kernel_rfl) (fun _ _ _ h => h) (Or.inl ⟨by rfl, ?hy16⟩) (by assumption) ?rest16
          case hy16 => (intro X hX; (try dsimp only at hX); go_simp; try with_reducible rfl)
          try go_frame
          refine wpAnyH_take (i := 17) (oi := Oper.mk (some 97) _ _ _ _ _) (v := ?v17) rfl (by kernel_rfl) (by kernel_rfl) (by kernel_rfl) (fun _ _ _ h => h) (Or.inl ⟨by rfl, ?hy17⟩) (by assumption) ?rest17
          case hy17 => (intro X hX; (try dsimp only at hX); go_simp; try with_reducible rfl)
          try go_frame
          refine wpAnyH_take (i := 18) (oi := Oper.mk (some 98) _ _ _ _ _) (v := ?v18) rfl (by kernel_rfl) (by kernel_rfl) (by kernel_rfl) (fun _ _ _ h => h) (Or.inl ⟨by rfl, ?hy18⟩) (by assumption) ?rest18
          case hy18 => (intro X hX; (try dsimp only at hX); go_simp; try with_reducible rfl)
          try go_frame
          refine wpAnyH_take (i := 19) (oi := Oper.mk (some 99) _ _ _ _ _) (v := ?v19) rfl (by kernel_rfl) (by kernel_rfl) (by kernel_rfl) (fun _ _ _ h => h) (Or.inl ⟨by rfl, ?hy19⟩) (by assumption) ?rest19
          case hy19 => (intro X hX; (try dsimp only at hX); go_simp; try with_reducible rfl)
          try go_frame
          refine wpAnyH_take (i := 20) (oi := Oper.mk (some 100) _ _ _ _ _) (v := ?v20) rfl (by kernel_rfl) (by kernel_rfl) (by kernel_rfl) (fun _ _ _ h => h) (Or.inl ⟨by rfl, ?hy20⟩) (by assumption) ?rest20
          case hy20 => (intro X hX; (try dsimp only at hX); go_simp; try with_reducible rfl)
          try go_frame
          refine wpAnyH_take (i := 21) (oi := Oper.mk (some 101) _ _ _ _ _) (v := ?v21) rfl (by kernel_rfl) (by kernel_rfl) (by kernel_rfl) (fun _ _ _ h => h) (Or.inl ⟨by rfl, ?hy21⟩) (by assumption) ?rest21
          case hy21 => (intro X hX; (try dsimp only at hX); go_simp; try with_reducible rfl)
          try go_frame
          refine wpAnyH_take (i := 22) (oi := Oper.mk (some 102) _ _ _ _ _) (v := ?v22) rfl (by kernel_rfl) (by kernel_rfl) (by kernel_rfl) (fun _ _ _ h => h) (Or.inl ⟨by rfl, ?hy22⟩) (by assumption) ?rest22
          case hy22 => (intro X hX; (try dsimp only at hX); go_simp; try with_reducible rfl)
          try go_frame
          refine wpAnyH_take (i := 23) (oi := Oper.mk (some 103) _ _ _ _ _) (v := ?v23) rfl (by kernel_rfl) (by kernel_rfl) (by kernel_rfl) (fun _ _ _ h => h) (Or.inl ⟨by rfl, ?hy23⟩) (by assumption) ?rest23
          case hy23 => (intro X hX; (try dsimp only at hX); go_simp; try with_reducible rfl)
          try go_frame
          refine wpAnyH_take (i := 24) (oi := Oper.mk (some 104) _ _ _ _ _) (v := ?v24) rfl (by kernel_rfl) (by kernel_rfl) (by kernel_rfl) (fun _ _ _ h => h) (Or.inl ⟨by rfl, ?hy24⟩) (by assumption) ?rest24
          case hy24 => (intro X hX; (try dsimp only at hX); go_simp; try with_reducible rfl)
          try go_frame
          refine wpAnyH_take (i := 25) (oi := Oper.mk (some 105) _ _ _ _ _) (v := ?v25) rfl (by kernel_rfl) (by kernel_rfl) (by kernel_rfl) (fun _ _ _ h => h) (Or.inl ⟨by rfl, ?hy25⟩) (by assumption) ?rest25
          case hy25 => (intro X hX; (try dsimp only at hX); go_simp; try with_reducible rfl)
          try go_frame
          refine wpAnyH_take (i := 26) (oi := Oper.mk (some 106) _ _ _ _ _) (v := ?v26) rfl (by kernel_rfl) (by kernel_rfl) (by kernel_rfl) (fun _ _ _ h => h) (Or.inl ⟨by rfl, ?hy26⟩) (by assumption) ?rest26
          case hy26 => (intro X hX; (try dsimp only at hX); go_simp; try with_reducible rfl)
          try go_frame
          refine wpAnyH_take (i := 27) (oi := Oper.mk (some 107) _ _ _ _ _) (v := ?v27) rfl (by kernel_rfl) (by kernel_rfl) (by kernel_rfl) (fun _ _ _ h => h) (Or.inl ⟨by rfl, ?hy27⟩) (by assumption) ?rest27
          case hy27 => (intro X hX; (try dsimp only at hX); go_simp; try with_reducible rfl)
          try go_frame
          refine wpAnyH_take (i := 28) (oi := Oper.mk (some 108) _ _ _ _ _) (v := ?v28) rfl (by kernel_rfl) (by kernel_rfl) (by kernel_rfl) (fun _ _ _ h => h) (Or.inl ⟨by rfl, ?hy28⟩) (by assumption) ?rest28
          case hy28 => (intro X hX; (try dsimp only at hX); go_simp; try with_reducible rfl)
          try go_frame
          refine wpAnyH_take (i := 29) (oi := Oper.mk (some 109) _ _ _ _ _) (v := ?v29) rfl (by kernel_rfl) (by kernel_rfl) (by kernel_rfl) (fun _ _ _ h => h) (Or.inl ⟨by rfl, ?hy29⟩) (by assumption) ?rest29
          case hy29 => (intro X hX; (try dsimp only at hX); go_simp; try with_reducible rfl)
          try go_frame
          refine wpAnyH_ready (rs := [4, 30]) (by kernel_rfl) (by simp) ?_
          refine AllReadyH.cons (o := Oper.mk (some 84) _ _ _ _ _) rfl (fun Ka hKa => ?_) (AllReadyH.cons (o := Oper.mk (some 110) _ _ _ _ _) rfl (fun Kb hKb => ?_) AllReadyH.nil)
          · go_simp
            try go_frame
            refine hKa.out _ _ (by go_keep) (fun hHeld => ?_)
            refine wpAnyH_ready (rs := [30]) (by kernel_rfl) (by simp) ?_
            refine AllReadyH.cons (o := Oper.mk (some 110) _ _ _ _ _) rfl (fun Kc hKc => ?_) AllReadyH.nil
            go_simp
            try go_frame
            refine hKc.out _ _ (by go_keep) (fun hHeld => ?_)
            refine wpAnyH_ready (rs := [31]) (by kernel_rfl) (by simp) ?_
            refine AllReadyH.cons (o := Oper.mk (some 111) _ _ _ _ _) rfl (fun Kd hKd => ?_) AllReadyH.nil
            refine step_app rfl (.tmp 84) (.tmp 110) 39 rfl _ _ _ (by simp [Act.eval]) (by simp [Act.eval]) _ HRUN.out ?_
            try go_frame
            refine hKd.out _ _ (by exact ⟨y6, n0, n1, n2, n3⟩) (fun hHeld => ?_)
            refine wpAnyH_take (i := 32) (oi := Oper.mk (some 112) _ _ _ _ _) (v := ?vdp) rfl (by kernel_rfl) (by kernel_rfl) (by kernel_rfl) (fun _ _ _ h => h) (Or.inl ⟨by rfl, ?hydp⟩) (by assumption) ?restdp
            case hydp => (intro X hX; (try dsimp only at hX); go_simp; try with_reducible rfl)
            try go_frame
            refine wpAnyH_take (i := 33) (oi := Oper.mk (some 113) _ _ _ _ _) (v := ?vdq) rfl (by kernel_rfl) (by kernel_rfl) (by kernel_rfl) (fun _ _ _ h => h) (Or.inl ⟨by rfl, ?hydq⟩) (by assumption) ?restdq
            case hydq => (intro X hX; (try dsimp only at hX); go_simp; try with_reducible rfl)
            try go_frame
            refine wpAnyH_ready (rs := [34]) (by kernel_rfl) (by simp) ?_
            refine AllReadyH.cons (o := Oper.mk none _ _ _ _ _) rfl (fun Kdz hKdz => ?_) AllReadyH.nil
            go_simp
            try go_frame
            refine hKdz.out _ _ (by exact ⟨x6', k0, k1, b2', t1⟩) (fun _ => ?_)
            refine wpAnyH_done (by kernel_rfl) ?_ _
            go_wp2_with fail
            go_roundw
            case rel => exact ⟨i + 1, _, by omega, by have := HI1.out; go_num, by rw [HLQ.out]; exact HPI2.out⟩
            case measure => have := HI1.out; simp [intOf]; omega
          · go_simp
            try go_frame
            refine hKb.out _ _ (by go_keep) (fun hHeld => ?_)
            refine wpAnyH_ready (rs := [4]) (by kernel_rfl) (by simp) ?_
            refine AllReadyH.cons (o := Oper.mk (some 84) _ _ _ _ _) rfl (fun Ke hKe => ?_) AllReadyH.nil
            go_simp
            try go_frame
            refine hKe.out _ _ (by go_keep) (fun hHeld => ?_)
            refine wpAnyH_ready (rs := [31]) (by kernel_rfl) (by simp) ?_
            refine AllReadyH.cons (o := Oper.mk (some 111) _ _ _ _ _) rfl (fun Kf hKf => ?_) AllReadyH.nil
            refine step_app rfl (.tmp 84) (.tmp 110) 39 rfl _ _ _ (by simp [Act.eval]) (by simp [Act.eval]) _ HRUN.out ?_
            try go_frame
            refine hKf.out _ _ (by exact ⟨y6, n0, n1, n2, n3⟩) (fun hHeld => ?_)
            refine wpAnyH_take (i := 32) (oi := Oper.mk (some 112) _ _ _ _ _) (v := ?vfp) rfl (by kernel_rfl) (by kernel_rfl) (by kernel_rfl) (fun _ _ _ h => h) (Or.inl ⟨by rfl, ?hyfp⟩) (by assumption) ?restfp
            case hyfp => (intro X hX; (try dsimp only at hX); go_simp; try with_reducible rfl)
            try go_frame
            refine wpAnyH_take (i := 33) (oi := Oper.mk (some 113) _ _ _ _ _) (v := ?vfq) rfl (by kernel_rfl) (by kernel_rfl) (by kernel_rfl) (fun _ _ _ h => h) (Or.inl ⟨by rfl, ?hyfq⟩) (by assumption) ?restfq
            case hyfq => (intro X hX; (try dsimp only at hX); go_simp; try with_reducible rfl)
            try go_frame
            refine wpAnyH_ready (rs := [34]) (by kernel_rfl) (by simp) ?_
            refine AllReadyH.cons (o := Oper.mk none _ _ _ _ _) rfl (fun Kfz hKfz => ?_) AllReadyH.nil
            go_simp
            try go_frame
            refine hKfz.out _ _ (by exact ⟨x6', k0, k1, b2', t1⟩) (fun _ => ?_)
            refine wpAnyH_done (by kernel_rfl) ?_ _
            go_wp2_with fail
            go_roundw
            case rel => exact ⟨i + 1, _, by omega, by have := HI1.out; go_num, by rw [HLQ.out]; exact HPI2.out⟩
            case measure => have := HI1.out; simp [intOf]; omega
        · have hin : ¬ (i : Int) < (V : Int) := by omega
          obtain rfl : i = V := by omega
          go_wp2_with fail
          go_ret
          exact PI.done HPJ.out hV1
end Go.Proofs.YtadinjaocnlglaaGreatDoor
