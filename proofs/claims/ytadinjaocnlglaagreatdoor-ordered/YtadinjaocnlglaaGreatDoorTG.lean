/-
  The walk of vaultref.pressed.
-/
import Derived.Test.YtadinjaocnlglaaGreatDoorTC
import Derived.Test.YtadinjaocnlglaaGreatDoorTD
import Derived.Test.YtadinjaocnlglaaGreatDoorTF
import Derived.WalkKit
import Derived.WalkSpells
import Derived.WalkLawsBesides
import Derived.BigRegion
import Derived.BigQuiet
import Derived.Deep.QuietTactic
import Derived.Test.YtadinjaocnlglaaGreatDoorTT
namespace Go.Proofs.YtadinjaocnlglaaGreatDoor
open Go.RowKit
set_option maxHeartbeats 1000000 in
set_option maxRecDepth 100000 in
theorem pressed_any (kt : Nat → Int) (st : Nat → Int) (s : ByteArray) (w : World) (h0 : s.size = 64) (hT : Tab w 3 kt) (h3 : 4 ≤ w.heap.size) :
    Calls Tryz.prog 234 #[.agg (row 8 st), .string s] w fun e w' => e = .returned (.agg (row 8 (press kt (wrd (iniR s)) st))) ∧ Below w.heap.size w w' := by
  have HT : Hid _ := hT
  clear hT
  go_enter Tryz.func234, Tryz.ntmps234
  go_wp2_with fail
  refine (words_any s _ h0).mono ?_
  rintro e w1 ⟨rfl, hb1⟩
  have hsz1 : w.heap.size + 2 ≤ w1.heap.size := by have := hb1.size; simpa using this
  have hA1 : Words w1 w.heap.size 8 294 st := Words.below (heap_alloc2_old _ _ _) hb1 (by simp; omega)
  have hR1 : Words w1 (w.heap.size + 1) 8 294 (fun _ => 0) := Words.below (heap_alloc2_new _ _ _) hb1 (by simp)
  have hB1 : Below w.heap.size w w1 := (((Below.refl _ _).alloc (Nat.le_refl _) _).alloc (by simp) _).trans (hb1.mono (by simp; omega))
  have hld : (Tryz.prog.info? 372).map (·.size) = some (row 64 (wrd (iniR s))).size := by rw [row_size]; exact info32
  have hld8 : (Tryz.prog.info? 294).map (·.size) = some (row 8 st).size := by rw [row_size]; exact info26
  clear hb1
  generalize hW : wrd (iniR s) = W at *
  have HW : Hid (wrd (iniR s) = W) := hW
  clear hW
  go_wp2_with (first | (refine wpList_store_row_at rfl rfl 372 (.tmp 5) (.tmp 16) rfl w1.heap.size (row 64 W) rfl rfl 372 _ (heap_alloc_new w1 _) hld (by rw [row_size]; rfl) (row_ones _ _) ?_; intro w2 hw2; (have hA2 : Words w2 w.heap.size 8 294 st := by rw [hw2.out]; exact (hA1.alloc _).setRow_other _ _ (by omega))) | (refine wpList_load_row rfl 294 (.tmp 2) rfl w.heap.size rfl 294 (row 8 st) (0, 0) _ hA2 Tryz.underlying294 rfl hld8 ?_) | (refine wpList_store_row_at rfl rfl 294 (.tmp 6) (.tmp 17) rfl w2.heap.size (row 8 st) rfl rfl 294 _ (heap_alloc_new w2 _) hld8 (by rw [row_size]; rfl) (row_ones _ _) ?_; intro w3 hw3))
  have hz2 : w2.heap.size = w1.heap.size + 1 := by rw [hw2.out]; simp
  have hgx : w1.heap.size < w2.heap.size := by omega
  have M3 : PMem w w1.heap.size w2.heap.size st st W w3 := by
    have r1 : Words w2 (w.heap.size + 1) 8 294 (fun _ => 0) := by rw [hw2.out]; exact (hR1.alloc _).setRow_other _ _ (by omega)
    have r2 : Words w2 w1.heap.size 64 372 W := by rw [hw2.out]; exact words_setRow W (heap_alloc_new w1 _)
    have r3 : Below w.heap.size w w2 := by rw [hw2.out]; exact below_setRow (hB1.alloc (by omega) _) _ (by omega) _
    rw [hw3.out]
    exact ⟨(hA2.alloc _).setRow_other _ _ (by omega), (r1.alloc _).setRow_other _ _ (by omega), (r2.alloc _).setRow_other _ _ (by omega), words_setRow st (heap_alloc_new w2 _), below_setRow (r3.alloc (by omega) _) _ (by omega) _⟩
  generalize w2.heap.size = gx at *
  generalize w1.heap.size = g at *
  clear hw2 hw3 hA1 hR1 hB1 hA2 hz2
  go_loopw [7] (fun i wr => ∃ k : Nat, k ≤ 64 ∧ i = .int .i64 k ∧ PMem w g gx st (rounds kt W st k) W wr) (fun i _ => 64 - (intOf i).toNat)
  case atStart => exact ⟨0, by omega, rfl, M3⟩
  case round =>
    clear M3
    obtain ⟨k, hk, rfl, M⟩ := hrel
    by_cases hlt : k < 64
    · obtain ⟨x, hx⟩ : ∃ x, rounds kt W st k = x := ⟨_, rfl⟩
      have HS : Hid (rounds kt W st (k + 1) = rnd x (kt k) (W k)) := by rw [← hx]; rfl
      rw [hx] at M
      clear hx
      have c4 := M.cur.cell 4 (by omega)
      go_wp2
      go_quiet ((go_at_call 276; exact Calls.quiet_of_same (turn_at _ _ _ (by decide) (by decide))))
      obtain ⟨wa, hwa⟩ : ∃ wq, wq = wr.drewN nq := ⟨_, rfl⟩
      rw [← hwa]
      have Ma : PMem w g gx st x W wa := by rw [hwa]; exact M.drewN _
      clear hwa c4 M
      have c4 := Ma.cur.cell 4 (by omega)
      have c5 := Ma.cur.cell 5 (by omega)
      have c6 := Ma.cur.cell 6 (by omega)
      have c7 := Ma.cur.cell 7 (by omega)
      have hKc : wa.cell? ⟨3, k, none⟩ = some (.int .u32 (kt k)) := Tab.below HT.out Ma.below (by omega) k hlt
      have hWc := Ma.wrd.cell k hlt
      go_wp2
      go_quiet (fail)
      obtain ⟨wb, hwb⟩ : ∃ wq, wq = wa.drewN nq := ⟨_, rfl⟩
      rw [← hwb]
      have Mb : PMem w g gx st x W wb := by rw [hwb]; exact Ma.drewN _
      clear hwb c4 c5 c6 c7 hKc hWc Ma
      have c0 := Mb.cur.cell 0 (by omega)
      go_wp2
      go_quiet ((go_at_call 276; exact Calls.quiet_of_same (turn_at _ _ _ (by decide) (by decide))))
      obtain ⟨wc, hwc⟩ : ∃ wq, wq = wb.drewN nq := ⟨_, rfl⟩
      rw [← hwc]
      have Mc : PMem w g gx st x W wc := by rw [hwc]; exact Mb.drewN _
      clear hwc c0 Mb
      have c0 := Mc.cur.cell 0 (by omega)
      have c1 := Mc.cur.cell 1 (by omega)
      have c2 := Mc.cur.cell 2 (by omega)
      have c3 := Mc.cur.cell 3 (by omega)
      have c4 := Mc.cur.cell 4 (by omega)
      have c5 := Mc.cur.cell 5 (by omega)
      have c6 := Mc.cur.cell 6 (by omega)
      have hcur := Mc.cur
      go_wp2_with (refine wpList_store_row_at rfl rfl 294 (.tmp 6) (.tmp 109) rfl gx _ rfl rfl 294 (row 8 x) hcur (by exact info26) (by rw [row_size]; rfl) (ones8 _ _ _ _ _ _ _ _) ?_; intro wd hwd)
      go_roundw
      case rel =>
        refine ⟨k + 1, by omega, by go_num, ?_⟩
        rw [HS.out, hwd.out, rowR]
        exact Mc.setRow hsz1 hgx _
      case measure => simp [intOf]; omega
    · have hk64 : k = 64 := by omega
      subst hk64
      obtain ⟨x, hx⟩ : ∃ x, rounds kt W st 64 = x := ⟨_, rfl⟩
      have HX : Hid (rounds kt W st 64 = x) := hx
      rw [hx] at M
      clear hx
      go_wp2
      go_loopw [14] (fun i wr => ∃ k : Nat, k ≤ 8 ∧ i = .int .i64 k ∧ SumR w gx st x k wr) (fun i _ => 8 - (intOf i).toNat)
      case atStart => exact ⟨0, by omega, rfl, M.below, M.cur, M.res, st, M.own, fun j hj => by omega, fun j _ => rfl⟩
      case round =>
        clear M
        obtain ⟨k, hk, rfl, S⟩ := hrel
        by_cases hlt : k < 8
        · obtain ⟨f, hf, hf1, hf2⟩ := S.sum
          have c1 := hf.cell k hlt
          rw [hf2 k (Nat.le_refl _)] at c1
          have c2 := hf.free k
          have c3 := S.cur.cell k hlt
          clear hf1 hf2 hf
          go_wp2
          go_region
          go_wp2
          go_roundw
          case rel => exact ⟨k + 1, by omega, by go_num, S.drew.step (by omega)⟩
          case measure => simp [intOf]; omega
        · have hk8 : k = 8 := by omega
          subst hk8
          obtain ⟨f, hf, hf1, hf2⟩ := S.sum
          have HF : Hid _ := hf1
          clear hf1 hf2
          have hR := S.res
          have hld8 : (Tryz.prog.info? 294).map (·.size) = some (row 8 f).size := by rw [row_size]; exact info26
          have hold8 : (row 8 (fun _ => 0)).size = (row 8 f).size := by simp [row_size]
          go_wp2_with (first | (refine wpList_load_row rfl 294 (.tmp 2) rfl w.heap.size rfl 294 (row 8 f) (0, 0) _ hf Tryz.underlying294 rfl hld8 ?_) | (refine wpList_store_row rfl 294 (.tmp 4) (.tmp 123) rfl (w.heap.size + 1) (row 8 f) rfl rfl 294 (row 8 fun _ => 0) hR hld8 hold8 (row_ones _ _) ?_))
          have e : row 8 f = row 8 (press kt W st) := row_congr 8 _ _ (by
            intro j hj; rw [HF.out j hj]; unfold press; rw [HX.out])
          refine bodyPost_ret (v := .agg (row 8 f)) ?_ rfl ?_
          · exact results_cell_row Tryz.results234 _ _ (w.heap.size + 1) 294 (row 8 f) (0, 0) _ rfl (setRow_heap wr (w.heap.size + 1) _ _ 294 (0, 0) hR) Tryz.underlying294 rfl hld8
          · rw [e, ← HW.out]
            exact ⟨rfl, below_setRow S.below _ (by omega) _⟩
end Go.Proofs.YtadinjaocnlglaaGreatDoor
