/-
  The walk of digest.mix.
-/
import Derived.Test.YtnghgdficnkbbaaDoorTC
import Derived.Test.YtnghgdficnkbbaaDoorTE
import Derived.WalkKit
import Derived.WalkSpells
import Derived.WalkLawsBesides
import Derived.BigRegion
import Derived.BigQuiet
import Derived.Deep.QuietTactic
namespace Go.Proofs.YtnghgdficnkbbaaDoor
open Go.RowKit
set_option maxHeartbeats 1000000 in
set_option maxRecDepth 100000 in
theorem mix_any (kt : Nat → Int) (st : Nat → Int) (s : ByteArray) (w : World) (h0 : s.size = 64) (hT : Tab w 0 kt) (h3 : 1 ≤ w.heap.size) :
    Calls Tryd.prog 31 #[.agg (row 8 st), .string s] w fun e w' => e = .returned (.agg (row 8 (press kt (wrd (iniP s)) st))) ∧ Below w.heap.size w w' := by
  have HT : Hid _ := hT
  clear hT
  go_enter Tryd.func31, Tryd.ntmps31
  go_wp2_with fail
  refine (sched_any s _ h0).mono ?_
  rintro e w1 ⟨rfl, hb1⟩
  have hsz1 : w.heap.size + 2 ≤ w1.heap.size := by have := hb1.size; simpa using this
  have hA1 : Words w1 w.heap.size 8 38 st := Words.below (heap_alloc2_old _ _ _) hb1 (by simp; omega)
  have hR1 : Words w1 (w.heap.size + 1) 8 38 (fun _ => 0) := Words.below (heap_alloc2_new _ _ _) hb1 (by simp)
  have hB1 : Below w.heap.size w w1 := (((Below.refl _ _).alloc (Nat.le_refl _) _).alloc (by simp) _).trans (hb1.mono (by simp; omega))
  have hld : (Tryd.prog.info? 69).map (·.size) = some (row 64 (wrd (iniP s))).size := by rw [row_size]; exact info32
  clear hb1
  generalize hW : wrd (iniP s) = W at *
  have HW : Hid (wrd (iniP s) = W) := hW
  clear hW
  go_wp2_with (refine wpList_store_row_at rfl rfl 69 (.tmp 5) (.tmp 23) rfl w1.heap.size (row 64 W) rfl rfl 69 _ (heap_alloc_new w1 _) hld (by rw [row_size]; rfl) (row_ones _ _) ?_; intro w2 hw2)
  have M2 : Mem w w1.heap.size st (fun _ => 0) W w2 := by
    refine ⟨?_, ?_, ?_, ?_, hsz1, ?_⟩
    · rw [hw2.out]; exact (hA1.alloc _).setRow_other _ _ (by omega)
    · rw [hw2.out]; exact (hR1.alloc _).setRow_other _ _ (by omega)
    · rw [hw2.out]; exact words_setRow W (heap_alloc_new w1 _)
    · rw [hw2.out]; exact below_setRow (hB1.alloc (by omega) _) _ (by omega) _
    · rw [hw2.out]; simp
  clear hw2 hA1 hR1 hB1 hsz1
  have c0 := M2.own.cell 0 (by omega)
  have c1 := M2.own.cell 1 (by omega)
  have c2 := M2.own.cell 2 (by omega)
  have c3 := M2.own.cell 3 (by omega)
  go_quiet (fail)
  go_wp2
  obtain ⟨w3, hw3⟩ : ∃ wq, wq = w2.drewN nq := ⟨_, rfl⟩
  rw [← hw3]
  have M3 : Mem w w1.heap.size st (fun _ => 0) W w3 := by rw [hw3]; exact M2.drewN _
  clear hw3 c0 c1 c2 c3 M2
  have c4 := M3.own.cell 4 (by omega)
  have c5 := M3.own.cell 5 (by omega)
  have c6 := M3.own.cell 6 (by omega)
  have c7 := M3.own.cell 7 (by omega)
  go_quiet (fail)
  obtain ⟨w4, hw4⟩ : ∃ wq, wq = w3.drewN nq := ⟨_, rfl⟩
  rw [← hw4]
  have M4 : Mem w w1.heap.size st (fun _ => 0) W w4 := by rw [hw4]; exact M3.drewN _
  clear hw4 c4 c5 c6 c7 M3
  have hw4 : Words w4 w1.heap.size 64 69 W := M4.wrd
  go_wp2_with (refine wpList_load_row rfl 69 (.tmp 5) rfl w1.heap.size rfl 69 (row 64 W) (0, 0) _ hw4 Tryd.underlying69 rfl hld ?_)
  go_loop [41, 6, 7, 8, 9, 10, 11, 12, 13] (fun i a b c d e f g h => ∃ k : Nat, k ≤ 64 ∧ i = .int .i64 k ∧ a = .int .u32 (rounds kt W st k 0) ∧ b = .int .u32 (rounds kt W st k 1) ∧ c = .int .u32 (rounds kt W st k 2) ∧ d = .int .u32 (rounds kt W st k 3) ∧ e = .int .u32 (rounds kt W st k 4) ∧ f = .int .u32 (rounds kt W st k 5) ∧ g = .int .u32 (rounds kt W st k 6) ∧ h = .int .u32 (rounds kt W st k 7)) (fun i _ _ _ _ _ _ _ _ => 64 - (intOf i).toNat)
  case atStart => exact ⟨0, by omega, rfl, rfl, rfl, rfl, rfl, rfl, rfl, rfl, rfl⟩
  case round =>
    obtain ⟨k, hk, rfl, rfl, rfl, rfl, rfl, rfl, rfl, rfl, rfl⟩ := hrel
    by_cases hlt : k < 64
    · have hKc : w4.cell? ⟨0, k, none⟩ = some (.int .u32 (kt k)) := Tab.below HT.out M4.below (by omega) k hlt
      have hix := fun Wx => index_row 64 69 W k hlt Wx Tryd.underlying69
      obtain ⟨x, hx⟩ : ∃ x, rounds kt W st k = x := ⟨_, rfl⟩
      have HS : Hid (rounds kt W st (k + 1) = rnd x (kt k) (W k)) := by rw [← hx]; rfl
      rw [hx]
      clear hx
      go_wp2_with (go_at_call 38; refine (rot_at _ _ _ (by decide) (by decide)).mono ?_; rintro e w' ⟨rfl, rfl⟩)
      go_round
      case rel =>
        refine ⟨k + 1, by omega, by go_num, ?_⟩
        rw [HS.out]
        exact ⟨congrArg (Value.int .u32) (rnd_a x _ _), rfl, rfl, rfl, congrArg (Value.int .u32) (rnd_e x _ _), rfl, rfl, rfl⟩
      case measure => simp [intOf]; omega
    · have hk64 : k = 64 := by omega
      subst hk64
      have hlo : w.heap.size + 2 ≤ w4.heap.size := by have := M4.lo; have := M4.size; omega
      obtain ⟨x, hx⟩ : ∃ x, rounds kt W st 64 = x := ⟨_, rfl⟩
      have HX : Hid (rounds kt W st 64 = x) := hx
      rw [hx]
      clear hx
      go_wp2
      go_loopw [115] (fun i wr => ∃ k : Nat, k ≤ 8 ∧ i = .int .i64 k ∧ SumMem w w4.heap.size st x k wr) (fun i _ => 8 - (intOf i).toNat)
      case atStart => exact ⟨0, by omega, rfl, M4.below.alloc (by omega) _, M4.own.alloc _, M4.res.alloc _, x, heap_alloc_new w4 _, fun j hj => by omega, fun j _ => rfl⟩
      case round =>
        clear M4
        obtain ⟨k, hk, rfl, S⟩ := hrel
        by_cases hlt : k < 8
        · obtain ⟨f, hf, hf1, hf2⟩ := S.sum
          have c1 := hf.cell k hlt
          rw [hf2 k (Nat.le_refl _)] at c1
          have c2 := hf.free k
          have c3 := S.own.cell k hlt
          clear hf1 hf2 hf
          go_wp2
          go_region
          go_wp2
          go_roundw
          case rel => exact ⟨k + 1, by omega, by go_num, S.drew.step (by omega)⟩
          case measure => simp [intOf]; omega
        · have hk8 : k = 8 := by omega
          subst hk8
          obtain ⟨f, hf, hf1, hf2⟩ := S.sum
          have HF : Hid _ := hf1
          clear hf1 hf2
          have hR := S.res
          have hld8 : (Tryd.prog.info? 38).map (·.size) = some (row 8 f).size := by rw [row_size]; exact info26
          have hold8 : (row 8 (fun _ => 0)).size = (row 8 f).size := by simp [row_size]
          go_wp2_with (first | (refine wpList_load_row rfl 38 (.tmp 20) rfl w4.heap.size rfl 38 (row 8 f) (0, 0) _ hf Tryd.underlying38 rfl hld8 ?_) | (refine wpList_store_row rfl 38 (.tmp 4) (.tmp 127) rfl (w.heap.size + 1) (row 8 f) rfl rfl 38 (row 8 fun _ => 0) hR hld8 hold8 (row_ones _ _) ?_))
          have e : row 8 f = row 8 (press kt W st) := row_congr 8 _ _ (by
            intro j hj; rw [HF.out j hj]; unfold press; rw [HX.out])
          refine bodyPost_ret (v := .agg (row 8 f)) ?_ rfl ?_
          · exact results_cell_row Tryd.results31 _ _ (w.heap.size + 1) 38 (row 8 f) (0, 0) _ rfl (setRow_heap wr (w.heap.size + 1) _ _ 38 (0, 0) hR) Tryd.underlying38 rfl hld8
          · rw [e, ← HW.out]
            exact ⟨rfl, below_setRow S.below _ (by omega) _⟩
end Go.Proofs.YtnghgdficnkbbaaDoor
