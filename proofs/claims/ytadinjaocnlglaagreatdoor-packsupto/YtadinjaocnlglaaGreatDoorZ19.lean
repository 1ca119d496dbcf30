/-
  The walk of vaultref.words.
-/
import Derived.Test.YtadinjaocnlglaaGreatDoorZ16
import Derived.WalkKit
import Derived.WalkSpells
import Derived.WalkLawsBesides
import Derived.BigRegion
import Derived.BigQuiet
import Derived.Deep.QuietTactic
import Derived.Test.YtadinjaocnlglaaGreatDoorZ18
namespace Go.Proofs.YtadinjaocnlglaaGreatDoor
open Go.RowKit
set_option maxHeartbeats 1000000 in
theorem words_any (s : ByteArray) (w : World) (h0 : s.size = 64)  :
    Calls Tryz.prog 275 #[.string s] w fun e w' => e = .returned (.agg (row 64 (wrd (iniR s)))) ∧ Below w.heap.size w w' := by
  go_enter Tryz.func275, Tryz.ntmps275
  go_wp2
  go_loopw [4] (fun i wr => ∃ k : Nat, k ≤ 16 ∧ i = .int .i64 k ∧ Below w.heap.size w wr ∧ wr.heap.size = w.heap.size + 2 ∧ Words wr w.heap.size 64 372 (fun _ => 0) ∧ ∃ f, Words wr (w.heap.size + 1) 64 372 f ∧ ∀ j, j < k → f j = wrd (iniR s) j) (fun i _ => 16 - (intOf i).toNat)
  case atStart =>
    refine ⟨0, by omega, rfl, ?_, ?_, ?_, (fun _ => 0), ?_, fun j hj => by omega⟩
    · exact ((Below.refl _ _).alloc (Nat.le_refl _) _).alloc (by simp) _
    · simp
    · unfold Words; rw [zeros64]; exact heap_alloc2_old _ _ _
    · unfold Words; rw [zeros64]; exact heap_alloc2_new _ _ _
  case round =>
    obtain ⟨k, hk, rfl, hb, hsz, hz, f, hf, hfj⟩ := hrel
    by_cases hlt : k < 16
    · have hck := hf.cell k (by omega)
      have hfk := hf.free k
      have i0 := fun W => index_byt s (4 * k) (by omega) W (4 * (k : Int)) (by omega)
      have i1 := fun W => index_byt s (4 * k + 1) (by omega) W (4 * (k : Int) + 1) (by omega)
      have i2 := fun W => index_byt s (4 * k + 2) (by omega) W (4 * (k : Int) + 2) (by omega)
      have i3 := fun W => index_byt s (4 * k + 3) (by omega) W (4 * (k : Int) + 3) (by omega)
      have HJ : Hid _ := hfj
      clear hfj
      go_wp2
      go_region
      go_wp2
      go_roundw
      case rel =>
        exact ⟨k + 1, by omega, by go_num, fill_step hb.drew hsz hz hf HJ.out (wrd_lo (iniR s) k hlt).symm⟩
      case measure => simp [intOf]; omega
    · have hk16 : k = 16 := by omega
      subst hk16
      have HF : Hid _ := hfj
      clear hfj
      go_wp2
      go_loopw [5] (fun i wr => ∃ k : Nat, 16 ≤ k ∧ k ≤ 64 ∧ i = .int .i64 k ∧ Below w.heap.size w wr ∧ wr.heap.size = w.heap.size + 2 ∧ Words wr w.heap.size 64 372 (fun _ => 0) ∧ ∃ f, Words wr (w.heap.size + 1) 64 372 f ∧ ∀ j, j < k → f j = wrd (iniR s) j) (fun i _ => 64 - (intOf i).toNat)
      case atStart => exact ⟨16, by omega, by omega, rfl, hb, hsz, hz, f, hf, HF.out⟩
      case round =>
        clear hf hb hsz hz HF
        obtain ⟨k, hk1, hk2, rfl, hb, hsz, hz, f, hf, hfj⟩ := hrel
        by_cases hlt : k < 64
        · have hck := hf.cell k (by omega)
          have hfk := hf.free k
          have h15 := hf.cell (k - 15) (by omega)
          have h2 := hf.cell (k - 2) (by omega)
          have h16 := hf.cell (k - 16) (by omega)
          have h7 := hf.cell (k - 7) (by omega)
          rw [hfj (k - 15) (by omega)] at h15
          rw [hfj (k - 2) (by omega)] at h2
          rw [hfj (k - 16) (by omega)] at h16
          rw [hfj (k - 7) (by omega)] at h7
          have HJ : Hid _ := hfj
          clear hfj
          go_wp2
          go_quiet ((go_at_call 276; exact Calls.quiet_of_same (turn_at _ _ _ (by decide) (by decide))))
          go_wp2
          obtain ⟨wq, hwq⟩ : ∃ wq, wq = wr.drewN nq := ⟨_, rfl⟩
          rw [← hwq]
          have hbq : Below w.heap.size w wq := by rw [hwq]; exact below_drewN hb _
          have hszq : wq.heap.size = w.heap.size + 2 := by rw [hwq]; exact hsz
          have hzq : Words wq w.heap.size 64 372 (fun _ => 0) := by rw [hwq]; exact hz
          have hfq : Words wq (w.heap.size + 1) 64 372 f := by rw [hwq]; exact hf
          rw [show wr.cell? ⟨w.heap.size + 1, k, none⟩ = wq.cell? ⟨w.heap.size + 1, k, none⟩ by rw [hwq]; rfl] at hck
          rw [show wr.frozen? ⟨w.heap.size + 1, k, none⟩ = wq.frozen? ⟨w.heap.size + 1, k, none⟩ by rw [hwq]; rfl] at hfk
          rw [show wr.cell? ⟨w.heap.size + 1, k - 2, none⟩ = wq.cell? ⟨w.heap.size + 1, k - 2, none⟩ by rw [hwq]; rfl] at h2
          rw [show wr.cell? ⟨w.heap.size + 1, k - 16, none⟩ = wq.cell? ⟨w.heap.size + 1, k - 16, none⟩ by rw [hwq]; rfl] at h16
          rw [show wr.cell? ⟨w.heap.size + 1, k - 7, none⟩ = wq.cell? ⟨w.heap.size + 1, k - 7, none⟩ by rw [hwq]; rfl] at h7
          clear hwq hb hsz hz hf h15
          go_quiet ((go_at_call 276; exact Calls.quiet_of_same (turn_at _ _ _ (by decide) (by decide))))
          go_wp2
          go_region
          go_wp2
          go_roundw
          case rel =>
            exact ⟨k + 1, by omega, by omega, by go_num, fill_step (below_drewN hbq _) hszq hzq hfq HJ.out (wrd_hi (iniR s) k (by omega)).symm⟩
          case measure => simp [intOf]; omega
        · have hk64 : k = 64 := by omega
          subst hk64
          have HF : Hid _ := hfj
          clear hfj
          have hld : (Tryz.prog.info? 372).map (·.size) = some (row 64 f).size := by rw [row_size]; exact info32
          have hold : (row 64 (fun _ => 0)).size = (row 64 f).size := by simp [row_size]
          go_wp2_with (first | (refine wpList_load_row rfl 372 (.tmp 3) rfl (w.heap.size + 1) rfl 372 (row 64 f) (0, 0) _ hf Tryz.underlying372 rfl hld ?_) | (refine wpList_store_row rfl 372 (.tmp 2) (.tmp 96) rfl (w.heap.size) (row 64 f) rfl rfl 372 (row 64 fun _ => 0) hz hld hold (row_ones _ _) ?_))
          have e : row 64 f = row 64 (wrd (iniR s)) := row_congr 64 _ _ HF.out
          refine bodyPost_ret (v := .agg (row 64 f)) ?_ rfl ?_
          · exact results_cell_row Tryz.results275 _ _ w.heap.size 372 (row 64 f) (0, 0) _ rfl (setRow_heap wr w.heap.size _ _ 372 (0, 0) hz) Tryz.underlying372 rfl hld
          · rw [e]
            exact ⟨rfl, below_setRow hb _ (Nat.le_refl _) _⟩
end Go.Proofs.YtadinjaocnlglaaGreatDoor
