/-
  The walk of digest.padded.
-/
import Derived.Test.YtadinjaocnlglaaGreatDoorTK
import Derived.WalkKit
import Derived.WalkSpells
import Derived.WalkLawsBesides
import Derived.BigRegion
import Derived.BigQuiet
import Derived.Deep.QuietTactic
import Derived.Deep.RegionWith
namespace Go.Proofs.YtadinjaocnlglaaGreatDoor
open Go.RowKit
theorem make64 (w : World) : (Instr.makeSlice 165 (.int .i64 64) (.int .i64 64)).run Tryz.prog w = .ok (.slice (some ⟨w.heap.size, 0, none⟩) 64 64) (w.alloc (.cells (Array.replicate 64 (.int .u8 0)) 5)) := by kernel_rfl
theorem make128 (w : World) : (Instr.makeSlice 165 (.int .i64 128) (.int .i64 128)).run Tryz.prog w = .ok (.slice (some ⟨w.heap.size, 0, none⟩) 128 128) (w.alloc (.cells (Array.replicate 128 (.int .u8 0)) 5)) := by kernel_rfl
theorem bzeros (n : Nat) : Array.replicate n (Value.int .u8 0) = brow n (fun _ => 0) := by
  apply Array.ext
  · simp [brow]
  · intro i h1 h2; simp [brow]
/-- the padding, k bytes of the length in place -/
def padS (s : ByteArray) (n sz k j : Nat) : Int :=
  if sz - k ≤ j then (n : Int) * 8 / 2 ^ (8 * (sz - 1 - j)) % 256 else if j < s.size then byt s j else if j = s.size then 128 else 0
theorem pad_0 (s : ByteArray) (n sz j : Nat) (hj : j < sz) : upd (over s fun _ => 0) s.size 128 j = padS s n sz 0 j := by
  unfold upd over padS
  rw [if_neg (show ¬ sz - 0 ≤ j by omega)]
  by_cases h1 : j = s.size
  · rw [if_pos h1, if_neg (by omega), if_pos h1]
  · rw [if_neg h1]
    by_cases h2 : j < s.size
    · rw [if_pos h2, if_pos h2]
    · rw [if_neg h2, if_neg h2, if_neg h1]
theorem pad_step (s : ByteArray) (n sz k j : Nat) (hk : k < sz) (hj : j < sz) : upd (padS s n sz k) (sz - 1 - k) ((n : Int) * 8 / 2 ^ (8 * k) % 256) j = padS s n sz (k + 1) j := by
  unfold upd
  by_cases h1 : j = sz - 1 - k
  · rw [if_pos h1]
    unfold padS
    rw [if_pos (by omega), show sz - 1 - j = k by omega]
  · rw [if_neg h1]
    unfold padS
    by_cases h2 : sz - k ≤ j
    · rw [if_pos h2, if_pos (by omega)]
    · rw [if_neg h2, if_neg (show ¬ sz - (k + 1) ≤ j by omega)]
set_option maxHeartbeats 1000000 in
set_option maxRecDepth 100000 in
theorem padded_lo (s : ByteArray) (n : Nat) (w : World) (h0 : s.size < 56) (hn : n ≤ 140737488355328) :
    Calls Tryz.prog 187 #[.string s, .int .i64 n] w fun e w' => e = .returned (.string (txt 64 (padS s n 64 8))) ∧ Below w.heap.size w w' := by
  have hmk := make64
  have hB : Byts (w.alloc (.cells (Array.replicate 64 (.int .u8 0)) 5)) w.heap.size 64 (fun _ => 0) := by unfold Byts; rw [← bzeros]; exact heap_alloc_new _ _
  go_enter Tryz.func187, Tryz.ntmps187
  go_wp2_with (refine wpList_copy_text rfl (.tmp 16) (.tmp 17) rfl w.heap.size 64 64 (fun _ => 0) hB s (by omega) rfl rfl ?_; intro w2 hw2; (have hB2 : Byts w2 w.heap.size 64 (over s fun _ => 0) := by rw [hw2.out]; exact byts_setRow _ hB); have hcs := hB2.cell s.size (by omega); have hfs := hB2.free s.size)
  have hw2b : Below w.heap.size w w2 := by rw [hw2.out]; exact below_setRow ((Below.refl _ _).alloc (Nat.le_refl _) _) _ (Nat.le_refl _) _
  have hP : Byts (w2.setCell ⟨w.heap.size, s.size, none⟩ (.int .u8 128)) w.heap.size 64 (padS s n 64 0) := (hB2.put s.size 128).to (fun j hj => pad_0 s n 64 j hj)
  have hb3 : Below w.heap.size w (w2.setCell ⟨w.heap.size, s.size, none⟩ (.int .u8 128)) := hw2b.setCell (Nat.le_refl _) _
  go_loopw [26] (fun i wr => ∃ k : Nat, k ≤ 8 ∧ i = .int .i64 k ∧ Below w.heap.size w wr ∧ Byts wr w.heap.size 64 (padS s n 64 k)) (fun i _ => 8 - (intOf i).toNat)
  case atStart => exact ⟨0, by omega, rfl, hb3, hP⟩
  case round =>
    clear hw2 hB2 hcs hfs hw2b hP hb3 hB
    obtain ⟨k, hk, rfl, hb, hP⟩ := hrel
    by_cases hlt : k < 8
    · have c1 := hP.cell (64 - 1 - k) (by omega)
      have c2 := hP.free (64 - 1 - k)
      go_wp2
      go_roundw
      case rel => exact ⟨k + 1, by omega, by go_num, hb.setCell (Nat.le_refl _) _, (hP.put (64 - 1 - k) _).to (fun j hj => pad_step s n 64 k j (by omega) hj)⟩
      case measure => simp [intOf]; omega
    · have hk8 : k = 8 := by omega
      subst hk8
      have hcv := convert_byts hP 64
      go_wp2
      go_ret
      exact ⟨rfl, hb⟩
set_option maxHeartbeats 1000000 in
set_option maxRecDepth 100000 in
theorem padded_hi (s : ByteArray) (n : Nat) (w : World) (h0 : 56 ≤ s.size) (h1 : s.size < 64) (hn : n ≤ 140737488355328) :
    Calls Tryz.prog 187 #[.string s, .int .i64 n] w fun e w' => e = .returned (.string (txt 128 (padS s n 128 8))) ∧ Below w.heap.size w w' := by
  have hmk := make128
  have hB : Byts (w.alloc (.cells (Array.replicate 128 (.int .u8 0)) 5)) w.heap.size 128 (fun _ => 0) := by unfold Byts; rw [← bzeros]; exact heap_alloc_new _ _
  go_enter Tryz.func187, Tryz.ntmps187
  go_wp2_with (refine wpList_copy_text rfl (.tmp 16) (.tmp 17) rfl w.heap.size 128 128 (fun _ => 0) hB s (by omega) rfl rfl ?_; intro w2 hw2; (have hB2 : Byts w2 w.heap.size 128 (over s fun _ => 0) := by rw [hw2.out]; exact byts_setRow _ hB); have hcs := hB2.cell s.size (by omega); have hfs := hB2.free s.size)
  have hw2b : Below w.heap.size w w2 := by rw [hw2.out]; exact below_setRow ((Below.refl _ _).alloc (Nat.le_refl _) _) _ (Nat.le_refl _) _
  have hP : Byts (w2.setCell ⟨w.heap.size, s.size, none⟩ (.int .u8 128)) w.heap.size 128 (padS s n 128 0) := (hB2.put s.size 128).to (fun j hj => pad_0 s n 128 j hj)
  have hb3 : Below w.heap.size w (w2.setCell ⟨w.heap.size, s.size, none⟩ (.int .u8 128)) := hw2b.setCell (Nat.le_refl _) _
  go_loopw [26] (fun i wr => ∃ k : Nat, k ≤ 8 ∧ i = .int .i64 k ∧ Below w.heap.size w wr ∧ Byts wr w.heap.size 128 (padS s n 128 k)) (fun i _ => 8 - (intOf i).toNat)
  case atStart => exact ⟨0, by omega, rfl, hb3, hP⟩
  case round =>
    clear hw2 hB2 hcs hfs hw2b hP hb3 hB
    obtain ⟨k, hk, rfl, hb, hP⟩ := hrel
    by_cases hlt : k < 8
    · have c1 := hP.cell (128 - 1 - k) (by omega)
      have c2 := hP.free (128 - 1 - k)
      go_wp2
      go_roundw
      case rel => exact ⟨k + 1, by omega, by go_num, hb.setCell (Nat.le_refl _) _, (hP.put (128 - 1 - k) _).to (fun j hj => pad_step s n 128 k j (by omega) hj)⟩
      case measure => simp [intOf]; omega
    · have hk8 : k = 8 := by omega
      subst hk8
      have hcv := convert_byts hP 128
      go_wp2
      go_ret
      exact ⟨rfl, hb⟩
end Go.Proofs.YtadinjaocnlglaaGreatDoor
