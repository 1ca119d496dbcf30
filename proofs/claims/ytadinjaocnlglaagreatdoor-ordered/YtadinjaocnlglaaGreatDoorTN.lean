/-
  The walk of vaultref.padded.
-/
import Derived.Test.YtadinjaocnlglaaGreatDoorTK
import Derived.WalkKit
import Derived.WalkSpells
import Derived.WalkLawsBesides
import Derived.BigRegion
import Derived.BigQuiet
import Derived.Deep.QuietTactic
import Derived.Deep.RegionWith
namespace Go.Proofs.YtadinjaocnlglaaGreatDoor
open Go.RowKit
def refA (s : ByteArray) : Nat → ByteArray
  | 0 => s ++ ⟨#[128]⟩
  | k + 1 => refA s k ++ ⟨#[0]⟩
theorem refA_size (s : ByteArray) (k : Nat) : (refA s k).size = s.size + 1 + k := by
  induction k with
  | zero => simp [refA]; rfl
  | succ k ih => simp [refA, ih]; rfl
def lenV : Value → Nat | .string s => s.size | _ => 0
/-- how many noughts -/
def nz (s : ByteArray) : Nat := (119 - s.size % 64) % 64
def refB (a s : ByteArray) : Nat → ByteArray
  | 0 => a
  | j + 1 => refB a s j ++ strOfNums [((s.size : Int) * 8 / 2 ^ (8 * (7 - j))).tmod 256 % 256]
theorem refB_size (a s : ByteArray) (k : Nat) : (refB a s k).size = a.size + k := by
  induction k with
  | zero => rfl
  | succ k ih => simp [refB, ih, strOfNums_size]; omega
/-- the padded text of the document's answer -/
def refT (s : ByteArray) : ByteArray := refB (refA s (nz s)) s 8
set_option maxHeartbeats 1000000 in
set_option maxRecDepth 100000 in
theorem refpad_any (s : ByteArray) (w : World) (h0 : s.size ≤ 140737488351232) :
    Calls Tryz.prog 233 #[.string s] w fun e w' => e = .returned (.string (refT s)) ∧ Below w.heap.size w w' := by
  have hz : nz s < 64 := by unfold nz; omega
  have HZ : Hid ((s.size + 1 + nz s) % 64 = 56) := by show (s.size + 1 + nz s) % 64 = 56; unfold nz; omega
  have HZ2 : Hid (∀ k, k < nz s → (s.size + 1 + k) % 64 ≠ 56) := by show ∀ k, k < nz s → (s.size + 1 + k) % 64 ≠ 56; intro k; unfold nz; omega
  have hT : Hid (refT s = refB (refA s (nz s)) s 8) := rfl
  obtain ⟨z, hzz⟩ : ∃ z, z = nz s := ⟨_, rfl⟩
  rw [← hzz] at hz HZ HZ2 hT
  clear hzz
  go_enter Tryz.func233, Tryz.ntmps233
  go_wp2
  go_loop [3] (fun v => ∃ k : Nat, k ≤ z ∧ v = .string (refA s k)) (fun v => s.size + 1 + z - lenV v)
  case atStart => exact ⟨0, by omega, rfl⟩
  case round =>
    obtain ⟨k, hk, rfl⟩ := hrel
    obtain ⟨a, ha⟩ : ∃ a, a = refA s k := ⟨_, rfl⟩
    rw [← ha]
    have HA : Hid (a = refA s k) := ha
    have hal : (a.size : Int) = s.size + 1 + k := by rw [ha, refA_size]; omega
    have hal2 : a.size ≤ 140737488355328 := by omega
    have HAL : Hid ((a.size : Int) = s.size + 1 + k) := hal
    clear ha hal
    by_cases hlt : k < z
    · have hne : ((a.size : Int) % 64 != 56) = true := by have := HZ2.out k hlt; have := HAL.out; rw [bne_iff_ne]; omega
      go_wp2
      go_round
      case rel => exact ⟨k + 1, by omega, by rw [HA.out]; rfl⟩
      case measure => have := HAL.out; have e : (a ++ (⟨#[0]⟩ : ByteArray)).size = a.size + 1 := (by simp; rfl); simp only [lenV]; omega
    · have hkz : k = z := by omega
      subst hkz
      have hne : ((a.size : Int) % 64 != 56) = false := by have := HZ.out; have := HAL.out; rw [bne_eq_false_iff_eq]; omega
      go_wp2
      go_loopw [5, 3] (fun i v wr => ∃ j : Nat, j ≤ 8 ∧ i = .int .i64 (7 - j) ∧ v = .string (refB a s j) ∧ Below w.heap.size w wr) (fun i _ _ => ((intOf i) + 1).toNat)
      case atStart => exact ⟨0, by omega, rfl, rfl, Below.refl _ _⟩
      case round =>
        obtain ⟨j, hj, rfl, rfl, hb⟩ := hrel
        obtain ⟨c, hc⟩ : ∃ c, c = refB a s j := ⟨_, rfl⟩
        rw [← hc]
        have HC : Hid (c = refB a s j) := hc
        have hcl : c.size ≤ 140737488355340 := by rw [hc, refB_size]; omega
        clear hc
        by_cases hlt : j < 8
        · have hcv := run_convert_bytes_arg (P := Tryz.prog) (wr.alloc (Obj.cells #[Value.int IntKind.u8 (((s.size : Int) * 8 / 2 ^ (8 * (7 - j))).tmod 256 % 256)] 5)) 165 5 Tryz.underlying165 Tryz.underlying5 wr.heap.size 0 1 1 [((s.size : Int) * 8 / 2 ^ (8 * (7 - j))).tmod 256 % 256] rfl (fun i hi => by
            obtain rfl : i = 0 := by omega
            rw [cell_of_row _ _ _ _ 5 (0, 0) (heap_alloc_new wr _)]; rfl) 9 Tryz.underlying9
          have hsz1 : (strOfNums [((s.size : Int) * 8 / 2 ^ (8 * (7 - j))).tmod 256 % 256]).size = 1 := rfl
          go_wp2
          go_roundw
          case rel => exact ⟨j + 1, by omega, by go_num, by rw [HC.out]; rfl, hb.alloc hb.size _⟩
          case measure => simp [intOf]; omega
        · have hj8 : j = 8 := by omega
          subst hj8
          go_wp2
          go_ret
          exact ⟨by rw [hT.out, ← HA.out, ← HC.out]; rfl, hb⟩
end Go.Proofs.YtadinjaocnlglaaGreatDoor
