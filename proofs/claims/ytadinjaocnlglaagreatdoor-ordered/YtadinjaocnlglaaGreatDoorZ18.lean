/-
  The walk of vaultref.turn.
-/
import Derived.Test.YtadinjaocnlglaaGreatDoorProg
import Derived.Test.YtadinjaocnlglaaGreatDoorZ16
import Derived.WalkKit
import Derived.WalkSpells
import Derived.WalkLawsBesides
import Derived.BigRegion
import Derived.BigQuiet
import Derived.Deep.QuietTactic
namespace Go.Proofs.YtadinjaocnlglaaGreatDoor
open Go.RowKit
set_option maxHeartbeats 400000 in
theorem turn_any (x : Int) (n : Nat) (m : Int) (w : World) (hm : m = n) (h3 : n ≤ 32) :
    Calls Tryz.prog 276 #[.int .u32 x, .int .u32 m] w fun e w' => e = .returned (.int .u32 (rotr x n)) ∧ w' = w := by
  have h0 : 0 ≤ m := by omega
  have h1 : m ≤ 32 := by omega
  have e1 : m.toNat = n := by omega
  have e2 : (32 - m).toNat = 32 - n := by omega
  have e : bits BinOp.or IntKind.u32 (x / 2 ^ m.toNat) (x * 2 ^ (32 - m).toNat % 4294967296) = rotr x n := by rw [e1, e2]; rfl
  have E : Hid (bits BinOp.or IntKind.u32 (x / 2 ^ m.toNat) (x * 2 ^ (32 - m).toNat % 4294967296) = rotr x n) := e
  clear e e1 e2 hm
  go_enter Tryz.func276, Tryz.ntmps276
  go_wp2
  go_ret
  rw [E.out]
  exact ⟨rfl, rfl⟩

theorem turn_at (x n : Int) (w : World) (h0 : 0 ≤ n) (h1 : n ≤ 32) :
    Calls Tryz.prog 276 #[.int .u32 x, .int .u32 n] w fun e w' => e = .returned (.int .u32 (rotr x n.toNat)) ∧ w' = w :=
  turn_any x n.toNat n w (by omega) (by omega)
end Go.Proofs.YtadinjaocnlglaaGreatDoor
