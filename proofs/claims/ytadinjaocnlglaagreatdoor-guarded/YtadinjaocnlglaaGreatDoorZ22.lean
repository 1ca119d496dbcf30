/-
  The walks of fault.At, vaultref.at, fault.Marks.
  The walks of vault.Faults, sameMarks, told.
  Errors that wrap others: Marks, Faults and told of a whole chain.
  Faults, sameMarks, told of a chain of errors; vaultref's at and over.
-/
import Derived.Test.YtadinjaocnlglaaGreatDoorZ21
import Derived.Test.YtadinjaocnlglaaGreatDoorZ04
import Derived.ArgAppend
import Derived.BigRegion
import Derived.BigQuiet
import Derived.Deep.QuietTactic
import Derived.Deep.RegionWith
import Derived.Deep.RegionHeld3
import Derived.Deep.RegionLawGrows
import Derived.Test.YtadinjaocnlglaaGreatDoorZ09
namespace Go.Proofs.YtadinjaocnlglaaGreatDoor
open Go.RowKit
set_option maxHeartbeats 400000
theorem At_any (k i : Int) (w : World) :
    Calls Tryz.prog 151 #[.int .i64 k, .int .i64 i] w fun e w' => e = .returned (.iface 305 (.pointer (some ⟨w.heap.size, 0, none⟩))) ∧ w' = w.alloc (.cells #[.int .i64 k, .int .i64 i, .nilIface] 307) := by
  go_enter Tryz.func151, Tryz.ntmps151
  go_wp2
  go_ret
  exact ⟨rfl, rfl⟩
theorem at_any (k i : Int) (w : World) :
    Calls Tryz.prog 91 #[.int .i64 k, .int .i64 i] w fun e w' => e = .returned (.slice (some ⟨w.heap.size, 0, none⟩) 1 1) ∧ w' = w.alloc (.cells #[.int .i64 k, .int .i64 i] 250) := by
  go_enter Tryz.func91, Tryz.ntmps91
  go_wp2
  go_ret
  exact ⟨rfl, rfl⟩
end Go.Proofs.YtadinjaocnlglaaGreatDoor
namespace Go.Proofs.YtadinjaocnlglaaGreatDoor
open Go.RowKit
set_option maxHeartbeats 400000
end Go.Proofs.YtadinjaocnlglaaGreatDoor
namespace Go.Proofs.YtadinjaocnlglaaGreatDoor
open Go.RowKit
set_option maxRecDepth 100000
set_option maxHeartbeats 4000000
/-- the cells of marks -/
def mkL (l : List (Int × Int)) : List Value := l.flatMap fun p => [.int .i64 p.1, .int .i64 p.2]
end Go.Proofs.YtadinjaocnlglaaGreatDoor
namespace Go.Proofs.YtadinjaocnlglaaGreatDoor
open Go.RowKit
set_option maxRecDepth 100000
set_option maxHeartbeats 2000000
/-- what at gives -/
theorem at_own (k i : Int) (w : World) : Calls Tryz.prog 91 #[.int .i64 k, .int .i64 i] w fun e w' => ∃ v, e = .returned v ∧ w'.ownsRow w.heap.size 250 2 v 1 (mkL [(k, i)]) ∧ Below w.heap.size w w' := by
  refine (at_any k i w).mono ?_
  rintro e w' ⟨rfl, rfl⟩
  refine ⟨_, rfl, ⟨rfl, .inr ⟨w.heap.size, 1, #[.int .i64 k, .int .i64 i], rfl, Nat.le_refl _, heap_alloc_new _ _, Nat.le_refl _, by unfold maxLen; omega, rfl, rfl⟩⟩, (Below.refl _ _).alloc (Nat.le_refl _) _⟩
end Go.Proofs.YtadinjaocnlglaaGreatDoor
