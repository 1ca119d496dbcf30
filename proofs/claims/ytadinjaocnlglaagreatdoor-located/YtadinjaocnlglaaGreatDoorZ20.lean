/-
  The walks of fault.At, vaultref.at, fault.Marks.
  The walks of vault.Faults, sameMarks, told.
  Errors that wrap others: Marks, Faults and told of a whole chain.
  Faults, sameMarks, told of a chain of errors; vaultref's at and over.
-/
import Derived.Test.YtadinjaocnlglaaGreatDoorZ19
import Derived.Test.YtadinjaocnlglaaGreatDoorZ03
import Derived.ArgAppend
import Derived.BigRegion
import Derived.BigQuiet
import Derived.Deep.QuietTactic
import Derived.Deep.RegionWith
import Derived.Deep.RegionHeld3
import Derived.Deep.RegionLawGrows
import Derived.Test.YtadinjaocnlglaaGreatDoorZ08
namespace Go.Proofs.YtadinjaocnlglaaGreatDoor
open Go.RowKit
set_option maxHeartbeats 400000
theorem At_any (k i : Int) (w : World) :
    Calls Tryz.prog 151 #[.int .i64 k, .int .i64 i] w fun e w' => e = .returned (.iface 305 (.pointer (some ⟨w.heap.size, 0, none⟩))) ∧ w' = w.alloc (.cells #[.int .i64 k, .int .i64 i, .nilIface] 307) := by
  go_enter Tryz.func151, Tryz.ntmps151
  go_wp2
  go_ret
  exact ⟨rfl, rfl⟩
end Go.Proofs.YtadinjaocnlglaaGreatDoor
namespace Go.Proofs.YtadinjaocnlglaaGreatDoor
open Go.RowKit
set_option maxHeartbeats 400000
end Go.Proofs.YtadinjaocnlglaaGreatDoor
namespace Go.Proofs.YtadinjaocnlglaaGreatDoor
open Go.RowKit
set_option maxRecDepth 100000
set_option maxHeartbeats 4000000
/-- an error and those that it wraps -/
def ErrAt (w : World) : Value → List (Int × Int) → Prop
  | v, [] => v = .nilIface
  | v, p :: l => ∃ e u, v = .iface 305 (.pointer (some ⟨e, 0, none⟩)) ∧ w.heap[e]? = some (.cells #[.int .i64 p.1, .int .i64 p.2, u] 307 (0, 0)) ∧ ErrAt w u l
theorem ErrAt.kept {w w' : World} (hk : ∀ (e : Nat) (cs : Array Value), w.heap[e]? = some (.cells cs 307 (0, 0)) → w'.heap[e]? = w.heap[e]?) : ∀ {l : List (Int × Int)} {v : Value}, ErrAt w v l → ErrAt w' v l
  | [], _, h => h
  | _ :: _, _, ⟨e, u, h1, h2, h3⟩ => ⟨e, u, h1, (hk e _ h2).trans h2, ErrAt.kept hk h3⟩
theorem ErrAt.below {w w' : World} {l : List (Int × Int)} {v : Value} (h : ErrAt w v l) (hb : Below w.heap.size w w') : ErrAt w' v l :=
  h.kept fun e _ he => hb.block e (Array.getElem?_eq_some_iff.1 he).1
end Go.Proofs.YtadinjaocnlglaaGreatDoor
namespace Go.Proofs.YtadinjaocnlglaaGreatDoor
open Go.RowKit
set_option maxRecDepth 100000
set_option maxHeartbeats 2000000
end Go.Proofs.YtadinjaocnlglaaGreatDoor
