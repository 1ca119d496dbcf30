/-
  The closed facts of Opens' row, each a lemma by itself.
-/
import Derived.Test.YtadinjaocnlglaaGreatDoorRows
import Derived.JoinedOf
import Derived.KernelRfl
namespace Go.Proofs.YtadinjaocnlglaaGreatDoor
set_option maxRecDepth 100000
set_option maxHeartbeats 4000000
theorem band {a b : Bool} (ha : a = true) (hb : b = true) : (a && b) = true := by rw [ha, hb]; rfl
theorem opensClosed : joinedFacts Tryz.prog 5 Tryz.f5 Rows.opensSpec Rows.opensUptoRow = true := by
  unfold joinedFacts
  iterate 31 refine band ?_ ?_
  all_goals as_aux_lemma => kernel_rfl
end Go.Proofs.YtadinjaocnlglaaGreatDoor
