/-
  The closed facts of Ununpacks' row, each a lemma by itself.
-/
import Derived.Test.YtlopecgkiikdhaaGreatDoorRows
import Derived.JoinedOf
import Derived.KernelRfl
namespace Go.Proofs.YtlopecgkiikdhaaGreatDoor
set_option maxRecDepth 100000
set_option maxHeartbeats 4000000
theorem band {a b : Bool} (ha : a = true) (hb : b = true) : (a && b) = true := by rw [ha, hb]; rfl
theorem unpacksClosed : joinedFacts Tryz.prog 3 Tryz.f3 Rows.unpacksSpec Rows.unpacksUptoRow = true := by
  unfold joinedFacts
  iterate 31 refine band ?_ ?_
  all_goals as_aux_lemma => kernel_rfl
end Go.Proofs.YtlopecgkiikdhaaGreatDoor
