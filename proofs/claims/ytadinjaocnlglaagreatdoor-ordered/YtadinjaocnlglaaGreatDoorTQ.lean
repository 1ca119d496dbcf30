/-
  What the walks need of the world: the tables, and the type that errors.As asks. Both digests.
-/
import Derived.Test.YtadinjaocnlglaaGreatDoorTO
import Derived.Test.YtadinjaocnlglaaGreatDoorTP
import Derived.WalkKit
import Derived.WalkSpells
import Derived.WalkLawsBesides
namespace Go.Proofs.YtadinjaocnlglaaGreatDoor
open Go.RowKit
/-- the program's table -/
structure Gd (kt : Nat → Int) (w : World) : Prop where
  tab : Tab w 2 kt
  one : 4 ≤ w.heap.size
theorem Gd.below {kt : Nat → Int} {w w' : World} (h : Gd kt w) (hb : Below w.heap.size w w') : Gd kt w' :=
  ⟨h.tab.below hb (by have := h.one; omega), Nat.le_trans h.one hb.size⟩
/-- the reference's tables -/
structure Gr (kt : Nat → Int) (w : World) : Prop where
  ref : Tab w 3 kt
  first : ∀ j, j < 8 → w.cell? ⟨1, j, none⟩ = some (.int .u32 (hini j))
  one : 4 ≤ w.heap.size
theorem Gr.below {kt : Nat → Int} {w w' : World} (h : Gr kt w) (hb : Below w.heap.size w w') : Gr kt w' :=
  ⟨h.ref.below hb (by have := h.one; omega), fun j hj => (hb.cell (p := ⟨1, j, none⟩) (by have := h.one; show 1 < w.heap.size; omega)).trans (h.first j hj), Nat.le_trans h.one hb.size⟩
/-- the type that errors.As asks -/
structure Ge (w : World) : Prop where
  err : w.cell? ⟨0, 0, none⟩ = some (.iface 376 (.agg #[.pointer (some ⟨7, 63, none⟩)]))
theorem Ge.below {w w' : World} (h : Ge w) (hb : Below w.heap.size w w') : Ge w' :=
  ⟨(hb.cell (p := ⟨0, 0, none⟩) (block_lt_of_cell h.err)).trans h.err⟩
theorem rdigest_any (kt : Nat → Int) (s : ByteArray) (w : World) (hs : s.size ≤ 140737488351232) (hT : Gr kt w) :
    Calls Tryz.prog 192 #[.string s] w fun e w' => e = .returned (.string (ofT kt s)) ∧ Below w.heap.size w w' := by
  rw [one_digest]; exact refDigest_any kt s w hs hT.ref hT.first (by have := hT.one; omega)
end Go.Proofs.YtadinjaocnlglaaGreatDoor
