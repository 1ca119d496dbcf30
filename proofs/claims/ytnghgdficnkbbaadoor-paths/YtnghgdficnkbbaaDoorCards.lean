/-
  DERIVED. GIVEN WITH THE SEED: THE CARDS: each row of YtnghgdficnkbbaaDoorRows.lean that lists a variable, with what it lists TIED to the program's text (the seventh form; the later family's looks); each row that meets fmt, with fmt's text TOLD by the authors' own Lean function (tested against real Go, not proved from fmt's source: count such statements apart). THE CARD IS WHAT COUNTS. Prove the row's statement (the work); the ties are given (YtnghgdficnkbbaaDoorTie.lean); close each card by the builder's one call (the guide's Derived/Test/ToyasCard.lean, 'card_holds'). Laid BY PROGRAM, IN A SANDBOX (cutbox-door.mjs). By AI agents, Wed Nov 11 2026. No macro, syntax, notation, axiom, sorry.
-/
import Derived.Test.YtnghgdficnkbbaaDoorRows
import GoSem.ClaimSeven
namespace Go.Proofs.YtnghgdficnkbbaaDoor
namespace Rows

/-- THE TIED CARD OF 'vaultkeep.Paths'. -/
def pathsCard : Claim7 := { stood := { row := pathsRow, standIns := [], harness := (true, "437d314a07c3d2209eb5c4ea3b88eede49346f3fbee8cceb85fd876d719a0412"), looks := false }, kinds := [], alts := [], laidByText := true, laidKinds := [.data], laidTests := true, laidLooks := .later }
def PathsCardSaid : Prop := Claim7.holds Tryd.pinned (.plain (OpenSpec.ofChange pathsSpec)) pathsCard

/-- THE SECOND FORM's CARD OF 'vaultkeep.Paths'. -/
def pathsUptoCard : Claim7 := { stood := { row := pathsUptoRow, standIns := [], harness := (true, "437d314a07c3d2209eb5c4ea3b88eede49346f3fbee8cceb85fd876d719a0412"), looks := false }, kinds := [], alts := [], laidByText := true, laidKinds := [.data], laidTests := true, laidLooks := .later }
def PathsUptoCardSaid : Prop := Claim7.holds Tryd.pinned (.plain (OpenSpec.upto pathsSpec)) pathsUptoCard
end Rows
end Go.Proofs.YtnghgdficnkbbaaDoor
