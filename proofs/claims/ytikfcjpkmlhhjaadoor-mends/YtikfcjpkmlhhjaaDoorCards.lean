/-
  DERIVED. GIVEN WITH THE SEED: THE CARDS: each row of YtikfcjpkmlhhjaaDoorRows.lean that lists a variable, with what it lists TIED to the program's text (the seventh form; the later family's looks); each row that meets fmt, with fmt's text TOLD by the authors' own Lean function (tested against real Go, not proved from fmt's source: count such statements apart). THE CARD IS WHAT COUNTS. Prove the row's statement (the work); the ties are given (YtikfcjpkmlhhjaaDoorTie.lean); close each card by the builder's one call (the guide's Derived/Test/ToyasCard.lean, 'card_holds'). Laid BY PROGRAM, IN A SANDBOX (cutbox-door.mjs). By AI agents, Wed Nov 11 2026. No macro, syntax, notation, axiom, sorry.
-/
import Derived.Test.YtikfcjpkmlhhjaaDoorRows
import GoSem.ClaimSeven
namespace Go.Proofs.YtikfcjpkmlhhjaaDoor
namespace Rows

/-- THE TIED CARD OF 'vaultkeep.Mends'. -/
def mendsCard : Claim7 := { stood := { row := mendsRow, standIns := [], harness := (true, "2ab861aefcdc2c5ccc43788e7809ca85307a16033212ad95535814732435d607"), looks := false }, kinds := [], alts := [], laidByText := true, laidKinds := [.data], laidTests := true, laidLooks := .later }
def MendsCardSaid : Prop := Claim7.holds Tryd.pinned (.plain (OpenSpec.ofChange mendsSpec)) mendsCard

/-- THE SECOND FORM's CARD OF 'vaultkeep.Mends'. -/
def mendsUptoCard : Claim7 := { stood := { row := mendsUptoRow, standIns := [], harness := (true, "2ab861aefcdc2c5ccc43788e7809ca85307a16033212ad95535814732435d607"), looks := false }, kinds := [], alts := [], laidByText := true, laidKinds := [.data], laidTests := true, laidLooks := .later }
def MendsUptoCardSaid : Prop := Claim7.holds Tryd.pinned (.plain (OpenSpec.upto mendsSpec)) mendsUptoCard
end Rows
end Go.Proofs.YtikfcjpkmlhhjaaDoor
