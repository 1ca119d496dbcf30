/-
  DERIVED. GIVEN WITH THE SEED: THE CARDS: each row of YtbjgchlckmecaaaDoorRows.lean that lists a variable, with what it lists TIED to the program's text (the seventh form; the later family's looks); each row that meets fmt, with fmt's text TOLD by the authors' own Lean function (tested against real Go, not proved from fmt's source: count such statements apart). THE CARD IS WHAT COUNTS. Prove the row's statement (the work); the ties are given (YtbjgchlckmecaaaDoorTie.lean); close each card by the builder's one call (the guide's Derived/Test/ToyasCard.lean, 'card_holds'). Laid BY PROGRAM, IN A SANDBOX (cutbox-door.mjs). By AI agents, Wed Nov 11 2026. No macro, syntax, notation, axiom, sorry.
-/
import Derived.Test.YtbjgchlckmecaaaDoorRows
import GoSem.ClaimSeven
namespace Go.Proofs.YtbjgchlckmecaaaDoor
namespace Rows

/-- THE TIED CARD OF 'vaultlaw.Parities'. -/
def paritiesCard : Claim7 := { stood := { row := paritiesRow, standIns := [], harness := (true, "1e07ec827963354079bd8aba8c2c39a96a473b9b0a99f7202eb697d09f302fc9"), looks := true }, kinds := [], alts := [], laidByText := true, laidKinds := [.handle], laidTests := true, laidLooks := .later }
def ParitiesCardSaid : Prop := Claim7.holds Tryd.pinned (.plain (OpenSpec.ofChange paritiesSpec)) paritiesCard

/-- THE SECOND FORM's CARD OF 'vaultlaw.Parities'. -/
def paritiesUptoCard : Claim7 := { stood := { row := paritiesUptoRow, standIns := [], harness := (true, "1e07ec827963354079bd8aba8c2c39a96a473b9b0a99f7202eb697d09f302fc9"), looks := true }, kinds := [], alts := [], laidByText := true, laidKinds := [.handle], laidTests := true, laidLooks := .later }
def ParitiesUptoCardSaid : Prop := Claim7.holds Tryd.pinned (.plain (OpenSpec.upto paritiesSpec)) paritiesUptoCard
end Rows
end Go.Proofs.YtbjgchlckmecaaaDoor
