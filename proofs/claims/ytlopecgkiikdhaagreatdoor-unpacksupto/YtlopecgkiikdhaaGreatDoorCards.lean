/-
  DERIVED. GIVEN WITH THE SEED: THE CARDS: each row of YtlopecgkiikdhaaGreatDoorRows.lean that lists a variable, with what it lists TIED to the program's text (the seventh form; the later family's looks); each row that meets fmt, with fmt's text TOLD by the authors' own Lean function (tested against real Go, not proved from fmt's source: count such statements apart). THE CARD IS WHAT COUNTS. Prove the row's statement (the work); the ties are given (YtlopecgkiikdhaaGreatDoorTie.lean); close each card by the builder's one call (the guide's Derived/Test/ToyasCard.lean, 'card_holds'). Laid BY PROGRAM, IN A SANDBOX (cutbox-door.mjs). By AI agents, Wed Nov 11 2026. No macro, syntax, notation, axiom, sorry.
-/
import Derived.Test.YtlopecgkiikdhaaGreatDoorRows
import GoSem.ClaimSeven
namespace Go.Proofs.YtlopecgkiikdhaaGreatDoor
namespace Rows

/-- THE TIED CARD OF 'vaultlaw.Unpacks'. -/
def unpacksCard : Claim7 := { stood := { row := unpacksRow, standIns := [], harness := (true, "8ecdcf72bd8e8cd84b7d8301dfa1ac8460148136dce8a1a40148bb92ef7772d2"), looks := true }, kinds := [], alts := [], laidByText := true, laidKinds := [.data, .data, .handle, .data, .data, .pinned], laidTests := true, laidLooks := .later }
def UnpacksCardSaid : Prop := Claim7.holds Tryz.pinned (.plain (OpenSpec.ofChange unpacksSpec)) unpacksCard

/-- THE SECOND FORM's CARD OF 'vaultlaw.Unpacks'. -/
def unpacksUptoCard : Claim7 := { stood := { row := unpacksUptoRow, standIns := [], harness := (true, "8ecdcf72bd8e8cd84b7d8301dfa1ac8460148136dce8a1a40148bb92ef7772d2"), looks := true }, kinds := [], alts := [], laidByText := true, laidKinds := [.data, .data, .handle, .data, .data, .pinned], laidTests := true, laidLooks := .later }
def UnpacksUptoCardSaid : Prop := Claim7.holds Tryz.pinned (.plain (OpenSpec.upto unpacksSpec)) unpacksUptoCard
end Rows
end Go.Proofs.YtlopecgkiikdhaaGreatDoor
