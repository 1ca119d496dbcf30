/-
  DERIVED. GIVEN WITH THE SEED: THE CARDS: each row of YtadinjaocnlglaaGreatDoorRows.lean that lists a variable, with what it lists TIED to the program's text (the seventh form; the later family's looks); each row that meets fmt, with fmt's text TOLD by the authors' own Lean function (tested against real Go, not proved from fmt's source: count such statements apart). THE CARD IS WHAT COUNTS. Prove the row's statement (the work); the ties are given (YtadinjaocnlglaaGreatDoorTie.lean); close each card by the builder's one call (the guide's Derived/Test/ToyasCard.lean, 'card_holds'). Laid BY PROGRAM, IN A SANDBOX (cutbox-door.mjs). By AI agents, Wed Nov 11 2026. No macro, syntax, notation, axiom, sorry.
-/
import Derived.Test.YtadinjaocnlglaaGreatDoorRows
import GoSem.ClaimSeven
namespace Go.Proofs.YtadinjaocnlglaaGreatDoor
namespace Rows

/-- THE TIED CARD OF 'vaultlaw.Packs'. -/
def packsCard : Claim7 := { stood := { row := packsRow, standIns := [], harness := (true, "c16b240db591a3cb0a7c9c7d5c2e8c85879eeef3feb0d1445c2f287a796d4a63"), looks := true }, kinds := [], alts := [], laidByText := true, laidKinds := [.data, .handle, .data, .data], laidTests := true, laidLooks := .later }
def PacksCardSaid : Prop := Claim7.holds Tryz.pinned (.plain (OpenSpec.ofChange packsSpec)) packsCard

/-- THE TIED CARD OF 'vaultkeep.Ordered'. -/
def orderedCard : Claim7 := { stood := { row := orderedRow, standIns := [], harness := (true, "c16b240db591a3cb0a7c9c7d5c2e8c85879eeef3feb0d1445c2f287a796d4a63"), looks := true }, kinds := [], alts := [], laidByText := true, laidKinds := [.data], laidTests := true, laidLooks := .later }
def OrderedCardSaid : Prop := Claim7.holds Tryz.pinned (.plain (OpenSpec.ofChange orderedSpec)) orderedCard

/-- THE TIED CARD OF 'vaultlaw.Opens'. -/
def opensCard : Claim7 := { stood := { row := opensRow, standIns := [], harness := (true, "c16b240db591a3cb0a7c9c7d5c2e8c85879eeef3feb0d1445c2f287a796d4a63"), looks := true }, kinds := [], alts := [], laidByText := true, laidKinds := [.data, .data, .handle, .data, .data, .pinned], laidTests := true, laidLooks := .later }
def OpensCardSaid : Prop := Claim7.holds Tryz.pinned (.plain (OpenSpec.ofChange opensSpec)) opensCard

/-- THE TIED CARD OF 'vaultlaw.Unpacks'. -/
def unpacksCard : Claim7 := { stood := { row := unpacksRow, standIns := [], harness := (true, "c16b240db591a3cb0a7c9c7d5c2e8c85879eeef3feb0d1445c2f287a796d4a63"), looks := true }, kinds := [], alts := [], laidByText := true, laidKinds := [.data, .data, .handle, .data, .data, .pinned], laidTests := true, laidLooks := .later }
def UnpacksCardSaid : Prop := Claim7.holds Tryz.pinned (.plain (OpenSpec.ofChange unpacksSpec)) unpacksCard

/-- THE TIED CARD OF 'vaultkeep.Packed'. -/
def packedCard : Claim7 := { stood := { row := packedRow, standIns := [], harness := (true, "c16b240db591a3cb0a7c9c7d5c2e8c85879eeef3feb0d1445c2f287a796d4a63"), looks := true }, kinds := [], alts := [], laidByText := true, laidKinds := [.data, .data, .pinned], laidTests := true, laidLooks := .later }
def PackedCardSaid : Prop := Claim7.holds Tryz.pinned (.plain (OpenSpec.ofChange packedSpec)) packedCard

/-- THE TIED CARD OF 'vaultkeep.Erased'. -/
def erasedCard : Claim7 := { stood := { row := erasedRow, standIns := [], harness := (true, "c16b240db591a3cb0a7c9c7d5c2e8c85879eeef3feb0d1445c2f287a796d4a63"), looks := true }, kinds := [], alts := [], laidByText := true, laidKinds := [.data, .data, .pinned], laidTests := true, laidLooks := .later }
def ErasedCardSaid : Prop := Claim7.holds Tryz.pinned (.plain (OpenSpec.ofChange erasedSpec)) erasedCard

/-- THE TIED CARD OF 'vaultkeep.Located'. -/
def locatedCard : Claim7 := { stood := { row := locatedRow, standIns := [], harness := (true, "c16b240db591a3cb0a7c9c7d5c2e8c85879eeef3feb0d1445c2f287a796d4a63"), looks := true }, kinds := [], alts := [], laidByText := true, laidKinds := [.data, .data, .handle, .pinned], laidTests := true, laidLooks := .later }
def LocatedCardSaid : Prop := Claim7.holds Tryz.pinned (.plain (OpenSpec.ofChange locatedSpec)) locatedCard

/-- THE TIED CARD OF 'vaultkeep.Clean'. -/
def cleanCard : Claim7 := { stood := { row := cleanRow, standIns := [], harness := (true, "c16b240db591a3cb0a7c9c7d5c2e8c85879eeef3feb0d1445c2f287a796d4a63"), looks := true }, kinds := [], alts := [], laidByText := true, laidKinds := [.data, .data, .pinned], laidTests := true, laidLooks := .later }
def CleanCardSaid : Prop := Claim7.holds Tryz.pinned (.plain (OpenSpec.ofChange cleanSpec)) cleanCard

/-- THE TIED CARD OF 'vaultkeep.Guarded'. -/
def guardedCard : Claim7 := { stood := { row := guardedRow, standIns := [], harness := (true, "c16b240db591a3cb0a7c9c7d5c2e8c85879eeef3feb0d1445c2f287a796d4a63"), looks := true }, kinds := [], alts := [], laidByText := true, laidKinds := [.data, .data, .data, .data, .pinned], laidTests := true, laidLooks := .later }
def GuardedCardSaid : Prop := Claim7.holds Tryz.pinned (.plain (OpenSpec.ofChange guardedSpec)) guardedCard

/-- THE TIED CARD OF 'vaultlaw.All'. -/
def allCard : Claim7 := { stood := { row := allRow, standIns := [], harness := (true, "c16b240db591a3cb0a7c9c7d5c2e8c85879eeef3feb0d1445c2f287a796d4a63"), looks := true }, kinds := [], alts := [], laidByText := true, laidKinds := [.data, .data, .handle, .data, .data, .pinned], laidTests := true, laidLooks := .later }
def AllCardSaid : Prop := Claim7.holds Tryz.pinned (.plain (OpenSpec.ofChange allSpec)) allCard

/-- THE SECOND FORM's CARD OF 'vaultlaw.Packs'. -/
def packsUptoCard : Claim7 := { stood := { row := packsUptoRow, standIns := [], harness := (true, "c16b240db591a3cb0a7c9c7d5c2e8c85879eeef3feb0d1445c2f287a796d4a63"), looks := true }, kinds := [], alts := [], laidByText := true, laidKinds := [.data, .handle, .data, .data], laidTests := true, laidLooks := .later }
def PacksUptoCardSaid : Prop := Claim7.holds Tryz.pinned (.plain (OpenSpec.upto packsSpec)) packsUptoCard

/-- THE SECOND FORM's CARD OF 'vaultkeep.Ordered'. -/
def orderedUptoCard : Claim7 := { stood := { row := orderedUptoRow, standIns := [], harness := (true, "c16b240db591a3cb0a7c9c7d5c2e8c85879eeef3feb0d1445c2f287a796d4a63"), looks := true }, kinds := [], alts := [], laidByText := true, laidKinds := [.data], laidTests := true, laidLooks := .later }
def OrderedUptoCardSaid : Prop := Claim7.holds Tryz.pinned (.plain (OpenSpec.upto orderedSpec)) orderedUptoCard

/-- THE SECOND FORM's CARD OF 'vaultlaw.Opens'. -/
def opensUptoCard : Claim7 := { stood := { row := opensUptoRow, standIns := [], harness := (true, "c16b240db591a3cb0a7c9c7d5c2e8c85879eeef3feb0d1445c2f287a796d4a63"), looks := true }, kinds := [], alts := [], laidByText := true, laidKinds := [.data, .data, .handle, .data, .data, .pinned], laidTests := true, laidLooks := .later }
def OpensUptoCardSaid : Prop := Claim7.holds Tryz.pinned (.plain (OpenSpec.upto opensSpec)) opensUptoCard

/-- THE SECOND FORM's CARD OF 'vaultlaw.Unpacks'. -/
def unpacksUptoCard : Claim7 := { stood := { row := unpacksUptoRow, standIns := [], harness := (true, "c16b240db591a3cb0a7c9c7d5c2e8c85879eeef3feb0d1445c2f287a796d4a63"), looks := true }, kinds := [], alts := [], laidByText := true, laidKinds := [.data, .data, .handle, .data, .data, .pinned], laidTests := true, laidLooks := .later }
def UnpacksUptoCardSaid : Prop := Claim7.holds Tryz.pinned (.plain (OpenSpec.upto unpacksSpec)) unpacksUptoCard

/-- THE SECOND FORM's CARD OF 'vaultkeep.Packed'. -/
def packedUptoCard : Claim7 := { stood := { row := packedUptoRow, standIns := [], harness := (true, "c16b240db591a3cb0a7c9c7d5c2e8c85879eeef3feb0d1445c2f287a796d4a63"), looks := true }, kinds := [], alts := [], laidByText := true, laidKinds := [.data, .data, .pinned], laidTests := true, laidLooks := .later }
def PackedUptoCardSaid : Prop := Claim7.holds Tryz.pinned (.plain (OpenSpec.upto packedSpec)) packedUptoCard

/-- THE SECOND FORM's CARD OF 'vaultkeep.Erased'. -/
def erasedUptoCard : Claim7 := { stood := { row := erasedUptoRow, standIns := [], harness := (true, "c16b240db591a3cb0a7c9c7d5c2e8c85879eeef3feb0d1445c2f287a796d4a63"), looks := true }, kinds := [], alts := [], laidByText := true, laidKinds := [.data, .data, .pinned], laidTests := true, laidLooks := .later }
def ErasedUptoCardSaid : Prop := Claim7.holds Tryz.pinned (.plain (OpenSpec.upto erasedSpec)) erasedUptoCard

/-- THE SECOND FORM's CARD OF 'vaultkeep.Located'. -/
def locatedUptoCard : Claim7 := { stood := { row := locatedUptoRow, standIns := [], harness := (true, "c16b240db591a3cb0a7c9c7d5c2e8c85879eeef3feb0d1445c2f287a796d4a63"), looks := true }, kinds := [], alts := [], laidByText := true, laidKinds := [.data, .data, .handle, .pinned], laidTests := true, laidLooks := .later }
def LocatedUptoCardSaid : Prop := Claim7.holds Tryz.pinned (.plain (OpenSpec.upto locatedSpec)) locatedUptoCard

/-- THE SECOND FORM's CARD OF 'vaultkeep.Clean'. -/
def cleanUptoCard : Claim7 := { stood := { row := cleanUptoRow, standIns := [], harness := (true, "c16b240db591a3cb0a7c9c7d5c2e8c85879eeef3feb0d1445c2f287a796d4a63"), looks := true }, kinds := [], alts := [], laidByText := true, laidKinds := [.data, .data, .pinned], laidTests := true, laidLooks := .later }
def CleanUptoCardSaid : Prop := Claim7.holds Tryz.pinned (.plain (OpenSpec.upto cleanSpec)) cleanUptoCard

/-- THE SECOND FORM's CARD OF 'vaultkeep.Guarded'. -/
def guardedUptoCard : Claim7 := { stood := { row := guardedUptoRow, standIns := [], harness := (true, "c16b240db591a3cb0a7c9c7d5c2e8c85879eeef3feb0d1445c2f287a796d4a63"), looks := true }, kinds := [], alts := [], laidByText := true, laidKinds := [.data, .data, .data, .data, .pinned], laidTests := true, laidLooks := .later }
def GuardedUptoCardSaid : Prop := Claim7.holds Tryz.pinned (.plain (OpenSpec.upto guardedSpec)) guardedUptoCard

/-- THE SECOND FORM's CARD OF 'vaultlaw.All'. -/
def allUptoCard : Claim7 := { stood := { row := allUptoRow, standIns := [], harness := (true, "c16b240db591a3cb0a7c9c7d5c2e8c85879eeef3feb0d1445c2f287a796d4a63"), looks := true }, kinds := [], alts := [], laidByText := true, laidKinds := [.data, .data, .handle, .data, .data, .pinned], laidTests := true, laidLooks := .later }
def AllUptoCardSaid : Prop := Claim7.holds Tryz.pinned (.plain (OpenSpec.upto allSpec)) allUptoCard
end Rows
end Go.Proofs.YtadinjaocnlglaaGreatDoor
