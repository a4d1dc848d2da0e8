/-
  DERIVED. GIVEN WITH THE SEED: THE CARDS: each row of YtbllcgibmgbnjaaGreatDoorRows.lean that lists a variable, with what it lists TIED to the program's text (the seventh form; the later family's looks); each row that meets fmt, with fmt's text TOLD by the authors' own Lean function (tested against real Go, not proved from fmt's source: count such statements apart). THE CARD IS WHAT COUNTS. Prove the row's statement (the work); the ties are given (YtbllcgibmgbnjaaGreatDoorTie.lean); close each card by the builder's one call (the guide's Derived/Test/ToyasCard.lean, 'card_holds'). Laid BY PROGRAM, IN A SANDBOX (cutbox-door.mjs). By AI agents, Wed Nov 11 2026. No macro, syntax, notation, axiom, sorry.
-/
import Derived.Test.YtbllcgibmgbnjaaGreatDoorRows
import GoSem.ClaimSeven
namespace Go.Proofs.YtbllcgibmgbnjaaGreatDoor
namespace Rows

/-- THE TIED CARD OF 'larderkeep.Signed'. -/
def signedCard : Claim7 := { stood := { row := signedRow, standIns := [], harness := (true, "8b883eb9fbfc9df8b35f44c6e596632a83caa16d2ed5ead9bc1238d417198343"), looks := true }, kinds := [], alts := [], laidByText := true, laidKinds := [.data, .data, .data, .data, .data, .data, .handle, .sentinel, .sentinel, .data, .sentinel, .pinned], laidTests := true, laidLooks := .later }
def SignedCardSaid : Prop := Claim7.holds Tryz.pinned (.plain (OpenSpec.ofChange signedSpec)) signedCard

/-- THE TIED CARD OF 'larderkeep.Versions'. -/
def versionsCard : Claim7 := { stood := { row := versionsRow, standIns := [], harness := (true, "8b883eb9fbfc9df8b35f44c6e596632a83caa16d2ed5ead9bc1238d417198343"), looks := true }, kinds := [], alts := [], laidByText := true, laidKinds := [.data, .data, .data, .data, .data, .data, .handle, .sentinel, .sentinel, .data, .sentinel, .pinned], laidTests := true, laidLooks := .later }
def VersionsCardSaid : Prop := Claim7.holds Tryz.pinned (.plain (OpenSpec.ofChange versionsSpec)) versionsCard

/-- THE TIED CARD OF 'larderkeep.Survives'. -/
def survivesCard : Claim7 := { stood := { row := survivesRow, standIns := [], harness := (true, "8b883eb9fbfc9df8b35f44c6e596632a83caa16d2ed5ead9bc1238d417198343"), looks := true }, kinds := [], alts := [], laidByText := true, laidKinds := [.data, .data, .data, .data, .data, .data, .handle, .sentinel, .sentinel, .data, .sentinel, .pinned], laidTests := true, laidLooks := .later }
def SurvivesCardSaid : Prop := Claim7.holds Tryz.pinned (.plain (OpenSpec.ofChange survivesSpec)) survivesCard

/-- THE TIED CARD OF 'larderkeep.Blind'. -/
def blindCard : Claim7 := { stood := { row := blindRow, standIns := [], harness := (true, "8b883eb9fbfc9df8b35f44c6e596632a83caa16d2ed5ead9bc1238d417198343"), looks := true }, kinds := [], alts := [], laidByText := true, laidKinds := [.data, .data, .data, .data, .data, .data, .handle, .sentinel, .sentinel, .data, .sentinel, .pinned], laidTests := true, laidLooks := .later }
def BlindCardSaid : Prop := Claim7.holds Tryz.pinned (.plain (OpenSpec.ofChange blindSpec)) blindCard

/-- THE TIED CARD OF 'larderkeep.Denied'. -/
def deniedCard : Claim7 := { stood := { row := deniedRow, standIns := [], harness := (true, "8b883eb9fbfc9df8b35f44c6e596632a83caa16d2ed5ead9bc1238d417198343"), looks := true }, kinds := [], alts := [], laidByText := true, laidKinds := [.data, .data, .data, .data, .data, .data, .handle, .sentinel, .sentinel, .data, .sentinel, .pinned], laidTests := true, laidLooks := .later }
def DeniedCardSaid : Prop := Claim7.holds Tryz.pinned (.plain (OpenSpec.ofChange deniedSpec)) deniedCard

/-- THE TIED CARD OF 'larderkeep.Still'. -/
def stillCard : Claim7 := { stood := { row := stillRow, standIns := [], harness := (true, "8b883eb9fbfc9df8b35f44c6e596632a83caa16d2ed5ead9bc1238d417198343"), looks := true }, kinds := [], alts := [], laidByText := true, laidKinds := [.data, .data, .data, .data, .data, .data, .handle, .sentinel, .sentinel, .data, .sentinel, .pinned], laidTests := true, laidLooks := .later }
def StillCardSaid : Prop := Claim7.holds Tryz.pinned (.plain (OpenSpec.ofChange stillSpec)) stillCard

/-- THE SECOND FORM's CARD OF 'larderkeep.Signed'. -/
def signedUptoCard : Claim7 := { stood := { row := signedUptoRow, standIns := [], harness := (true, "8b883eb9fbfc9df8b35f44c6e596632a83caa16d2ed5ead9bc1238d417198343"), looks := true }, kinds := [], alts := [], laidByText := true, laidKinds := [.data, .data, .data, .data, .data, .data, .handle, .sentinel, .sentinel, .data, .sentinel, .pinned], laidTests := true, laidLooks := .later }
def SignedUptoCardSaid : Prop := Claim7.holds Tryz.pinned (.plain (OpenSpec.upto signedSpec)) signedUptoCard

/-- THE SECOND FORM's CARD OF 'larderkeep.Versions'. -/
def versionsUptoCard : Claim7 := { stood := { row := versionsUptoRow, standIns := [], harness := (true, "8b883eb9fbfc9df8b35f44c6e596632a83caa16d2ed5ead9bc1238d417198343"), looks := true }, kinds := [], alts := [], laidByText := true, laidKinds := [.data, .data, .data, .data, .data, .data, .handle, .sentinel, .sentinel, .data, .sentinel, .pinned], laidTests := true, laidLooks := .later }
def VersionsUptoCardSaid : Prop := Claim7.holds Tryz.pinned (.plain (OpenSpec.upto versionsSpec)) versionsUptoCard

/-- THE SECOND FORM's CARD OF 'larderkeep.Survives'. -/
def survivesUptoCard : Claim7 := { stood := { row := survivesUptoRow, standIns := [], harness := (true, "8b883eb9fbfc9df8b35f44c6e596632a83caa16d2ed5ead9bc1238d417198343"), looks := true }, kinds := [], alts := [], laidByText := true, laidKinds := [.data, .data, .data, .data, .data, .data, .handle, .sentinel, .sentinel, .data, .sentinel, .pinned], laidTests := true, laidLooks := .later }
def SurvivesUptoCardSaid : Prop := Claim7.holds Tryz.pinned (.plain (OpenSpec.upto survivesSpec)) survivesUptoCard

/-- THE SECOND FORM's CARD OF 'larderkeep.Blind'. -/
def blindUptoCard : Claim7 := { stood := { row := blindUptoRow, standIns := [], harness := (true, "8b883eb9fbfc9df8b35f44c6e596632a83caa16d2ed5ead9bc1238d417198343"), looks := true }, kinds := [], alts := [], laidByText := true, laidKinds := [.data, .data, .data, .data, .data, .data, .handle, .sentinel, .sentinel, .data, .sentinel, .pinned], laidTests := true, laidLooks := .later }
def BlindUptoCardSaid : Prop := Claim7.holds Tryz.pinned (.plain (OpenSpec.upto blindSpec)) blindUptoCard

/-- THE SECOND FORM's CARD OF 'larderkeep.Denied'. -/
def deniedUptoCard : Claim7 := { stood := { row := deniedUptoRow, standIns := [], harness := (true, "8b883eb9fbfc9df8b35f44c6e596632a83caa16d2ed5ead9bc1238d417198343"), looks := true }, kinds := [], alts := [], laidByText := true, laidKinds := [.data, .data, .data, .data, .data, .data, .handle, .sentinel, .sentinel, .data, .sentinel, .pinned], laidTests := true, laidLooks := .later }
def DeniedUptoCardSaid : Prop := Claim7.holds Tryz.pinned (.plain (OpenSpec.upto deniedSpec)) deniedUptoCard

/-- THE SECOND FORM's CARD OF 'larderkeep.Still'. -/
def stillUptoCard : Claim7 := { stood := { row := stillUptoRow, standIns := [], harness := (true, "8b883eb9fbfc9df8b35f44c6e596632a83caa16d2ed5ead9bc1238d417198343"), looks := true }, kinds := [], alts := [], laidByText := true, laidKinds := [.data, .data, .data, .data, .data, .data, .handle, .sentinel, .sentinel, .data, .sentinel, .pinned], laidTests := true, laidLooks := .later }
def StillUptoCardSaid : Prop := Claim7.holds Tryz.pinned (.plain (OpenSpec.upto stillSpec)) stillUptoCard
end Rows
end Go.Proofs.YtbllcgibmgbnjaaGreatDoor
