/-
  DERIVED. GIVEN WITH THE SEED: THE CARDS: each row of YtinnliapfdpfpaaDoorRows.lean that lists a variable, with what it lists TIED to the program's text (the seventh form; the later family's looks); each row that meets fmt, with fmt's text TOLD by the authors' own Lean function (tested against real Go, not proved from fmt's source: count such statements apart). THE CARD IS WHAT COUNTS. Prove the row's statement (the work); the ties are given (YtinnliapfdpfpaaDoorTie.lean); close each card by the builder's one call (the guide's Derived/Test/ToyasCard.lean, 'card_holds'). Laid BY PROGRAM, IN A SANDBOX (cutbox-door.mjs). By AI agents, Wed Nov 11 2026. No macro, syntax, notation, axiom, sorry.
-/
import Derived.Test.YtinnliapfdpfpaaDoorRows
import GoSem.ClaimSeven
namespace Go.Proofs.YtinnliapfdpfpaaDoor
namespace Rows

/-- THE TIED CARD OF 'larderlaw.Hashes'. -/
def hashesCard : Claim7 := { stood := { row := hashesRow, standIns := [], harness := (true, "adbc1e4ed46aafa0b83cb2905def389f79801e7312f8ccc8376080dc02ed6cb5"), looks := true }, kinds := [], alts := [], laidByText := true, laidKinds := [.data, .data], laidTests := true, laidLooks := .later }
def HashesCardSaid : Prop := Claim7.holds Tryd.pinned (.plain (OpenSpec.ofChange hashesSpec)) hashesCard

/-- THE TIED CARD OF 'larderlaw.Parses'. -/
def parsesCard : Claim7 := { stood := { row := parsesRow, standIns := [], harness := (true, "adbc1e4ed46aafa0b83cb2905def389f79801e7312f8ccc8376080dc02ed6cb5"), looks := true }, kinds := [], alts := [], laidByText := true, laidKinds := [.data, .data, .data, .data, .pinned], laidTests := true, laidLooks := .later }
def ParsesCardSaid : Prop := Claim7.holds Tryd.pinned (.plain (OpenSpec.ofChange parsesSpec)) parsesCard

/-- THE TIED CARD OF 'larderlaw.Policies'. -/
def policiesCard : Claim7 := { stood := { row := policiesRow, standIns := [], harness := (true, "adbc1e4ed46aafa0b83cb2905def389f79801e7312f8ccc8376080dc02ed6cb5"), looks := true }, kinds := [], alts := [], laidByText := true, laidKinds := [.data, .pinned], laidTests := true, laidLooks := .later }
def PoliciesCardSaid : Prop := Claim7.holds Tryd.pinned (.plain (OpenSpec.ofChange policiesSpec)) policiesCard

/-- THE SECOND FORM's CARD OF 'larderlaw.Hashes'. -/
def hashesUptoCard : Claim7 := { stood := { row := hashesUptoRow, standIns := [], harness := (true, "adbc1e4ed46aafa0b83cb2905def389f79801e7312f8ccc8376080dc02ed6cb5"), looks := true }, kinds := [], alts := [], laidByText := true, laidKinds := [.data, .data], laidTests := true, laidLooks := .later }
def HashesUptoCardSaid : Prop := Claim7.holds Tryd.pinned (.plain (OpenSpec.upto hashesSpec)) hashesUptoCard

/-- THE SECOND FORM's CARD OF 'larderlaw.Parses'. -/
def parsesUptoCard : Claim7 := { stood := { row := parsesUptoRow, standIns := [], harness := (true, "adbc1e4ed46aafa0b83cb2905def389f79801e7312f8ccc8376080dc02ed6cb5"), looks := true }, kinds := [], alts := [], laidByText := true, laidKinds := [.data, .data, .data, .data, .pinned], laidTests := true, laidLooks := .later }
def ParsesUptoCardSaid : Prop := Claim7.holds Tryd.pinned (.plain (OpenSpec.upto parsesSpec)) parsesUptoCard

/-- THE SECOND FORM's CARD OF 'larderlaw.Policies'. -/
def policiesUptoCard : Claim7 := { stood := { row := policiesUptoRow, standIns := [], harness := (true, "adbc1e4ed46aafa0b83cb2905def389f79801e7312f8ccc8376080dc02ed6cb5"), looks := true }, kinds := [], alts := [], laidByText := true, laidKinds := [.data, .pinned], laidTests := true, laidLooks := .later }
def PoliciesUptoCardSaid : Prop := Claim7.holds Tryd.pinned (.plain (OpenSpec.upto policiesSpec)) policiesUptoCard
end Rows
end Go.Proofs.YtinnliapfdpfpaaDoor
