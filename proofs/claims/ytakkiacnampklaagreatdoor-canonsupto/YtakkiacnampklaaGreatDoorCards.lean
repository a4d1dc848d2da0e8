/-
  DERIVED. GIVEN WITH THE SEED: THE CARDS: each row of YtakkiacnampklaaGreatDoorRows.lean that lists a variable, with what it lists TIED to the program's text (the seventh form; the later family's looks); each row that meets fmt, with fmt's text TOLD by the authors' own Lean function (tested against real Go, not proved from fmt's source: count such statements apart). THE CARD IS WHAT COUNTS. Prove the row's statement (the work); the ties are given (YtakkiacnampklaaGreatDoorTie.lean); close each card by the builder's one call (the guide's Derived/Test/ToyasCard.lean, 'card_holds'). Laid BY PROGRAM, IN A SANDBOX (cutbox-door.mjs). By AI agents, Wed Nov 11 2026. No macro, syntax, notation, axiom, sorry.
-/
import Derived.Test.YtakkiacnampklaaGreatDoorRows
import GoSem.ClaimSeven
namespace Go.Proofs.YtakkiacnampklaaGreatDoor
namespace Rows

/-- THE TIED CARD OF 'larderlaw.Canons'. -/
def canonsCard : Claim7 := { stood := { row := canonsRow, standIns := [], harness := (true, "bfedcb4ab5674c60ac2f65061fdafbe1847b7b915179304f6035c3fc90a6fae9"), looks := false }, kinds := [], alts := [], laidByText := true, laidKinds := [.data, .data, .data, .data, .data, .data, .pinned], laidTests := true, laidLooks := .later }
def CanonsCardSaid : Prop := Claim7.holds Tryz.pinned (.plain (OpenSpec.ofChange canonsSpec)) canonsCard

/-- THE SECOND FORM's CARD OF 'larderlaw.Canons'. -/
def canonsUptoCard : Claim7 := { stood := { row := canonsUptoRow, standIns := [], harness := (true, "bfedcb4ab5674c60ac2f65061fdafbe1847b7b915179304f6035c3fc90a6fae9"), looks := false }, kinds := [], alts := [], laidByText := true, laidKinds := [.data, .data, .data, .data, .data, .data, .pinned], laidTests := true, laidLooks := .later }
def CanonsUptoCardSaid : Prop := Claim7.holds Tryz.pinned (.plain (OpenSpec.upto canonsSpec)) canonsUptoCard
end Rows
end Go.Proofs.YtakkiacnampklaaGreatDoor
