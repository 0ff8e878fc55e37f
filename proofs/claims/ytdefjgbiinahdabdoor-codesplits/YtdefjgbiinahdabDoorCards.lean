/-
  DERIVED. GIVEN WITH THE SEED: THE CARDS: each row of YtdefjgbiinahdabDoorRows.lean that lists a variable, with what it lists TIED to the program's text (the seventh form; the later family's looks); each row that meets fmt, with fmt's text TOLD by the authors' own Lean function (tested against real Go, not proved from fmt's source: count such statements apart). THE CARD IS WHAT COUNTS. Prove the row's statement (the work); the ties are given (YtdefjgbiinahdabDoorTie.lean); close each card by the builder's one call (the guide's Derived/Test/ToyasCard.lean, 'card_holds'). Laid BY PROGRAM, IN A SANDBOX (cutbox-door.mjs). By AI agents, Wed Nov 11 2026. No macro, syntax, notation, axiom, sorry.
-/
import Derived.Test.YtdefjgbiinahdabDoorRows
import GoSem.ClaimSeven
namespace Go.Proofs.YtdefjgbiinahdabDoor
namespace Rows

/-- THE TIED CARD OF 'espalierlaw.CodeSplits'. -/
def codeSplitsCard : Claim7 := { stood := { row := codeSplitsRow, standIns := [], harness := (true, "e543230222aa8b4bbc38fe6d758637124609d8d55c4f2c5f59a9b562aab35a64"), looks := false }, kinds := [], alts := [], laidByText := true, laidKinds := [.data, .pinned], laidTests := true, laidLooks := .later }
def CodeSplitsCardSaid : Prop := Claim7.holds Tryd.pinned (.plain (OpenSpec.ofChange codeSplitsSpec)) codeSplitsCard

/-- THE SECOND FORM's CARD OF 'espalierlaw.CodeSplits'. -/
def codeSplitsUptoCard : Claim7 := { stood := { row := codeSplitsUptoRow, standIns := [], harness := (true, "e543230222aa8b4bbc38fe6d758637124609d8d55c4f2c5f59a9b562aab35a64"), looks := false }, kinds := [], alts := [], laidByText := true, laidKinds := [.data, .pinned], laidTests := true, laidLooks := .later }
def CodeSplitsUptoCardSaid : Prop := Claim7.holds Tryd.pinned (.plain (OpenSpec.upto codeSplitsSpec)) codeSplitsUptoCard
end Rows
end Go.Proofs.YtdefjgbiinahdabDoor
