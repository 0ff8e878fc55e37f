/-
  DERIVED. GIVEN WITH THE SEED: THE CARDS: each row of YtppbllandnbgbaaGreatDoorRows.lean that lists a variable, with what it lists TIED to the program's text (the seventh form; the later family's looks); each row that meets fmt, with fmt's text TOLD by the authors' own Lean function (tested against real Go, not proved from fmt's source: count such statements apart). THE CARD IS WHAT COUNTS. Prove the row's statement (the work); the ties are given (YtppbllandnbgbaaGreatDoorTie.lean); close each card by the builder's one call (the guide's Derived/Test/ToyasCard.lean, 'card_holds'). Laid BY PROGRAM, IN A SANDBOX (cutbox-door.mjs). By AI agents, Wed Nov 11 2026. No macro, syntax, notation, axiom, sorry.
-/
import Derived.Test.YtppbllandnbgbaaGreatDoorRows
import GoSem.ClaimSeven
namespace Go.Proofs.YtppbllandnbgbaaGreatDoor
namespace Rows

/-- THE TIED CARD OF 'espalierlaw.PackGraph'. -/
def packGraphCard : Claim7 := { stood := { row := packGraphRow, standIns := [], harness := (true, "98e0d7a64212a98beb7912d8f222d87df60e05f9463df73655a75d1f151e4342"), looks := true }, kinds := [], alts := [], laidByText := true, laidKinds := [.data, .pinned], laidTests := true, laidLooks := .later }
def PackGraphCardSaid : Prop := Claim7.holds Tryz.pinned (.plain (OpenSpec.ofChange packGraphSpec)) packGraphCard

/-- THE SECOND FORM's CARD OF 'espalierlaw.PackGraph'. -/
def packGraphUptoCard : Claim7 := { stood := { row := packGraphUptoRow, standIns := [], harness := (true, "98e0d7a64212a98beb7912d8f222d87df60e05f9463df73655a75d1f151e4342"), looks := true }, kinds := [], alts := [], laidByText := true, laidKinds := [.data, .pinned], laidTests := true, laidLooks := .later }
def PackGraphUptoCardSaid : Prop := Claim7.holds Tryz.pinned (.plain (OpenSpec.upto packGraphSpec)) packGraphUptoCard
end Rows
end Go.Proofs.YtppbllandnbgbaaGreatDoor
