/-
  DERIVED. GIVEN WITH THE SEED: THE CARDS: each row of YtijjpoohhgapoaaGreatDoorRows.lean that lists a variable, with what it lists TIED to the program's text (the seventh form; the later family's looks); each row that meets fmt, with fmt's text TOLD by the authors' own Lean function (tested against real Go, not proved from fmt's source: count such statements apart). THE CARD IS WHAT COUNTS. Prove the row's statement (the work); the ties are given (YtijjpoohhgapoaaGreatDoorTie.lean); close each card by the builder's one call (the guide's Derived/Test/ToyasCard.lean, 'card_holds'). Laid BY PROGRAM, IN A SANDBOX (cutbox-door.mjs). By AI agents, Wed Nov 11 2026. No macro, syntax, notation, axiom, sorry.
-/
import Derived.Test.YtijjpoohhgapoaaGreatDoorRows
import GoSem.ClaimSeven
namespace Go.Proofs.YtijjpoohhgapoaaGreatDoor
namespace Rows

/-- THE TIED CARD OF 'espalierlaw.TermEval'. -/
def termEvalCard : Claim7 := { stood := { row := termEvalRow, standIns := [], harness := (true, "c680d0d74d1962a3256b0942a6feb675e41d69a8a4ee941b360bb3b9a967aeb4"), looks := false }, kinds := [], alts := [], laidByText := true, laidKinds := [.data, .pinned], laidTests := true, laidLooks := .later }
def TermEvalCardSaid : Prop := Claim7.holds Tryz.pinned (.plain (OpenSpec.ofChange termEvalSpec)) termEvalCard

/-- THE SECOND FORM's CARD OF 'espalierlaw.TermEval'. -/
def termEvalUptoCard : Claim7 := { stood := { row := termEvalUptoRow, standIns := [], harness := (true, "c680d0d74d1962a3256b0942a6feb675e41d69a8a4ee941b360bb3b9a967aeb4"), looks := false }, kinds := [], alts := [], laidByText := true, laidKinds := [.data, .pinned], laidTests := true, laidLooks := .later }
def TermEvalUptoCardSaid : Prop := Claim7.holds Tryz.pinned (.plain (OpenSpec.upto termEvalSpec)) termEvalUptoCard
end Rows
end Go.Proofs.YtijjpoohhgapoaaGreatDoor
