/-
  DERIVED. GIVEN WITH THE SEED: THE CARDS: each row of YtonjeaoagpelmaaGreatDoorRows.lean that lists a variable, with what it lists TIED to the program's text (the seventh form; the later family's looks); each row that meets fmt, with fmt's text TOLD by the authors' own Lean function (tested against real Go, not proved from fmt's source: count such statements apart). THE CARD IS WHAT COUNTS. Prove the row's statement (the work); the ties are given (YtonjeaoagpelmaaGreatDoorTie.lean); close each card by the builder's one call (the guide's Derived/Test/ToyasCard.lean, 'card_holds'). Laid BY PROGRAM, IN A SANDBOX (cutbox-door.mjs). By AI agents, Wed Nov 11 2026. No macro, syntax, notation, axiom, sorry.
-/
import Derived.Test.YtonjeaoagpelmaaGreatDoorRows
import GoSem.ClaimSeven
namespace Go.Proofs.YtonjeaoagpelmaaGreatDoor
namespace Rows

/-- THE TIED CARD OF 'espalierlaw.ValuePrint'. -/
def valuePrintCard : Claim7 := { stood := { row := valuePrintRow, standIns := [], harness := (true, "7605aeb6833000401214cd088db09fdf81efe8e924b85c23af27a5cb3e61bc18"), looks := true }, kinds := [], alts := [], laidByText := true, laidKinds := [.data, .data, .data, .data, .sentinel, .sentinel, .pinned], laidTests := true, laidLooks := .later }
def ValuePrintCardSaid : Prop := Claim7.holds Tryz.pinned (.plain (OpenSpec.ofChange valuePrintSpec)) valuePrintCard

/-- THE SECOND FORM's CARD OF 'espalierlaw.ValuePrint'. -/
def valuePrintUptoCard : Claim7 := { stood := { row := valuePrintUptoRow, standIns := [], harness := (true, "7605aeb6833000401214cd088db09fdf81efe8e924b85c23af27a5cb3e61bc18"), looks := true }, kinds := [], alts := [], laidByText := true, laidKinds := [.data, .data, .data, .data, .sentinel, .sentinel, .pinned], laidTests := true, laidLooks := .later }
def ValuePrintUptoCardSaid : Prop := Claim7.holds Tryz.pinned (.plain (OpenSpec.upto valuePrintSpec)) valuePrintUptoCard
end Rows
end Go.Proofs.YtonjeaoagpelmaaGreatDoor
