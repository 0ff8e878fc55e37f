/-
  DERIVED. GIVEN WITH THE SEED: THE CARDS: each row of YtekkifljcppmlaaGreatDoorRows.lean that lists a variable, with what it lists TIED to the program's text (the seventh form; the later family's looks); each row that meets fmt, with fmt's text TOLD by the authors' own Lean function (tested against real Go, not proved from fmt's source: count such statements apart). THE CARD IS WHAT COUNTS. Prove the row's statement (the work); the ties are given (YtekkifljcppmlaaGreatDoorTie.lean); close each card by the builder's one call (the guide's Derived/Test/ToyasCard.lean, 'card_holds'). Laid BY PROGRAM, IN A SANDBOX (cutbox-door.mjs). By AI agents, Wed Nov 11 2026. No macro, syntax, notation, axiom, sorry.
-/
import Derived.Test.YtekkifljcppmlaaGreatDoorRows
import GoSem.ClaimSeven
namespace Go.Proofs.YtekkifljcppmlaaGreatDoor
namespace Rows

/-- THE TIED CARD OF 'espalierlaw.ValueReckon'. -/
def valueReckonCard : Claim7 := { stood := { row := valueReckonRow, standIns := [], harness := (true, "21fde5989e7609ac18f45820836788e58c6b3e4dabbfffe0056e8ac7bf851797"), looks := true }, kinds := [], alts := [], laidByText := true, laidKinds := [.data, .data, .data, .data, .sentinel, .sentinel, .pinned], laidTests := true, laidLooks := .later }
def ValueReckonCardSaid : Prop := Claim7.holds Tryz.pinned (.plain (OpenSpec.ofChange valueReckonSpec)) valueReckonCard

/-- THE TIED CARD OF 'espalierlaw.ValuePrint'. -/
def valuePrintCard : Claim7 := { stood := { row := valuePrintRow, standIns := [], harness := (true, "21fde5989e7609ac18f45820836788e58c6b3e4dabbfffe0056e8ac7bf851797"), looks := true }, kinds := [], alts := [], laidByText := true, laidKinds := [.data, .data, .data, .data, .sentinel, .sentinel, .pinned], laidTests := true, laidLooks := .later }
def ValuePrintCardSaid : Prop := Claim7.holds Tryz.pinned (.plain (OpenSpec.ofChange valuePrintSpec)) valuePrintCard

/-- THE SECOND FORM's CARD OF 'espalierlaw.ValueReckon'. -/
def valueReckonUptoCard : Claim7 := { stood := { row := valueReckonUptoRow, standIns := [], harness := (true, "21fde5989e7609ac18f45820836788e58c6b3e4dabbfffe0056e8ac7bf851797"), looks := true }, kinds := [], alts := [], laidByText := true, laidKinds := [.data, .data, .data, .data, .sentinel, .sentinel, .pinned], laidTests := true, laidLooks := .later }
def ValueReckonUptoCardSaid : Prop := Claim7.holds Tryz.pinned (.plain (OpenSpec.upto valueReckonSpec)) valueReckonUptoCard

/-- THE SECOND FORM's CARD OF 'espalierlaw.ValuePrint'. -/
def valuePrintUptoCard : Claim7 := { stood := { row := valuePrintUptoRow, standIns := [], harness := (true, "21fde5989e7609ac18f45820836788e58c6b3e4dabbfffe0056e8ac7bf851797"), looks := true }, kinds := [], alts := [], laidByText := true, laidKinds := [.data, .data, .data, .data, .sentinel, .sentinel, .pinned], laidTests := true, laidLooks := .later }
def ValuePrintUptoCardSaid : Prop := Claim7.holds Tryz.pinned (.plain (OpenSpec.upto valuePrintSpec)) valuePrintUptoCard
end Rows
end Go.Proofs.YtekkifljcppmlaaGreatDoor
