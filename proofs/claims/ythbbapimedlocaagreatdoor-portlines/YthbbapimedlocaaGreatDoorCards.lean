/-
  DERIVED. GIVEN WITH THE SEED: THE CARDS: each row of YthbbapimedlocaaGreatDoorRows.lean that lists a variable, with what it lists TIED to the program's text (the seventh form; the later family's looks); each row that meets fmt, with fmt's text TOLD by the authors' own Lean function (tested against real Go, not proved from fmt's source: count such statements apart). THE CARD IS WHAT COUNTS. Prove the row's statement (the work); the ties are given (YthbbapimedlocaaGreatDoorTie.lean); close each card by the builder's one call (the guide's Derived/Test/ToyasCard.lean, 'card_holds'). Laid BY PROGRAM, IN A SANDBOX (cutbox-door.mjs). By AI agents, Wed Nov 11 2026. No macro, syntax, notation, axiom, sorry.
-/
import Derived.Test.YthbbapimedlocaaGreatDoorRows
import GoSem.ClaimSeven
namespace Go.Proofs.YthbbapimedlocaaGreatDoor
namespace Rows

/-- THE TIED CARD OF 'espalierlaw.PortPrint'. -/
def portPrintCard : Claim7 := { stood := { row := portPrintRow, standIns := [], harness := (true, "a039e0f6466a2b60e4e0fb5f3351d22d163b0796bd41d4d076f08bd8cc162531"), looks := true }, kinds := [], alts := [], laidByText := true, laidKinds := [.data, .data, .data, .data, .sentinel, .sentinel, .pinned], laidTests := true, laidLooks := .later }
def PortPrintCardSaid : Prop := Claim7.holds Tryz.pinned (.plain (OpenSpec.ofChange portPrintSpec)) portPrintCard

/-- THE TIED CARD OF 'espalierlaw.PortBack'. -/
def portBackCard : Claim7 := { stood := { row := portBackRow, standIns := [], harness := (true, "a039e0f6466a2b60e4e0fb5f3351d22d163b0796bd41d4d076f08bd8cc162531"), looks := true }, kinds := [], alts := [], laidByText := true, laidKinds := [.data, .data, .data, .data, .sentinel, .sentinel, .pinned], laidTests := true, laidLooks := .later }
def PortBackCardSaid : Prop := Claim7.holds Tryz.pinned (.plain (OpenSpec.ofChange portBackSpec)) portBackCard

/-- THE TIED CARD OF 'espalierlaw.PortLines'. -/
def portLinesCard : Claim7 := { stood := { row := portLinesRow, standIns := [], harness := (true, "a039e0f6466a2b60e4e0fb5f3351d22d163b0796bd41d4d076f08bd8cc162531"), looks := true }, kinds := [], alts := [], laidByText := true, laidKinds := [.data, .data, .data, .data, .sentinel, .sentinel, .pinned], laidTests := true, laidLooks := .later }
def PortLinesCardSaid : Prop := Claim7.holds Tryz.pinned (.plain (OpenSpec.ofChange portLinesSpec)) portLinesCard

/-- THE SECOND FORM's CARD OF 'espalierlaw.PortPrint'. -/
def portPrintUptoCard : Claim7 := { stood := { row := portPrintUptoRow, standIns := [], harness := (true, "a039e0f6466a2b60e4e0fb5f3351d22d163b0796bd41d4d076f08bd8cc162531"), looks := true }, kinds := [], alts := [], laidByText := true, laidKinds := [.data, .data, .data, .data, .sentinel, .sentinel, .pinned], laidTests := true, laidLooks := .later }
def PortPrintUptoCardSaid : Prop := Claim7.holds Tryz.pinned (.plain (OpenSpec.upto portPrintSpec)) portPrintUptoCard

/-- THE SECOND FORM's CARD OF 'espalierlaw.PortBack'. -/
def portBackUptoCard : Claim7 := { stood := { row := portBackUptoRow, standIns := [], harness := (true, "a039e0f6466a2b60e4e0fb5f3351d22d163b0796bd41d4d076f08bd8cc162531"), looks := true }, kinds := [], alts := [], laidByText := true, laidKinds := [.data, .data, .data, .data, .sentinel, .sentinel, .pinned], laidTests := true, laidLooks := .later }
def PortBackUptoCardSaid : Prop := Claim7.holds Tryz.pinned (.plain (OpenSpec.upto portBackSpec)) portBackUptoCard

/-- THE SECOND FORM's CARD OF 'espalierlaw.PortLines'. -/
def portLinesUptoCard : Claim7 := { stood := { row := portLinesUptoRow, standIns := [], harness := (true, "a039e0f6466a2b60e4e0fb5f3351d22d163b0796bd41d4d076f08bd8cc162531"), looks := true }, kinds := [], alts := [], laidByText := true, laidKinds := [.data, .data, .data, .data, .sentinel, .sentinel, .pinned], laidTests := true, laidLooks := .later }
def PortLinesUptoCardSaid : Prop := Claim7.holds Tryz.pinned (.plain (OpenSpec.upto portLinesSpec)) portLinesUptoCard
end Rows
end Go.Proofs.YthbbapimedlocaaGreatDoor
