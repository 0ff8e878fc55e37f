/-
  DERIVED. GIVEN WITH THE SEED: THE CARDS: each row of YtdlmlpddkfnfmaaGreatDoorRows.lean that lists a variable, with what it lists TIED to the program's text (the seventh form; the later family's looks); each row that meets fmt, with fmt's text TOLD by the authors' own Lean function (tested against real Go, not proved from fmt's source: count such statements apart). THE CARD IS WHAT COUNTS. Prove the row's statement (the work); the ties are given (YtdlmlpddkfnfmaaGreatDoorTie.lean); close each card by the builder's one call (the guide's Derived/Test/ToyasCard.lean, 'card_holds'). Laid BY PROGRAM, IN A SANDBOX (cutbox-door.mjs). By AI agents, Wed Nov 11 2026. No macro, syntax, notation, axiom, sorry.
-/
import Derived.Test.YtdlmlpddkfnfmaaGreatDoorRows
import GoSem.ClaimSeven
namespace Go.Proofs.YtdlmlpddkfnfmaaGreatDoor
namespace Rows

/-- THE TIED CARD OF 'espalierlaw.TxnApply'. -/
def txnApplyCard : Claim7 := { stood := { row := txnApplyRow, standIns := [], harness := (true, "5cdf2cca4924b9e88e583f8448769045979dec285b26443852cd2182d6b4231f"), looks := false }, kinds := [], alts := [], laidByText := true, laidKinds := [.data, .pinned], laidTests := true, laidLooks := .later }
def TxnApplyCardSaid : Prop := Claim7.holds Tryz.pinned (.plain (OpenSpec.ofChange txnApplySpec)) txnApplyCard

/-- THE TIED CARD OF 'espalierlaw.TxnBetween'. -/
def txnBetweenCard : Claim7 := { stood := { row := txnBetweenRow, standIns := [], harness := (true, "5cdf2cca4924b9e88e583f8448769045979dec285b26443852cd2182d6b4231f"), looks := false }, kinds := [], alts := [], laidByText := true, laidKinds := [.data, .pinned], laidTests := true, laidLooks := .later }
def TxnBetweenCardSaid : Prop := Claim7.holds Tryz.pinned (.plain (OpenSpec.ofChange txnBetweenSpec)) txnBetweenCard

/-- THE TIED CARD OF 'espalierlaw.TxnTurns'. -/
def txnTurnsCard : Claim7 := { stood := { row := txnTurnsRow, standIns := [], harness := (true, "5cdf2cca4924b9e88e583f8448769045979dec285b26443852cd2182d6b4231f"), looks := false }, kinds := [], alts := [], laidByText := true, laidKinds := [.data, .pinned], laidTests := true, laidLooks := .later }
def TxnTurnsCardSaid : Prop := Claim7.holds Tryz.pinned (.plain (OpenSpec.ofChange txnTurnsSpec)) txnTurnsCard

/-- THE TIED CARD OF 'espalierlaw.TxnNothing'. -/
def txnNothingCard : Claim7 := { stood := { row := txnNothingRow, standIns := [], harness := (true, "5cdf2cca4924b9e88e583f8448769045979dec285b26443852cd2182d6b4231f"), looks := false }, kinds := [], alts := [], laidByText := true, laidKinds := [.data, .pinned], laidTests := true, laidLooks := .later }
def TxnNothingCardSaid : Prop := Claim7.holds Tryz.pinned (.plain (OpenSpec.ofChange txnNothingSpec)) txnNothingCard

/-- THE TIED CARD OF 'espalierlaw.TxnThrough'. -/
def txnThroughCard : Claim7 := { stood := { row := txnThroughRow, standIns := [], harness := (true, "5cdf2cca4924b9e88e583f8448769045979dec285b26443852cd2182d6b4231f"), looks := false }, kinds := [], alts := [], laidByText := true, laidKinds := [.data, .pinned], laidTests := true, laidLooks := .later }
def TxnThroughCardSaid : Prop := Claim7.holds Tryz.pinned (.plain (OpenSpec.ofChange txnThroughSpec)) txnThroughCard

/-- THE SECOND FORM's CARD OF 'espalierlaw.TxnApply'. -/
def txnApplyUptoCard : Claim7 := { stood := { row := txnApplyUptoRow, standIns := [], harness := (true, "5cdf2cca4924b9e88e583f8448769045979dec285b26443852cd2182d6b4231f"), looks := false }, kinds := [], alts := [], laidByText := true, laidKinds := [.data, .pinned], laidTests := true, laidLooks := .later }
def TxnApplyUptoCardSaid : Prop := Claim7.holds Tryz.pinned (.plain (OpenSpec.upto txnApplySpec)) txnApplyUptoCard

/-- THE SECOND FORM's CARD OF 'espalierlaw.TxnBetween'. -/
def txnBetweenUptoCard : Claim7 := { stood := { row := txnBetweenUptoRow, standIns := [], harness := (true, "5cdf2cca4924b9e88e583f8448769045979dec285b26443852cd2182d6b4231f"), looks := false }, kinds := [], alts := [], laidByText := true, laidKinds := [.data, .pinned], laidTests := true, laidLooks := .later }
def TxnBetweenUptoCardSaid : Prop := Claim7.holds Tryz.pinned (.plain (OpenSpec.upto txnBetweenSpec)) txnBetweenUptoCard

/-- THE SECOND FORM's CARD OF 'espalierlaw.TxnTurns'. -/
def txnTurnsUptoCard : Claim7 := { stood := { row := txnTurnsUptoRow, standIns := [], harness := (true, "5cdf2cca4924b9e88e583f8448769045979dec285b26443852cd2182d6b4231f"), looks := false }, kinds := [], alts := [], laidByText := true, laidKinds := [.data, .pinned], laidTests := true, laidLooks := .later }
def TxnTurnsUptoCardSaid : Prop := Claim7.holds Tryz.pinned (.plain (OpenSpec.upto txnTurnsSpec)) txnTurnsUptoCard

/-- THE SECOND FORM's CARD OF 'espalierlaw.TxnNothing'. -/
def txnNothingUptoCard : Claim7 := { stood := { row := txnNothingUptoRow, standIns := [], harness := (true, "5cdf2cca4924b9e88e583f8448769045979dec285b26443852cd2182d6b4231f"), looks := false }, kinds := [], alts := [], laidByText := true, laidKinds := [.data, .pinned], laidTests := true, laidLooks := .later }
def TxnNothingUptoCardSaid : Prop := Claim7.holds Tryz.pinned (.plain (OpenSpec.upto txnNothingSpec)) txnNothingUptoCard

/-- THE SECOND FORM's CARD OF 'espalierlaw.TxnThrough'. -/
def txnThroughUptoCard : Claim7 := { stood := { row := txnThroughUptoRow, standIns := [], harness := (true, "5cdf2cca4924b9e88e583f8448769045979dec285b26443852cd2182d6b4231f"), looks := false }, kinds := [], alts := [], laidByText := true, laidKinds := [.data, .pinned], laidTests := true, laidLooks := .later }
def TxnThroughUptoCardSaid : Prop := Claim7.holds Tryz.pinned (.plain (OpenSpec.upto txnThroughSpec)) txnThroughUptoCard
end Rows
end Go.Proofs.YtdlmlpddkfnfmaaGreatDoor
