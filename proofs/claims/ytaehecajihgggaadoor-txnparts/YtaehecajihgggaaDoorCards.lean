/-
  DERIVED. GIVEN WITH THE SEED: THE CARDS: each row of YtaehecajihgggaaDoorRows.lean that lists a variable, with what it lists TIED to the program's text (the seventh form; the later family's looks); each row that meets fmt, with fmt's text TOLD by the authors' own Lean function (tested against real Go, not proved from fmt's source: count such statements apart). THE CARD IS WHAT COUNTS. Prove the row's statement (the work); the ties are given (YtaehecajihgggaaDoorTie.lean); close each card by the builder's one call (the guide's Derived/Test/ToyasCard.lean, 'card_holds'). Laid BY PROGRAM, IN A SANDBOX (cutbox-door.mjs). By AI agents, Wed Nov 11 2026. No macro, syntax, notation, axiom, sorry.
-/
import Derived.Test.YtaehecajihgggaaDoorRows
import GoSem.ClaimSeven
namespace Go.Proofs.YtaehecajihgggaaDoor
namespace Rows

/-- THE TIED CARD OF 'espalierlaw.TxnParts'. -/
def txnPartsCard : Claim7 := { stood := { row := txnPartsRow, standIns := [], harness := (true, "d497a16c7d1a21431434f7169a33dd7b921458719fbc25fc19adfc7aee649c25"), looks := false }, kinds := [], alts := [], laidByText := true, laidKinds := [.data, .pinned], laidTests := true, laidLooks := .later }
def TxnPartsCardSaid : Prop := Claim7.holds Tryd.pinned (.plain (OpenSpec.ofChange txnPartsSpec)) txnPartsCard

/-- THE SECOND FORM's CARD OF 'espalierlaw.TxnParts'. -/
def txnPartsUptoCard : Claim7 := { stood := { row := txnPartsUptoRow, standIns := [], harness := (true, "d497a16c7d1a21431434f7169a33dd7b921458719fbc25fc19adfc7aee649c25"), looks := false }, kinds := [], alts := [], laidByText := true, laidKinds := [.data, .pinned], laidTests := true, laidLooks := .later }
def TxnPartsUptoCardSaid : Prop := Claim7.holds Tryd.pinned (.plain (OpenSpec.upto txnPartsSpec)) txnPartsUptoCard
end Rows
end Go.Proofs.YtaehecajihgggaaDoor
