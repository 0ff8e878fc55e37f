/-
  DERIVED. GIVEN WITH THE SEED: THE CARDS: each row of YtclnkgmmkeocbaaDoorRows.lean that lists a variable, with what it lists TIED to the program's text (the seventh form; the later family's looks); each row that meets fmt, with fmt's text TOLD by the authors' own Lean function (tested against real Go, not proved from fmt's source: count such statements apart). THE CARD IS WHAT COUNTS. Prove the row's statement (the work); the ties are given (YtclnkgmmkeocbaaDoorTie.lean); close each card by the builder's one call (the guide's Derived/Test/ToyasCard.lean, 'card_holds'). Laid BY PROGRAM, IN A SANDBOX (cutbox-door.mjs). By AI agents, Wed Nov 11 2026. No macro, syntax, notation, axiom, sorry.
-/
import Derived.Test.YtclnkgmmkeocbaaDoorRows
import GoSem.ClaimSeven
namespace Go.Proofs.YtclnkgmmkeocbaaDoor
namespace Rows

/-- THE TIED CARD OF 'espalierlaw.GraphAround'. -/
def graphAroundCard : Claim7 := { stood := { row := graphAroundRow, standIns := [], harness := (true, "51bd247c4ea8a00904d54498942bf33554253e15357c03770443820434a9dca9"), looks := false }, kinds := [], alts := [], laidByText := true, laidKinds := [.data, .pinned], laidTests := true, laidLooks := .later }
def GraphAroundCardSaid : Prop := Claim7.holds Tryd.pinned (.plain (OpenSpec.ofChange graphAroundSpec)) graphAroundCard

/-- THE SECOND FORM's CARD OF 'espalierlaw.GraphAround'. -/
def graphAroundUptoCard : Claim7 := { stood := { row := graphAroundUptoRow, standIns := [], harness := (true, "51bd247c4ea8a00904d54498942bf33554253e15357c03770443820434a9dca9"), looks := false }, kinds := [], alts := [], laidByText := true, laidKinds := [.data, .pinned], laidTests := true, laidLooks := .later }
def GraphAroundUptoCardSaid : Prop := Claim7.holds Tryd.pinned (.plain (OpenSpec.upto graphAroundSpec)) graphAroundUptoCard
end Rows
end Go.Proofs.YtclnkgmmkeocbaaDoor
