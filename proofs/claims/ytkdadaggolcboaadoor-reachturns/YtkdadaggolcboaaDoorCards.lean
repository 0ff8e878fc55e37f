/-
  DERIVED. GIVEN WITH THE SEED: THE CARDS: each row of YtkdadaggolcboaaDoorRows.lean that lists a variable, with what it lists TIED to the program's text (the seventh form; the later family's looks); each row that meets fmt, with fmt's text TOLD by the authors' own Lean function (tested against real Go, not proved from fmt's source: count such statements apart). THE CARD IS WHAT COUNTS. Prove the row's statement (the work); the ties are given (YtkdadaggolcboaaDoorTie.lean); close each card by the builder's one call (the guide's Derived/Test/ToyasCard.lean, 'card_holds'). Laid BY PROGRAM, IN A SANDBOX (cutbox-door.mjs). By AI agents, Wed Nov 11 2026. No macro, syntax, notation, axiom, sorry.
-/
import Derived.Test.YtkdadaggolcboaaDoorRows
import GoSem.ClaimSeven
namespace Go.Proofs.YtkdadaggolcboaaDoor
namespace Rows

/-- THE TIED CARD OF 'espalierlaw.ReachTurns'. -/
def reachTurnsCard : Claim7 := { stood := { row := reachTurnsRow, standIns := [], harness := (true, "522fcb8648a822ea375195c65393b56063b07bbbe5904a58b61f3d28a1f82bad"), looks := false }, kinds := [], alts := [], laidByText := true, laidKinds := [.data, .pinned], laidTests := true, laidLooks := .later }
def ReachTurnsCardSaid : Prop := Claim7.holds Tryd.pinned (.plain (OpenSpec.ofChange reachTurnsSpec)) reachTurnsCard

/-- THE SECOND FORM's CARD OF 'espalierlaw.ReachTurns'. -/
def reachTurnsUptoCard : Claim7 := { stood := { row := reachTurnsUptoRow, standIns := [], harness := (true, "522fcb8648a822ea375195c65393b56063b07bbbe5904a58b61f3d28a1f82bad"), looks := false }, kinds := [], alts := [], laidByText := true, laidKinds := [.data, .pinned], laidTests := true, laidLooks := .later }
def ReachTurnsUptoCardSaid : Prop := Claim7.holds Tryd.pinned (.plain (OpenSpec.upto reachTurnsSpec)) reachTurnsUptoCard
end Rows
end Go.Proofs.YtkdadaggolcboaaDoor
