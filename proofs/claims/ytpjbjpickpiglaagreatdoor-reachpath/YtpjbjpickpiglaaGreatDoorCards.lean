/-
  DERIVED. GIVEN WITH THE SEED: THE CARDS: each row of YtpjbjpickpiglaaGreatDoorRows.lean that lists a variable, with what it lists TIED to the program's text (the seventh form; the later family's looks); each row that meets fmt, with fmt's text TOLD by the authors' own Lean function (tested against real Go, not proved from fmt's source: count such statements apart). THE CARD IS WHAT COUNTS. Prove the row's statement (the work); the ties are given (YtpjbjpickpiglaaGreatDoorTie.lean); close each card by the builder's one call (the guide's Derived/Test/ToyasCard.lean, 'card_holds'). Laid BY PROGRAM, IN A SANDBOX (cutbox-door.mjs). By AI agents, Wed Nov 11 2026. No macro, syntax, notation, axiom, sorry.
-/
import Derived.Test.YtpjbjpickpiglaaGreatDoorRows
import GoSem.ClaimSeven
namespace Go.Proofs.YtpjbjpickpiglaaGreatDoor
namespace Rows

/-- THE TIED CARD OF 'espalierlaw.ReachPath'. -/
def reachPathCard : Claim7 := { stood := { row := reachPathRow, standIns := [], harness := (true, "0870728c6218cce467bf19611f5c3bd3ad370071dfd67f9557da0adcad7146d1"), looks := false }, kinds := [], alts := [], laidByText := true, laidKinds := [.data, .pinned], laidTests := true, laidLooks := .later }
def ReachPathCardSaid : Prop := Claim7.holds Tryz.pinned (.plain (OpenSpec.ofChange reachPathSpec)) reachPathCard

/-- THE SECOND FORM's CARD OF 'espalierlaw.ReachPath'. -/
def reachPathUptoCard : Claim7 := { stood := { row := reachPathUptoRow, standIns := [], harness := (true, "0870728c6218cce467bf19611f5c3bd3ad370071dfd67f9557da0adcad7146d1"), looks := false }, kinds := [], alts := [], laidByText := true, laidKinds := [.data, .pinned], laidTests := true, laidLooks := .later }
def ReachPathUptoCardSaid : Prop := Claim7.holds Tryz.pinned (.plain (OpenSpec.upto reachPathSpec)) reachPathUptoCard
end Rows
end Go.Proofs.YtpjbjpickpiglaaGreatDoor
