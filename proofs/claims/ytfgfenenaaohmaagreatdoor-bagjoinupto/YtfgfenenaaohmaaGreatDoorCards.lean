/-
  DERIVED. GIVEN WITH THE SEED: THE CARDS: each row of YtfgfenenaaohmaaGreatDoorRows.lean that lists a variable, with what it lists TIED to the program's text (the seventh form; the later family's looks); each row that meets fmt, with fmt's text TOLD by the authors' own Lean function (tested against real Go, not proved from fmt's source: count such statements apart). THE CARD IS WHAT COUNTS. Prove the row's statement (the work); the ties are given (YtfgfenenaaohmaaGreatDoorTie.lean); close each card by the builder's one call (the guide's Derived/Test/ToyasCard.lean, 'card_holds'). Laid BY PROGRAM, IN A SANDBOX (cutbox-door.mjs). By AI agents, Wed Nov 11 2026. No macro, syntax, notation, axiom, sorry.
-/
import Derived.Test.YtfgfenenaaohmaaGreatDoorRows
import GoSem.ClaimSeven
namespace Go.Proofs.YtfgfenenaaohmaaGreatDoor
namespace Rows

/-- THE TIED CARD OF 'espalierlaw.BagJoin'. -/
def bagJoinCard : Claim7 := { stood := { row := bagJoinRow, standIns := [], harness := (true, "147a2b8199787de1d1f63187c3ebfd7d2f0f34042321044d878dd65933d9db64"), looks := false }, kinds := [], alts := [], laidByText := true, laidKinds := [.data, .pinned], laidTests := true, laidLooks := .later }
def BagJoinCardSaid : Prop := Claim7.holds Tryz.pinned (.plain (OpenSpec.ofChange bagJoinSpec)) bagJoinCard

/-- THE SECOND FORM's CARD OF 'espalierlaw.BagJoin'. -/
def bagJoinUptoCard : Claim7 := { stood := { row := bagJoinUptoRow, standIns := [], harness := (true, "147a2b8199787de1d1f63187c3ebfd7d2f0f34042321044d878dd65933d9db64"), looks := false }, kinds := [], alts := [], laidByText := true, laidKinds := [.data, .pinned], laidTests := true, laidLooks := .later }
def BagJoinUptoCardSaid : Prop := Claim7.holds Tryz.pinned (.plain (OpenSpec.upto bagJoinSpec)) bagJoinUptoCard
end Rows
end Go.Proofs.YtfgfenenaaohmaaGreatDoor
