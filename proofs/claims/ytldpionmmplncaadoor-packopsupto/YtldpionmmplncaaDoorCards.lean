/-
  DERIVED. GIVEN WITH THE SEED: THE CARDS: each row of YtldpionmmplncaaDoorRows.lean that lists a variable, with what it lists TIED to the program's text (the seventh form; the later family's looks); each row that meets fmt, with fmt's text TOLD by the authors' own Lean function (tested against real Go, not proved from fmt's source: count such statements apart). THE CARD IS WHAT COUNTS. Prove the row's statement (the work); the ties are given (YtldpionmmplncaaDoorTie.lean); close each card by the builder's one call (the guide's Derived/Test/ToyasCard.lean, 'card_holds'). Laid BY PROGRAM, IN A SANDBOX (cutbox-door.mjs). By AI agents, Wed Nov 11 2026. No macro, syntax, notation, axiom, sorry.
-/
import Derived.Test.YtldpionmmplncaaDoorRows
import GoSem.ClaimSeven
namespace Go.Proofs.YtldpionmmplncaaDoor
namespace Rows

/-- THE TIED CARD OF 'espalierlaw.PackOps'. -/
def packOpsCard : Claim7 := { stood := { row := packOpsRow, standIns := [], harness := (true, "bccdb6060fa7e997a227146ff183ddba6fbca28c3e89df84a4ba98eec8782df0"), looks := true }, kinds := [], alts := [], laidByText := true, laidKinds := [.data, .pinned], laidTests := true, laidLooks := .later }
def PackOpsCardSaid : Prop := Claim7.holds Tryd.pinned (.plain (OpenSpec.ofChange packOpsSpec)) packOpsCard

/-- THE SECOND FORM's CARD OF 'espalierlaw.PackOps'. -/
def packOpsUptoCard : Claim7 := { stood := { row := packOpsUptoRow, standIns := [], harness := (true, "bccdb6060fa7e997a227146ff183ddba6fbca28c3e89df84a4ba98eec8782df0"), looks := true }, kinds := [], alts := [], laidByText := true, laidKinds := [.data, .pinned], laidTests := true, laidLooks := .later }
def PackOpsUptoCardSaid : Prop := Claim7.holds Tryd.pinned (.plain (OpenSpec.upto packOpsSpec)) packOpsUptoCard
end Rows
end Go.Proofs.YtldpionmmplncaaDoor
