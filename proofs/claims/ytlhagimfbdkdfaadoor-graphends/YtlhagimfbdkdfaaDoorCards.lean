/-
  DERIVED. GIVEN WITH THE SEED: THE CARDS: each row of YtlhagimfbdkdfaaDoorRows.lean that lists a variable, with what it lists TIED to the program's text (the seventh form; the later family's looks); each row that meets fmt, with fmt's text TOLD by the authors' own Lean function (tested against real Go, not proved from fmt's source: count such statements apart). THE CARD IS WHAT COUNTS. Prove the row's statement (the work); the ties are given (YtlhagimfbdkdfaaDoorTie.lean); close each card by the builder's one call (the guide's Derived/Test/ToyasCard.lean, 'card_holds'). Laid BY PROGRAM, IN A SANDBOX (cutbox-door.mjs). By AI agents, Wed Nov 11 2026. No macro, syntax, notation, axiom, sorry.
-/
import Derived.Test.YtlhagimfbdkdfaaDoorRows
import GoSem.ClaimSeven
namespace Go.Proofs.YtlhagimfbdkdfaaDoor
namespace Rows

/-- THE TIED CARD OF 'espalierlaw.GraphAround'. -/
def graphAroundCard : Claim7 := { stood := { row := graphAroundRow, standIns := [], harness := (true, "8b509419860cb8033bfc7a873d93c7f72ebbd2d7af49bc3438dad51dc23e191d"), looks := false }, kinds := [], alts := [], laidByText := true, laidKinds := [.data, .pinned], laidTests := true, laidLooks := .later }
def GraphAroundCardSaid : Prop := Claim7.holds Tryd.pinned (.plain (OpenSpec.ofChange graphAroundSpec)) graphAroundCard

/-- THE TIED CARD OF 'espalierlaw.GraphEnds'. -/
def graphEndsCard : Claim7 := { stood := { row := graphEndsRow, standIns := [], harness := (true, "8b509419860cb8033bfc7a873d93c7f72ebbd2d7af49bc3438dad51dc23e191d"), looks := false }, kinds := [], alts := [], laidByText := true, laidKinds := [.data, .pinned], laidTests := true, laidLooks := .later }
def GraphEndsCardSaid : Prop := Claim7.holds Tryd.pinned (.plain (OpenSpec.ofChange graphEndsSpec)) graphEndsCard

/-- THE SECOND FORM's CARD OF 'espalierlaw.GraphAround'. -/
def graphAroundUptoCard : Claim7 := { stood := { row := graphAroundUptoRow, standIns := [], harness := (true, "8b509419860cb8033bfc7a873d93c7f72ebbd2d7af49bc3438dad51dc23e191d"), looks := false }, kinds := [], alts := [], laidByText := true, laidKinds := [.data, .pinned], laidTests := true, laidLooks := .later }
def GraphAroundUptoCardSaid : Prop := Claim7.holds Tryd.pinned (.plain (OpenSpec.upto graphAroundSpec)) graphAroundUptoCard

/-- THE SECOND FORM's CARD OF 'espalierlaw.GraphEnds'. -/
def graphEndsUptoCard : Claim7 := { stood := { row := graphEndsUptoRow, standIns := [], harness := (true, "8b509419860cb8033bfc7a873d93c7f72ebbd2d7af49bc3438dad51dc23e191d"), looks := false }, kinds := [], alts := [], laidByText := true, laidKinds := [.data, .pinned], laidTests := true, laidLooks := .later }
def GraphEndsUptoCardSaid : Prop := Claim7.holds Tryd.pinned (.plain (OpenSpec.upto graphEndsSpec)) graphEndsUptoCard
end Rows
end Go.Proofs.YtlhagimfbdkdfaaDoor
