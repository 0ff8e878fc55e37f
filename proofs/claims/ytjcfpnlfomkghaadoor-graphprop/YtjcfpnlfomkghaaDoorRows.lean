/-
  NARROWER THAN 'FOR EVERY INPUT', by the rows' own cells (each row's printed sentence says how): GraphNames: loops, laid · GraphCheck: loops, laid · GraphProp: loops, laid · GraphAround: loops, laid · GraphEnds: loops, laid.
  DERIVED. THE GIVEN ROWS OF THIS SEAT. 5 by the template 'for every input the law returns true; each argument reads behind the call as it read before'; 0 by the template 'total and deterministic' (their statements: YtjcfpnlfomkghaaDoorTotals.lean).
  GIVEN WITH THE SEED: the statements are not yours to turn. If you find one false, say at which input.
  Laid BY PROGRAM, IN A SANDBOX (cutbox-rows.mjs): the forced cells as the released guide's own fill.sh prints them over the translation efec5cc0a0e6d7d1… (all of the seat's roots in one cut). By AI agents, Wed Nov 11 2026. No macro, syntax, notation, axiom, sorry.
-/
import Derived.Test.YtjcfpnlfomkghaaDoorChecked
import GoSem.PinnedTables
import GoSem.Claim
import GoSem.ClaimJoined
import GoSem.ClaimMapViews
import Derived.JoinedTies
import Derived.KernelRfl
namespace Go.Proofs.YtjcfpnlfomkghaaDoor
/- THE CELL 'sum', in the pinned program and in every row, IS THE sha256 OF THE DUMP (.gsa) THAT YtjcfpnlfomkghaaDoorProg.lean LOADS. Nothing in Lean hashes anything: it is a label: what it is worth is what the hold of that sum in a sandbox is worth. -/
noncomputable def Tryd.pinned : Pinned := { name := "ytjcfpnlfomkghaadoor", sum := "efec5cc0a0e6d7d1dd1fb34a7cf40dd90ff1067813000ebd7811a8f4ea5b87fd", checked := Tryd.checked }
namespace Rows
def none {H : Type} : Left H := { results := [], args := [] }

/- WHAT THE LISTED PACKAGE-LEVEL VARIABLES READ AS WHEN THE CALL BEGINS. Each datum BY PROGRAM (the guide's laid-datum.mjs) off the statement by which the dump's own 'gosem.cut.vars' lays the variable. In a bare row this is a premise. The card (YtjcfpnlfomkghaaDoorCards.lean) ties it to the program's text. -/
def laid_unicode_utf8_acceptRanges {H : Type} : DataW H := .agg [.agg [.lit (.int .u8 128), .lit (.int .u8 191)], .agg [.lit (.int .u8 160), .lit (.int .u8 191)], .agg [.lit (.int .u8 128), .lit (.int .u8 159)], .agg [.lit (.int .u8 144), .lit (.int .u8 191)], .agg [.lit (.int .u8 128), .lit (.int .u8 143)], .agg [.lit (.int .u8 0), .lit (.int .u8 0)], .agg [.lit (.int .u8 0), .lit (.int .u8 0)], .agg [.lit (.int .u8 0), .lit (.int .u8 0)], .agg [.lit (.int .u8 0), .lit (.int .u8 0)], .agg [.lit (.int .u8 0), .lit (.int .u8 0)], .agg [.lit (.int .u8 0), .lit (.int .u8 0)], .agg [.lit (.int .u8 0), .lit (.int .u8 0)], .agg [.lit (.int .u8 0), .lit (.int .u8 0)], .agg [.lit (.int .u8 0), .lit (.int .u8 0)], .agg [.lit (.int .u8 0), .lit (.int .u8 0)], .agg [.lit (.int .u8 0), .lit (.int .u8 0)]]
/-- One of Go's own tables, pinned by name: the form's constant. -/
def laid_unicode_utf8_first : DataW Unit := Go.Pinned.utf8First

/-- 'espalierlaw.GraphNames': WHATEVER THE INPUT: true; the input reads as it did. -/
def graphNamesSpec : ChangeSpec := { name := "graphNames", fn := fun _ => fun
  | [d1, d2, d3] => { results := [.lit (.bool true)], args := [d1, d2, d3] }
  | _ => none }
def graphNamesRow : OpenClaim := { program := "ytjcfpnlfomkghaadoor", sum := "efec5cc0a0e6d7d1dd1fb34a7cf40dd90ff1067813000ebd7811a8f4ea5b87fd", func := "espalier/espalierlaw.GraphNames", spec := "graphNames", inPlace := ["internal/bytealg.Compare", "internal/bytealg.IndexByteString", "internal/bytealg.IndexString"], unfollowed := true, recurses := true, named := ["unicode/utf8.first", "unicode/utf8.acceptRanges", "internal/bytealg.MaxLen"], loops := true, apart := false, laid := [("unicode/utf8.acceptRanges", laid_unicode_utf8_acceptRanges), ("unicode/utf8.first", laid_unicode_utf8_first)] }
def GraphNamesSaid : Prop := graphNamesRow.holds Tryd.pinned (OpenSpec.ofChange graphNamesSpec)

/-- ITS FALSE NEIGHBOUR: 'it returns false'. Refute it at one input. -/
def graphNamesWrong : ChangeSpec := { name := "graphNames", fn := fun _ => fun
  | [d1, d2, d3] => { results := [.lit (.bool false)], args := [d1, d2, d3] }
  | _ => none }
def GraphNamesWrongFalsely : Prop := graphNamesRow.holds Tryd.pinned (OpenSpec.ofChange graphNamesWrong)

/-- 'espalierlaw.GraphCheck': WHATEVER THE INPUT: true; the input reads as it did. -/
def graphCheckSpec : ChangeSpec := { name := "graphCheck", fn := fun _ => fun
  | [d] => { results := [.lit (.bool true)], args := [d] }
  | _ => none }
def graphCheckRow : OpenClaim := { program := "ytjcfpnlfomkghaadoor", sum := "efec5cc0a0e6d7d1dd1fb34a7cf40dd90ff1067813000ebd7811a8f4ea5b87fd", func := "espalier/espalierlaw.GraphCheck", spec := "graphCheck", inPlace := ["internal/bytealg.Compare", "internal/bytealg.IndexByteString", "internal/bytealg.IndexString"], unfollowed := true, recurses := true, named := ["unicode/utf8.first", "unicode/utf8.acceptRanges", "internal/bytealg.MaxLen"], loops := true, apart := false, laid := [("unicode/utf8.acceptRanges", laid_unicode_utf8_acceptRanges), ("unicode/utf8.first", laid_unicode_utf8_first)] }
def GraphCheckSaid : Prop := graphCheckRow.holds Tryd.pinned (OpenSpec.ofChange graphCheckSpec)

/-- ITS FALSE NEIGHBOUR: 'it returns false'. Refute it at one input. -/
def graphCheckWrong : ChangeSpec := { name := "graphCheck", fn := fun _ => fun
  | [d] => { results := [.lit (.bool false)], args := [d] }
  | _ => none }
def GraphCheckWrongFalsely : Prop := graphCheckRow.holds Tryd.pinned (OpenSpec.ofChange graphCheckWrong)

/-- 'espalierlaw.GraphProp': WHATEVER THE INPUT: true; the input reads as it did. -/
def graphPropSpec : ChangeSpec := { name := "graphProp", fn := fun _ => fun
  | [d1, d2, d3] => { results := [.lit (.bool true)], args := [d1, d2, d3] }
  | _ => none }
def graphPropRow : OpenClaim := { program := "ytjcfpnlfomkghaadoor", sum := "efec5cc0a0e6d7d1dd1fb34a7cf40dd90ff1067813000ebd7811a8f4ea5b87fd", func := "espalier/espalierlaw.GraphProp", spec := "graphProp", inPlace := ["internal/bytealg.IndexByteString", "internal/bytealg.IndexString", "internal/bytealg.Compare"], unfollowed := true, recurses := true, named := ["unicode/utf8.first", "unicode/utf8.acceptRanges", "internal/bytealg.MaxLen"], loops := true, apart := false, laid := [("unicode/utf8.acceptRanges", laid_unicode_utf8_acceptRanges), ("unicode/utf8.first", laid_unicode_utf8_first)] }
def GraphPropSaid : Prop := graphPropRow.holds Tryd.pinned (OpenSpec.ofChange graphPropSpec)

/-- ITS FALSE NEIGHBOUR: 'it returns false'. Refute it at one input. -/
def graphPropWrong : ChangeSpec := { name := "graphProp", fn := fun _ => fun
  | [d1, d2, d3] => { results := [.lit (.bool false)], args := [d1, d2, d3] }
  | _ => none }
def GraphPropWrongFalsely : Prop := graphPropRow.holds Tryd.pinned (OpenSpec.ofChange graphPropWrong)

/-- 'espalierlaw.GraphAround': WHATEVER THE INPUT: true; the input reads as it did. -/
def graphAroundSpec : ChangeSpec := { name := "graphAround", fn := fun _ => fun
  | [d1, d2, d3, d4, d5] => { results := [.lit (.bool true)], args := [d1, d2, d3, d4, d5] }
  | _ => none }
def graphAroundRow : OpenClaim := { program := "ytjcfpnlfomkghaadoor", sum := "efec5cc0a0e6d7d1dd1fb34a7cf40dd90ff1067813000ebd7811a8f4ea5b87fd", func := "espalier/espalierlaw.GraphAround", spec := "graphAround", inPlace := ["internal/bytealg.IndexByteString", "internal/bytealg.IndexString", "internal/bytealg.Compare"], unfollowed := true, recurses := true, named := ["unicode/utf8.first", "unicode/utf8.acceptRanges", "internal/bytealg.MaxLen"], loops := true, apart := false, laid := [("unicode/utf8.acceptRanges", laid_unicode_utf8_acceptRanges), ("unicode/utf8.first", laid_unicode_utf8_first)] }
def GraphAroundSaid : Prop := graphAroundRow.holds Tryd.pinned (OpenSpec.ofChange graphAroundSpec)

/-- ITS FALSE NEIGHBOUR: 'it returns false'. Refute it at one input. -/
def graphAroundWrong : ChangeSpec := { name := "graphAround", fn := fun _ => fun
  | [d1, d2, d3, d4, d5] => { results := [.lit (.bool false)], args := [d1, d2, d3, d4, d5] }
  | _ => none }
def GraphAroundWrongFalsely : Prop := graphAroundRow.holds Tryd.pinned (OpenSpec.ofChange graphAroundWrong)

/-- 'espalierlaw.GraphEnds': WHATEVER THE INPUT: true; the input reads as it did. -/
def graphEndsSpec : ChangeSpec := { name := "graphEnds", fn := fun _ => fun
  | [d] => { results := [.lit (.bool true)], args := [d] }
  | _ => none }
def graphEndsRow : OpenClaim := { program := "ytjcfpnlfomkghaadoor", sum := "efec5cc0a0e6d7d1dd1fb34a7cf40dd90ff1067813000ebd7811a8f4ea5b87fd", func := "espalier/espalierlaw.GraphEnds", spec := "graphEnds", inPlace := ["internal/bytealg.Compare"], unfollowed := true, recurses := true, named := ["unicode/utf8.first", "unicode/utf8.acceptRanges"], loops := true, apart := false, laid := [("unicode/utf8.acceptRanges", laid_unicode_utf8_acceptRanges), ("unicode/utf8.first", laid_unicode_utf8_first)] }
def GraphEndsSaid : Prop := graphEndsRow.holds Tryd.pinned (OpenSpec.ofChange graphEndsSpec)

/-- ITS FALSE NEIGHBOUR: 'it returns false'. Refute it at one input. -/
def graphEndsWrong : ChangeSpec := { name := "graphEnds", fn := fun _ => fun
  | [d] => { results := [.lit (.bool false)], args := [d] }
  | _ => none }
def GraphEndsWrongFalsely : Prop := graphEndsRow.holds Tryd.pinned (OpenSpec.ofChange graphEndsWrong)

/- THE SECOND FORM. 'bulk': how many values and letters a reading holds, each counted each time it is reached (what is shared counts as often as it is met; a slice's spare places count too). A statement '..UptoSaid' is the law's where the arguments, and the package variables that the reading takes, are together of bulk at most 1048576: NARROWER than '..Said'. Prove '..Said' where nothing that the law and all that it calls make is longer than what came in: it says more and counts as full. Else prove '..UptoSaid'. A law counts once. -/
mutual
def uptoBulk {H : Type} : DataW H → Nat
  | .lit (.string bytes) => bytes.length + 1
  | .lit _ => 1
  | .nil => 1
  | .ptr d => uptoBulk d + 1
  | .slice elems spare => uptoBulkAll elems + uptoBulkAll spare + 1
  | .agg parts => uptoBulkAll parts + 1
  | .iface _ d => uptoBulk d + 1
  | .map entries => uptoBulkEntries entries + 1
  | .held _ => 1
def uptoBulkAll {H : Type} : List (DataW H) → Nat
  | [] => 0
  | d :: r => uptoBulk d + uptoBulkAll r
def uptoBulkEntries {H : Type} : List (Lit × DataW H) → Nat
  | [] => 0
  | x :: r => uptoBulkEntry x + uptoBulkEntries r
def uptoBulkEntry {H : Type} : Lit × DataW H → Nat
  | (.string bytes, d) => bytes.length + uptoBulk d + 1
  | (_, d) => uptoBulk d + 1
 end
def uptoSmall : (H : Type) → List (DataW H) → Bool := fun _ ds => decide (uptoBulkAll ds ≤ 1048576)
def OpenSpec.upto (s : _root_.Go.ChangeSpec) : _root_.Go.OpenSpec := { _root_.Go.OpenSpec.ofChange s with cond := some uptoSmall }

/-- 'espalierlaw.GraphNames', WHERE WHAT IT READS IS OF BULK AT MOST 1048576: true; the input reads as it did. -/
def graphNamesUptoRow : OpenClaim := { program := "ytjcfpnlfomkghaadoor", sum := "efec5cc0a0e6d7d1dd1fb34a7cf40dd90ff1067813000ebd7811a8f4ea5b87fd", func := "espalier/espalierlaw.GraphNames", spec := "graphNames", inPlace := ["internal/bytealg.Compare", "internal/bytealg.IndexByteString", "internal/bytealg.IndexString"], unfollowed := true, recurses := true, named := ["unicode/utf8.first", "unicode/utf8.acceptRanges", "internal/bytealg.MaxLen"], loops := true, apart := false, laid := [("unicode/utf8.acceptRanges", laid_unicode_utf8_acceptRanges), ("unicode/utf8.first", laid_unicode_utf8_first)], narrowed := true }
def GraphNamesUptoSaid : Prop := graphNamesUptoRow.holds Tryd.pinned (OpenSpec.upto graphNamesSpec)

/-- 'espalierlaw.GraphCheck', WHERE WHAT IT READS IS OF BULK AT MOST 1048576: true; the input reads as it did. -/
def graphCheckUptoRow : OpenClaim := { program := "ytjcfpnlfomkghaadoor", sum := "efec5cc0a0e6d7d1dd1fb34a7cf40dd90ff1067813000ebd7811a8f4ea5b87fd", func := "espalier/espalierlaw.GraphCheck", spec := "graphCheck", inPlace := ["internal/bytealg.Compare", "internal/bytealg.IndexByteString", "internal/bytealg.IndexString"], unfollowed := true, recurses := true, named := ["unicode/utf8.first", "unicode/utf8.acceptRanges", "internal/bytealg.MaxLen"], loops := true, apart := false, laid := [("unicode/utf8.acceptRanges", laid_unicode_utf8_acceptRanges), ("unicode/utf8.first", laid_unicode_utf8_first)], narrowed := true }
def GraphCheckUptoSaid : Prop := graphCheckUptoRow.holds Tryd.pinned (OpenSpec.upto graphCheckSpec)

/-- 'espalierlaw.GraphProp', WHERE WHAT IT READS IS OF BULK AT MOST 1048576: true; the input reads as it did. -/
def graphPropUptoRow : OpenClaim := { program := "ytjcfpnlfomkghaadoor", sum := "efec5cc0a0e6d7d1dd1fb34a7cf40dd90ff1067813000ebd7811a8f4ea5b87fd", func := "espalier/espalierlaw.GraphProp", spec := "graphProp", inPlace := ["internal/bytealg.IndexByteString", "internal/bytealg.IndexString", "internal/bytealg.Compare"], unfollowed := true, recurses := true, named := ["unicode/utf8.first", "unicode/utf8.acceptRanges", "internal/bytealg.MaxLen"], loops := true, apart := false, laid := [("unicode/utf8.acceptRanges", laid_unicode_utf8_acceptRanges), ("unicode/utf8.first", laid_unicode_utf8_first)], narrowed := true }
def GraphPropUptoSaid : Prop := graphPropUptoRow.holds Tryd.pinned (OpenSpec.upto graphPropSpec)

/-- 'espalierlaw.GraphAround', WHERE WHAT IT READS IS OF BULK AT MOST 1048576: true; the input reads as it did. -/
def graphAroundUptoRow : OpenClaim := { program := "ytjcfpnlfomkghaadoor", sum := "efec5cc0a0e6d7d1dd1fb34a7cf40dd90ff1067813000ebd7811a8f4ea5b87fd", func := "espalier/espalierlaw.GraphAround", spec := "graphAround", inPlace := ["internal/bytealg.IndexByteString", "internal/bytealg.IndexString", "internal/bytealg.Compare"], unfollowed := true, recurses := true, named := ["unicode/utf8.first", "unicode/utf8.acceptRanges", "internal/bytealg.MaxLen"], loops := true, apart := false, laid := [("unicode/utf8.acceptRanges", laid_unicode_utf8_acceptRanges), ("unicode/utf8.first", laid_unicode_utf8_first)], narrowed := true }
def GraphAroundUptoSaid : Prop := graphAroundUptoRow.holds Tryd.pinned (OpenSpec.upto graphAroundSpec)

/-- 'espalierlaw.GraphEnds', WHERE WHAT IT READS IS OF BULK AT MOST 1048576: true; the input reads as it did. -/
def graphEndsUptoRow : OpenClaim := { program := "ytjcfpnlfomkghaadoor", sum := "efec5cc0a0e6d7d1dd1fb34a7cf40dd90ff1067813000ebd7811a8f4ea5b87fd", func := "espalier/espalierlaw.GraphEnds", spec := "graphEnds", inPlace := ["internal/bytealg.Compare"], unfollowed := true, recurses := true, named := ["unicode/utf8.first", "unicode/utf8.acceptRanges"], loops := true, apart := false, laid := [("unicode/utf8.acceptRanges", laid_unicode_utf8_acceptRanges), ("unicode/utf8.first", laid_unicode_utf8_first)], narrowed := true }
def GraphEndsUptoSaid : Prop := graphEndsUptoRow.holds Tryd.pinned (OpenSpec.upto graphEndsSpec)

end Rows
end Go.Proofs.YtjcfpnlfomkghaaDoor
