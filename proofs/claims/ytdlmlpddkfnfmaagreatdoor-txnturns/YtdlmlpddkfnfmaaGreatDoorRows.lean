/-
  NARROWER THAN 'FOR EVERY INPUT', by the rows' own cells (each row's printed sentence says how): TxnApply: loops, laid · TxnBetween: loops, laid · TxnTurns: loops, laid · TxnNothing: loops, laid · TxnThrough: loops, laid.
  DERIVED. THE GIVEN ROWS OF THIS SEAT. 5 by the template 'for every input the law returns true; each argument reads behind the call as it read before'; 0 by the template 'total and deterministic' (their statements: YtdlmlpddkfnfmaaGreatDoorTotals.lean).
  GIVEN WITH THE SEED: the statements are not yours to turn. If you find one false, say at which input.
  Laid BY PROGRAM, IN A SANDBOX (cutbox-rows.mjs): the forced cells as the released guide's own fill.sh prints them over the translation 8a1a587431a5c3cf… (all of the seat's roots in one cut). By AI agents, Wed Nov 11 2026. No macro, syntax, notation, axiom, sorry.
-/
import Derived.Test.YtdlmlpddkfnfmaaGreatDoorChecked
import GoSem.PinnedTables
import GoSem.Claim
import GoSem.ClaimJoined
import GoSem.ClaimMapViews
import Derived.JoinedTies
import Derived.KernelRfl
namespace Go.Proofs.YtdlmlpddkfnfmaaGreatDoor
/- THE CELL 'sum', in the pinned program and in every row, IS THE sha256 OF THE DUMP (.gsa) THAT YtdlmlpddkfnfmaaGreatDoorProg.lean LOADS. Nothing in Lean hashes anything: it is a label: what it is worth is what the hold of that sum in a sandbox is worth. -/
noncomputable def Tryz.pinned : Pinned := { name := "ytdlmlpddkfnfmaagreatdoor", sum := "8a1a587431a5c3cfe1ab2637609be5b037cfb1fa16fa4645000dccf2a23ff62a", checked := Tryz.checked }
namespace Rows
def none {H : Type} : Left H := { results := [], args := [] }

/- WHAT THE LISTED PACKAGE-LEVEL VARIABLES READ AS WHEN THE CALL BEGINS. Each datum BY PROGRAM (the guide's laid-datum.mjs) off the statement by which the dump's own 'gosem.cut.vars' lays the variable. In a bare row this is a premise. The card (YtdlmlpddkfnfmaaGreatDoorCards.lean) ties it to the program's text. -/
def laid_unicode_utf8_acceptRanges {H : Type} : DataW H := .agg [.agg [.lit (.int .u8 128), .lit (.int .u8 191)], .agg [.lit (.int .u8 160), .lit (.int .u8 191)], .agg [.lit (.int .u8 128), .lit (.int .u8 159)], .agg [.lit (.int .u8 144), .lit (.int .u8 191)], .agg [.lit (.int .u8 128), .lit (.int .u8 143)], .agg [.lit (.int .u8 0), .lit (.int .u8 0)], .agg [.lit (.int .u8 0), .lit (.int .u8 0)], .agg [.lit (.int .u8 0), .lit (.int .u8 0)], .agg [.lit (.int .u8 0), .lit (.int .u8 0)], .agg [.lit (.int .u8 0), .lit (.int .u8 0)], .agg [.lit (.int .u8 0), .lit (.int .u8 0)], .agg [.lit (.int .u8 0), .lit (.int .u8 0)], .agg [.lit (.int .u8 0), .lit (.int .u8 0)], .agg [.lit (.int .u8 0), .lit (.int .u8 0)], .agg [.lit (.int .u8 0), .lit (.int .u8 0)], .agg [.lit (.int .u8 0), .lit (.int .u8 0)]]
/-- One of Go's own tables, pinned by name: the form's constant. -/
def laid_unicode_utf8_first : DataW Unit := Go.Pinned.utf8First

/-- 'espalierlaw.TxnApply': WHATEVER THE INPUT: true; the input reads as it did. -/
def txnApplySpec : ChangeSpec := { name := "txnApply", fn := fun _ => fun
  | [d1, d2] => { results := [.lit (.bool true)], args := [d1, d2] }
  | _ => none }
def txnApplyRow : OpenClaim := { program := "ytdlmlpddkfnfmaagreatdoor", sum := "8a1a587431a5c3cfe1ab2637609be5b037cfb1fa16fa4645000dccf2a23ff62a", func := "espalier/espalierlaw.TxnApply", spec := "txnApply", inPlace := ["slices.overlaps[espalier/api.Prop]", "slices.overlaps[string]", "internal/bytealg.Compare", "internal/bytealg.IndexByteString", "internal/bytealg.IndexString", "internal/reflectlite.ValueOf", "internal/reflectlite.Swapper", "(internal/reflectlite.Value).Len"], unfollowed := true, recurses := true, named := ["unicode/utf8.first", "unicode/utf8.acceptRanges", "internal/bytealg.MaxLen"], loops := true, apart := false, laid := [("unicode/utf8.acceptRanges", laid_unicode_utf8_acceptRanges), ("unicode/utf8.first", laid_unicode_utf8_first)] }
def TxnApplySaid : Prop := txnApplyRow.holds Tryz.pinned (OpenSpec.ofChange txnApplySpec)

/-- ITS FALSE NEIGHBOUR: 'it returns false'. Refute it at one input. -/
def txnApplyWrong : ChangeSpec := { name := "txnApply", fn := fun _ => fun
  | [d1, d2] => { results := [.lit (.bool false)], args := [d1, d2] }
  | _ => none }
def TxnApplyWrongFalsely : Prop := txnApplyRow.holds Tryz.pinned (OpenSpec.ofChange txnApplyWrong)

/-- 'espalierlaw.TxnBetween': WHATEVER THE INPUT: true; the input reads as it did. -/
def txnBetweenSpec : ChangeSpec := { name := "txnBetween", fn := fun _ => fun
  | [d1, d2] => { results := [.lit (.bool true)], args := [d1, d2] }
  | _ => none }
def txnBetweenRow : OpenClaim := { program := "ytdlmlpddkfnfmaagreatdoor", sum := "8a1a587431a5c3cfe1ab2637609be5b037cfb1fa16fa4645000dccf2a23ff62a", func := "espalier/espalierlaw.TxnBetween", spec := "txnBetween", inPlace := ["internal/bytealg.IndexByteString", "internal/bytealg.IndexString", "slices.overlaps[espalier/api.Prop]", "slices.overlaps[string]", "internal/bytealg.Compare"], unfollowed := true, recurses := true, named := ["unicode/utf8.first", "unicode/utf8.acceptRanges", "internal/bytealg.MaxLen"], loops := true, apart := false, laid := [("unicode/utf8.acceptRanges", laid_unicode_utf8_acceptRanges), ("unicode/utf8.first", laid_unicode_utf8_first)] }
def TxnBetweenSaid : Prop := txnBetweenRow.holds Tryz.pinned (OpenSpec.ofChange txnBetweenSpec)

/-- ITS FALSE NEIGHBOUR: 'it returns false'. Refute it at one input. -/
def txnBetweenWrong : ChangeSpec := { name := "txnBetween", fn := fun _ => fun
  | [d1, d2] => { results := [.lit (.bool false)], args := [d1, d2] }
  | _ => none }
def TxnBetweenWrongFalsely : Prop := txnBetweenRow.holds Tryz.pinned (OpenSpec.ofChange txnBetweenWrong)

/-- 'espalierlaw.TxnTurns': WHATEVER THE INPUT: true; the input reads as it did. -/
def txnTurnsSpec : ChangeSpec := { name := "txnTurns", fn := fun _ => fun
  | [d1, d2] => { results := [.lit (.bool true)], args := [d1, d2] }
  | _ => none }
def txnTurnsRow : OpenClaim := { program := "ytdlmlpddkfnfmaagreatdoor", sum := "8a1a587431a5c3cfe1ab2637609be5b037cfb1fa16fa4645000dccf2a23ff62a", func := "espalier/espalierlaw.TxnTurns", spec := "txnTurns", inPlace := ["slices.overlaps[espalier/api.Prop]", "slices.overlaps[string]", "internal/bytealg.Compare"], unfollowed := true, recurses := true, named := ["unicode/utf8.first", "unicode/utf8.acceptRanges"], loops := true, apart := false, laid := [("unicode/utf8.acceptRanges", laid_unicode_utf8_acceptRanges), ("unicode/utf8.first", laid_unicode_utf8_first)] }
def TxnTurnsSaid : Prop := txnTurnsRow.holds Tryz.pinned (OpenSpec.ofChange txnTurnsSpec)

/-- ITS FALSE NEIGHBOUR: 'it returns false'. Refute it at one input. -/
def txnTurnsWrong : ChangeSpec := { name := "txnTurns", fn := fun _ => fun
  | [d1, d2] => { results := [.lit (.bool false)], args := [d1, d2] }
  | _ => none }
def TxnTurnsWrongFalsely : Prop := txnTurnsRow.holds Tryz.pinned (OpenSpec.ofChange txnTurnsWrong)

/-- 'espalierlaw.TxnNothing': WHATEVER THE INPUT: true; the input reads as it did. -/
def txnNothingSpec : ChangeSpec := { name := "txnNothing", fn := fun _ => fun
  | [d1, d2] => { results := [.lit (.bool true)], args := [d1, d2] }
  | _ => none }
def txnNothingRow : OpenClaim := { program := "ytdlmlpddkfnfmaagreatdoor", sum := "8a1a587431a5c3cfe1ab2637609be5b037cfb1fa16fa4645000dccf2a23ff62a", func := "espalier/espalierlaw.TxnNothing", spec := "txnNothing", inPlace := ["slices.overlaps[espalier/api.Prop]", "slices.overlaps[string]", "internal/bytealg.Compare"], unfollowed := true, recurses := true, named := ["unicode/utf8.first", "unicode/utf8.acceptRanges"], loops := true, apart := false, laid := [("unicode/utf8.acceptRanges", laid_unicode_utf8_acceptRanges), ("unicode/utf8.first", laid_unicode_utf8_first)] }
def TxnNothingSaid : Prop := txnNothingRow.holds Tryz.pinned (OpenSpec.ofChange txnNothingSpec)

/-- ITS FALSE NEIGHBOUR: 'it returns false'. Refute it at one input. -/
def txnNothingWrong : ChangeSpec := { name := "txnNothing", fn := fun _ => fun
  | [d1, d2] => { results := [.lit (.bool false)], args := [d1, d2] }
  | _ => none }
def TxnNothingWrongFalsely : Prop := txnNothingRow.holds Tryz.pinned (OpenSpec.ofChange txnNothingWrong)

/-- 'espalierlaw.TxnThrough': WHATEVER THE INPUT: true; the input reads as it did. -/
def txnThroughSpec : ChangeSpec := { name := "txnThrough", fn := fun _ => fun
  | [d1, d2, d3] => { results := [.lit (.bool true)], args := [d1, d2, d3] }
  | _ => none }
def txnThroughRow : OpenClaim := { program := "ytdlmlpddkfnfmaagreatdoor", sum := "8a1a587431a5c3cfe1ab2637609be5b037cfb1fa16fa4645000dccf2a23ff62a", func := "espalier/espalierlaw.TxnThrough", spec := "txnThrough", inPlace := ["slices.overlaps[espalier/api.Prop]", "slices.overlaps[string]", "internal/bytealg.Compare"], unfollowed := true, recurses := true, named := ["unicode/utf8.first", "unicode/utf8.acceptRanges"], loops := true, apart := false, laid := [("unicode/utf8.acceptRanges", laid_unicode_utf8_acceptRanges), ("unicode/utf8.first", laid_unicode_utf8_first)] }
def TxnThroughSaid : Prop := txnThroughRow.holds Tryz.pinned (OpenSpec.ofChange txnThroughSpec)

/-- ITS FALSE NEIGHBOUR: 'it returns false'. Refute it at one input. -/
def txnThroughWrong : ChangeSpec := { name := "txnThrough", fn := fun _ => fun
  | [d1, d2, d3] => { results := [.lit (.bool false)], args := [d1, d2, d3] }
  | _ => none }
def TxnThroughWrongFalsely : Prop := txnThroughRow.holds Tryz.pinned (OpenSpec.ofChange txnThroughWrong)

/- THE SECOND FORM. 'bulk': how many values and letters a reading holds, each counted each time it is reached (what is shared counts as often as it is met; a slice's spare places count too). A statement '..UptoSaid' is the law's where the arguments, and the package variables that the reading takes, are together of bulk at most 1048576: NARROWER than '..Said'. Prove '..Said' where nothing that the law and all that it calls make is longer than what came in: it says more and counts as full. Else prove '..UptoSaid'. A law counts once. -/
mutual
def uptoBulk {H : Type} : DataW H → Nat
  | .lit (.string bytes) => bytes.length + 1
  | .lit _ => 1
  | .nil => 1
  | .ptr d => uptoBulk d + 1
  | .slice elems spare => uptoBulkAll elems + uptoBulkAll spare + 1
  | .agg parts => uptoBulkAll parts + 1
  | .iface _ d => uptoBulk d + 1
  | .map entries => uptoBulkEntries entries + 1
  | .held _ => 1
def uptoBulkAll {H : Type} : List (DataW H) → Nat
  | [] => 0
  | d :: r => uptoBulk d + uptoBulkAll r
def uptoBulkEntries {H : Type} : List (Lit × DataW H) → Nat
  | [] => 0
  | x :: r => uptoBulkEntry x + uptoBulkEntries r
def uptoBulkEntry {H : Type} : Lit × DataW H → Nat
  | (.string bytes, d) => bytes.length + uptoBulk d + 1
  | (_, d) => uptoBulk d + 1
 end
def uptoSmall : (H : Type) → List (DataW H) → Bool := fun _ ds => decide (uptoBulkAll ds ≤ 1048576)
def OpenSpec.upto (s : _root_.Go.ChangeSpec) : _root_.Go.OpenSpec := { _root_.Go.OpenSpec.ofChange s with cond := some uptoSmall }

/-- 'espalierlaw.TxnApply', WHERE WHAT IT READS IS OF BULK AT MOST 1048576: true; the input reads as it did. -/
def txnApplyUptoRow : OpenClaim := { program := "ytdlmlpddkfnfmaagreatdoor", sum := "8a1a587431a5c3cfe1ab2637609be5b037cfb1fa16fa4645000dccf2a23ff62a", func := "espalier/espalierlaw.TxnApply", spec := "txnApply", inPlace := ["slices.overlaps[espalier/api.Prop]", "slices.overlaps[string]", "internal/bytealg.Compare", "internal/bytealg.IndexByteString", "internal/bytealg.IndexString", "internal/reflectlite.ValueOf", "internal/reflectlite.Swapper", "(internal/reflectlite.Value).Len"], unfollowed := true, recurses := true, named := ["unicode/utf8.first", "unicode/utf8.acceptRanges", "internal/bytealg.MaxLen"], loops := true, apart := false, laid := [("unicode/utf8.acceptRanges", laid_unicode_utf8_acceptRanges), ("unicode/utf8.first", laid_unicode_utf8_first)], narrowed := true }
def TxnApplyUptoSaid : Prop := txnApplyUptoRow.holds Tryz.pinned (OpenSpec.upto txnApplySpec)

/-- 'espalierlaw.TxnBetween', WHERE WHAT IT READS IS OF BULK AT MOST 1048576: true; the input reads as it did. -/
def txnBetweenUptoRow : OpenClaim := { program := "ytdlmlpddkfnfmaagreatdoor", sum := "8a1a587431a5c3cfe1ab2637609be5b037cfb1fa16fa4645000dccf2a23ff62a", func := "espalier/espalierlaw.TxnBetween", spec := "txnBetween", inPlace := ["internal/bytealg.IndexByteString", "internal/bytealg.IndexString", "slices.overlaps[espalier/api.Prop]", "slices.overlaps[string]", "internal/bytealg.Compare"], unfollowed := true, recurses := true, named := ["unicode/utf8.first", "unicode/utf8.acceptRanges", "internal/bytealg.MaxLen"], loops := true, apart := false, laid := [("unicode/utf8.acceptRanges", laid_unicode_utf8_acceptRanges), ("unicode/utf8.first", laid_unicode_utf8_first)], narrowed := true }
def TxnBetweenUptoSaid : Prop := txnBetweenUptoRow.holds Tryz.pinned (OpenSpec.upto txnBetweenSpec)

/-- 'espalierlaw.TxnTurns', WHERE WHAT IT READS IS OF BULK AT MOST 1048576: true; the input reads as it did. -/
def txnTurnsUptoRow : OpenClaim := { program := "ytdlmlpddkfnfmaagreatdoor", sum := "8a1a587431a5c3cfe1ab2637609be5b037cfb1fa16fa4645000dccf2a23ff62a", func := "espalier/espalierlaw.TxnTurns", spec := "txnTurns", inPlace := ["slices.overlaps[espalier/api.Prop]", "slices.overlaps[string]", "internal/bytealg.Compare"], unfollowed := true, recurses := true, named := ["unicode/utf8.first", "unicode/utf8.acceptRanges"], loops := true, apart := false, laid := [("unicode/utf8.acceptRanges", laid_unicode_utf8_acceptRanges), ("unicode/utf8.first", laid_unicode_utf8_first)], narrowed := true }
def TxnTurnsUptoSaid : Prop := txnTurnsUptoRow.holds Tryz.pinned (OpenSpec.upto txnTurnsSpec)

/-- 'espalierlaw.TxnNothing', WHERE WHAT IT READS IS OF BULK AT MOST 1048576: true; the input reads as it did. -/
def txnNothingUptoRow : OpenClaim := { program := "ytdlmlpddkfnfmaagreatdoor", sum := "8a1a587431a5c3cfe1ab2637609be5b037cfb1fa16fa4645000dccf2a23ff62a", func := "espalier/espalierlaw.TxnNothing", spec := "txnNothing", inPlace := ["slices.overlaps[espalier/api.Prop]", "slices.overlaps[string]", "internal/bytealg.Compare"], unfollowed := true, recurses := true, named := ["unicode/utf8.first", "unicode/utf8.acceptRanges"], loops := true, apart := false, laid := [("unicode/utf8.acceptRanges", laid_unicode_utf8_acceptRanges), ("unicode/utf8.first", laid_unicode_utf8_first)], narrowed := true }
def TxnNothingUptoSaid : Prop := txnNothingUptoRow.holds Tryz.pinned (OpenSpec.upto txnNothingSpec)

/-- 'espalierlaw.TxnThrough', WHERE WHAT IT READS IS OF BULK AT MOST 1048576: true; the input reads as it did. -/
def txnThroughUptoRow : OpenClaim := { program := "ytdlmlpddkfnfmaagreatdoor", sum := "8a1a587431a5c3cfe1ab2637609be5b037cfb1fa16fa4645000dccf2a23ff62a", func := "espalier/espalierlaw.TxnThrough", spec := "txnThrough", inPlace := ["slices.overlaps[espalier/api.Prop]", "slices.overlaps[string]", "internal/bytealg.Compare"], unfollowed := true, recurses := true, named := ["unicode/utf8.first", "unicode/utf8.acceptRanges"], loops := true, apart := false, laid := [("unicode/utf8.acceptRanges", laid_unicode_utf8_acceptRanges), ("unicode/utf8.first", laid_unicode_utf8_first)], narrowed := true }
def TxnThroughUptoSaid : Prop := txnThroughUptoRow.holds Tryz.pinned (OpenSpec.upto txnThroughSpec)

end Rows
end Go.Proofs.YtdlmlpddkfnfmaaGreatDoor
