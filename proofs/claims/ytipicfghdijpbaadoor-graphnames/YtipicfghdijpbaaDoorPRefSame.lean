/-
  What is proved here: see the remark of the text RefSame (the parts of it that this seat needs).
-/
import Derived.Test.YtipicfghdijpbaaDoorPRefTree
import Derived.Deep.RegionHeld3
import Derived.Deep.DeepFit
namespace Go.Proofs.YtipicfghdijpbaaDoor
open Go.RowKit
set_option linter.unusedVariables false

/-- What one knows so far, as an answer. -/
def ku (un : Bool) : Int := if un then 2 else 1

end Go.Proofs.YtipicfghdijpbaaDoor
