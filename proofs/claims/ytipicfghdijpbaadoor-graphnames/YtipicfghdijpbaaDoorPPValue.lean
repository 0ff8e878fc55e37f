/-
  What is proved here: see the remark of the text PValue (the parts of it that this seat needs).
-/
import Derived.Test.YtipicfghdijpbaaDoorPItems
namespace Go.Proofs.YtipicfghdijpbaaDoor
open Go.RowKit
set_option linter.unusedVariables false

theorem Tabs.mono {B C : Nat} {w : World} (h : Tabs B w) (hBC : B ≤ C) : Tabs C w := fun w' k => h w' (k.mono hBC)

end Go.Proofs.YtipicfghdijpbaaDoor
