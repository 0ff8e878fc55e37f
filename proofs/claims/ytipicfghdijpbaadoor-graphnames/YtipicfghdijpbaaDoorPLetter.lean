/-
  What is proved here: see the remark of the text Letter (the parts of it that this seat needs).
-/
import Derived.Test.YtipicfghdijpbaaDoorPReader
import Derived.Shelf.Unicode.DecodeSlow
import Derived.Deep.RegionWith
namespace Go.Proofs.YtipicfghdijpbaaDoor
open Go.RowKit
set_option linter.unusedVariables false

/-- The tables of Go's package utf8 lie in the world, and in every world that leaves the blocks below B as they are. -/
def Tabs (B : Nat) (w : World) : Prop := ∀ w', Below B w w' → Lib.Utf8Tabs 0 1 w'

theorem Tabs.below {B : Nat} {w w' : World} (h : Tabs B w) (hb : Below B w w') : Tabs B w' := fun _ k => h _ (hb.trans k)

theorem Tabs.now {B : Nat} {w : World} (h : Tabs B w) : Lib.Utf8Tabs 0 1 w := h _ (Below.refl _ _)

end Go.Proofs.YtipicfghdijpbaaDoor
