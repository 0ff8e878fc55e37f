/-
  What is proved here: see the remark of the text Lesser (the parts of it that this seat needs).
-/
import Derived.Test.YtonjeaoagpelmaaGreatDoorWTrees
namespace Go.Proofs.YtonjeaoagpelmaaGreatDoor
open Go.RowKit
set_option linter.unusedVariables false

theorem below2 {w w1 w2 : World} (h : Below w.heap.size w w1) (k : Below w1.heap.size w1 w2) : Below w.heap.size w w2 := h.trans (k.mono h.size)

end Go.Proofs.YtonjeaoagpelmaaGreatDoor
