/-
  What is proved here: see the remark of the text Reader (the parts of it that this seat needs).
-/
import Derived.Test.YtipicfghdijpbaaDoorPBase
import Derived.Deep.QuietTactic
import Derived.BigQuiet
namespace Go.Proofs.YtipicfghdijpbaaDoor
open Go.RowKit
set_option linter.unusedVariables false

theorem below_drewN (w : World) (n : Nat) : Below w.heap.size w (w.drewN n) := ⟨rfl, rfl, rfl, Nat.le_refl _, fun _ _ => rfl⟩

end Go.Proofs.YtipicfghdijpbaaDoor
