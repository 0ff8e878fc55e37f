/-
  What is proved here: see the remark of the text Listed (the parts of it that this seat needs).
-/
import Derived.Test.YtekkifljcppmlaaGreatDoorQQuoted
import Derived.Deep.RegionHeld3
import Derived.Deep.AppendLies
namespace Go.Proofs.YtekkifljcppmlaaGreatDoor
open Go.RowKit
set_option linter.unusedVariables false

theorem alloc_two (w : World) (o1 o2 : Obj) : ((w.alloc o1).alloc o2).heap[w.heap.size + 1]? = some o2 := by
  have := alloc_new (w.alloc o1) o2
  rw [show (w.alloc o1).heap.size = w.heap.size + 1 from by simp] at this
  exact this

end Go.Proofs.YtekkifljcppmlaaGreatDoor
