/-
  What is proved here: what graph.Labelled answers of any graph (given what Check answers): the numbers of the nodes with a label, in memory of the call's own.
-/
import Derived.Test.YtakpifphpojbjaaGreatDoorGSlices
namespace Go.Proofs.YtakpifphpojbjaaGreatDoor
open Go.RowKit
set_option linter.unusedVariables false

/-- Has it that label, or is none asked for? -/
def selN (label : ByteArray) (x : Nd) : Bool := label.toList.isEmpty || hasS x.labs label

def lbL (label : ByteArray) (N : List Nd) : List Int := (N.filter (selN label)).map Nd.id

theorem lbL_yes {label : ByteArray} {x : Nd} {N : List Nd} (h : selN label x = true) : lbL label (x :: N) = x.id :: lbL label N := by
  simp [lbL, h]

theorem lbL_no {label : ByteArray} {x : Nd} {N : List Nd} (h : selN label x = false) : lbL label (x :: N) = lbL label N := by
  simp [lbL, h]

/-- What Labelled answers. -/
def LabEnd (w w' : World) (er : Int) (L : List Int) (e : Ending) : Prop :=
  (er ≠ 0 ∧ e = .returned (.tuple #[.slice none 0 0, .int .i64 er])) ∨ (er = 0 ∧ ∃ v, e = .returned (.tuple #[v, .int .i64 0]) ∧ w'.ownsRow w.heap.size 3 1 v L.length (ints L))

end Go.Proofs.YtakpifphpojbjaaGreatDoor
