/-
  What is proved here: see the remark of the text Both (the parts of it that this seat needs).
-/
import Derived.Test.YtonjeaoagpelmaaGreatDoorWFine
namespace Go.Proofs.YtonjeaoagpelmaaGreatDoor
open Go.RowKit
set_option linter.unusedVariables false

/-- Both answer e, in every world that leaves what was there as it was. -/
def Both (w : World) (v : Value) (lists : Nat) (e : Int) : Prop :=
  ∀ w', Below w.heap.size w w' → (Calls Tryz.prog 20 #[v, .int .i64 lists] w' fun r w'' => r = .returned (.int .i64 e) ∧ Below w'.heap.size w' w'') ∧ (Calls Tryz.prog 5 #[v, .int .i64 ((lists : Int) + 1)] w' fun r w'' => r = .returned (.int .i64 e) ∧ Below w'.heap.size w' w'')

theorem both_list_many (w : World) (n : Int) (s : ByteArray) (a : Option Addr) (l c lists : Nat) (hl : l ≤ 9223372036854775807) (h : 30 < l ∨ 6 ≤ lists) : Both w (.agg #[.int .i64 4, .int .i64 n, .string s, .slice a l c]) lists 2 := by
  intro w' k
  refine ⟨?_, ?_⟩
  · exact within_list n s a l c lists 2 w' fun w2 k2 => checkList_many 4 n s a l c lists w2 hl (by omega)
  · exact ref_many n s a l c (lists + 1) w' hl (by omega)

end Go.Proofs.YtonjeaoagpelmaaGreatDoor
