/-
  What is proved here: the closed fact 'drawn' is true, in every world; what was there is as it was.
-/
import Derived.Test.YtakpifphpojbjaaGreatDoorGDrawn1
namespace Go.Proofs.YtakpifphpojbjaaGreatDoor
open Go.RowKit
set_option linter.unusedVariables false

theorem same5 (a : Option Addr) (c : Nat) (w : World) : Calls Tryz.prog 38 #[.agg #[.int .i64 2, .int .i64 5, .string ⟨#[]⟩, .slice a 0 c], .agg #[.int .i64 2, .int .i64 5, .string ⟨#[]⟩, .slice none 0 0]] w fun e w' => e = .returned (.bool true) ∧ Below w.heap.size w w' :=
  same_of 2 5 ⟨#[]⟩ a 0 c 2 5 ⟨#[]⟩ none 0 0 0 w fun w' k => order_empty 2 5 ⟨#[]⟩ a none 0 c 0 0 0 w' (by omega) (by omega) (.inl rfl) (fun _ => rfl) (fun h => absurd h (Nat.lt_irrefl _)) (fun h => absurd h (Nat.lt_irrefl _))

theorem equal3 (a : Option Addr) (c b : Nat) (w : World) (h : IntsAt w [3] a 1) (h' : IntsAt w [3] (some ⟨b, 0, none⟩) 1) : Calls Tryz.prog 17 #[.slice a 1 c, .slice (some ⟨b, 0, none⟩) 1 1] w fun e w' => e = .returned (.bool true) ∧ Below w.heap.size w w' :=
  equal_ints [3] [3] a 1 c (some ⟨b, 0, none⟩) 1 1 w h h'

theorem ints3 (w : World) : IntsAt (w.alloc (.cells #[.int .i64 3] 3)) [3] (some ⟨w.heap.size, 0, none⟩) 1 := by
  refine ⟨rfl, by omega, fun _ => ⟨w.heap.size, 0, rfl, by simp, fun i s hs => ?_⟩⟩
  cases i with
  | zero =>
    simp at hs
    subst hs
    exact cell_of (alloc_new w _) 0
  | succ i => simp at hs

end Go.Proofs.YtakpifphpojbjaaGreatDoor
