/-
  What is proved here: see the remark of the text Sames (the parts of it that this seat needs).
-/
import Derived.Test.YtdefjgbiinahdaaDoorPOrds
namespace Go.Proofs.YtdefjgbiinahdaaDoor
open Go.RowKit
set_option linter.unusedVariables false

/-- Lists bear no number and no text, all the way down. -/
inductive Well : T → Prop
  | node (k n : Int) (s : ByteArray) (L : List T) (h1 : k = 4 → n = 0 ∧ s = ⟨#[]⟩) (h2 : k = 4 → ∀ t ∈ L, Well t) : Well (.node k n s L)

theorem lex_zero {p q : Int} (h : lex p q = 0) : p = 0 ∧ q = 0 := by
  unfold lex at h
  split at h
  · exact ⟨‹_›, h⟩
  · exact absurd h ‹_›

end Go.Proofs.YtdefjgbiinahdaaDoor
