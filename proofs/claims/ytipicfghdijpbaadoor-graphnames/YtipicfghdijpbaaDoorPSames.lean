/-
  What is proved here: see the remark of the text Sames (the parts of it that this seat needs).
-/
import Derived.Test.YtipicfghdijpbaaDoorPOrds
namespace Go.Proofs.YtipicfghdijpbaaDoor
open Go.RowKit
set_option linter.unusedVariables false

theorem lex_zero {p q : Int} (h : lex p q = 0) : p = 0 ∧ q = 0 := by
  unfold lex at h
  split at h
  · exact ⟨‹_›, h⟩
  · exact absurd h ‹_›

end Go.Proofs.YtipicfghdijpbaaDoor
