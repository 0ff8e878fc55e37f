/-
  What is proved here: see the remark of the text Items (the parts of it that this seat needs).
-/
import Derived.Test.YtipicfghdijpbaaDoorPCheck
namespace Go.Proofs.YtipicfghdijpbaaDoor
open Go.RowKit
set_option linter.unusedVariables false

theorem listAt_below {w w' : World} {b off len : Nat} {V : Vals} (h : ListAt w b off len V) (hb : b < w.heap.size) (k : Below w.heap.size w w') : ListAt w' b off len V := by
  intro i hi
  obtain ⟨h0, h1, h2, h3⟩ := h i hi
  have c : ∀ o, w'.cell? ⟨b, o, none⟩ = w.cell? ⟨b, o, none⟩ := fun o => k.cell (p := ⟨b, o, none⟩) hb
  exact ⟨by rw [c]; exact h0, by rw [c]; exact h1, by rw [c]; exact h2, by rw [c]; exact h3⟩

end Go.Proofs.YtipicfghdijpbaaDoor
