/-
  What is proved here: see the remark of the text PTree (the parts of it that this seat needs).
-/
import Derived.Test.YtdefjgbiinahdaaDoorPWellCheck
namespace Go.Proofs.YtdefjgbiinahdaaDoor
open Go.RowKit
set_option linter.unusedVariables false

/-- L' is L and Q behind it, if that is short; else it is too long. -/
def AP (L Q L' : List UInt8) : Prop := ((L ++ Q).length ≤ 4000 → L' = L ++ Q) ∧ (4000 < (L ++ Q).length → 4000 < L'.length)

theorem AP.plain (L Q : List UInt8) : AP L Q (L ++ Q) := ⟨fun _ => rfl, fun h => h⟩

theorem AP.trans {L Q1 M Q2 L' : List UInt8} (h1 : AP L Q1 M) (h2 : AP M Q2 L') : AP L (Q1 ++ Q2) L' := by
  refine ⟨fun h => ?_, fun h => ?_⟩
  · have hm := h1.1 (by simp at h ⊢; omega)
    have := h2.1 (by rw [hm]; simp at h ⊢; omega)
    rw [this, hm, List.append_assoc]
  · by_cases hs : (L ++ Q1).length ≤ 4000
    · have hm := h1.1 hs
      exact h2.2 (by rw [hm]; simp at h ⊢; omega)
    · have hm := h1.2 (by omega)
      exact h2.2 (by simp; omega)

theorem AP.long {L Q : List UInt8} (h : 4000 < L.length) : AP L Q L := ⟨fun h' => by simp at h'; omega, fun _ => h⟩

end Go.Proofs.YtdefjgbiinahdaaDoor
