/-
  What is proved here: see the remark of the text SameW (the parts of it that this seat needs).
-/
import Derived.Test.YtonjeaoagpelmaaGreatDoorWLesser
namespace Go.Proofs.YtonjeaoagpelmaaGreatDoor
open Go.RowKit
set_option linter.unusedVariables false

/-- The value at a place of a list that lies. -/
theorem LiesS.get {w : World} : ∀ {L : List T} {a : Option Addr} {l : Nat} (h : LiesS w L a l) {i : Nat} (hi : i < l), ∃ b off t, a = some ⟨b, off, none⟩ ∧ b < w.heap.size ∧ L.drop i = t :: L.drop (i + 1) ∧ LiesT w t b (off + i * 4)
  | [], _, _, h, i, hi => by unfold LiesS at h; omega
  | t :: ts, a, l, h, i, hi => by
    unfold LiesS at h
    obtain ⟨b, off, ha, hl, _, hb, hT, hS⟩ := h
    cases i with
    | zero => exact ⟨b, off, t, ha, hb, rfl, by simpa using hT⟩
    | succ i =>
      obtain ⟨b', off', u, e, hb', hd, hU⟩ := LiesS.get hS (i := i) (by omega)
      simp only [Option.some.injEq, Addr.mk.injEq, and_true] at e
      obtain ⟨rfl, rfl⟩ := e
      refine ⟨b, off, u, ha, hb, hd, ?_⟩
      rw [show off + (i + 1) * 4 = off + 4 + i * 4 from by omega]
      exact hU

end Go.Proofs.YtonjeaoagpelmaaGreatDoor
