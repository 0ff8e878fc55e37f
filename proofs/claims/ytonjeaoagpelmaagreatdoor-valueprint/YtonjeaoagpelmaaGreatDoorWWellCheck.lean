/-
  What is proved here: see the remark of the text WellCheck (the parts of it that this seat needs).
-/
import Derived.Test.YtonjeaoagpelmaaGreatDoorWRefTree
namespace Go.Proofs.YtonjeaoagpelmaaGreatDoor
open Go.RowKit
set_option linter.unusedVariables false

/-- value.checkWithin answers e, in every world that leaves what was there as it was. -/
def Own (w : World) (v : Value) (lists : Nat) (e : Int) : Prop :=
  ∀ w', Below w.heap.size w w' → Calls Tryz.prog 20 #[v, .int .i64 lists] w' fun r w'' => r = .returned (.int .i64 e) ∧ Below w'.heap.size w' w''

theorem firstErr_none (es : Nat → Int) (z : Int) : ∀ (m i : Nat), firstErr es i m z = 0 → z = 0 ∧ ∀ j, j < m → es (i + j) = 0
  | 0, i, h => ⟨h, fun j hj => absurd hj (Nat.not_lt_zero _)⟩
  | m + 1, i, h => by
    unfold firstErr at h
    split at h
    · rename_i h0
      obtain ⟨h1, h2⟩ := firstErr_none es z m (i + 1) h
      refine ⟨h1, fun j hj => ?_⟩
      cases j with
      | zero => exact h0
      | succ j =>
        have := h2 j (by omega)
        rw [show i + (j + 1) = i + 1 + j from by omega]
        exact this
    · rename_i h0
      exact absurd h h0

/-- What a list's number and text come to. -/
theorem bare_of (n : Int) (s : ByteArray) : ∃ z : Int, (n = 0 → s = ⟨#[]⟩ → z = 0) ∧ (n ≠ 0 → z = 6) ∧ (s ≠ ⟨#[]⟩ → z = 6) ∧ (z = 0 → n = 0 ∧ s = ⟨#[]⟩) := by
  by_cases hn : n = 0
  · by_cases hs : s = ⟨#[]⟩
    · exact ⟨0, fun _ _ => rfl, fun h => absurd hn h, fun h => absurd hs h, fun _ => ⟨hn, hs⟩⟩
    · exact ⟨6, fun _ h => absurd h hs, fun _ => rfl, fun _ => rfl, fun h => absurd h (by decide)⟩
  · exact ⟨6, fun h => absurd h hn, fun _ => rfl, fun _ => rfl, fun h => absurd h (by decide)⟩

theorem mem_drop {L : List T} {t : T} (h : t ∈ L) : ∃ i, i < L.length ∧ L.drop i = t :: L.drop (i + 1) := by
  obtain ⟨i, hi, e⟩ := List.getElem_of_mem h
  exact ⟨i, hi, by rw [List.drop_eq_getElem_cons hi, e]⟩

/-- The tree at a place, its text's length too. -/
theorem LiesS.at2 {w : World} {L : List T} {b off l : Nat} (h : LiesS w L (some ⟨b, off, none⟩) l) {i : Nat} (hi : i < l) : ∃ kt nt st Lt at' lt ct, b < w.heap.size ∧ L.drop i = .node kt nt st Lt :: L.drop (i + 1) ∧ w.cell? ⟨b, off + i * 4, none⟩ = some (.int .i64 kt) ∧ w.cell? ⟨b, off + i * 4 + 1, none⟩ = some (.int .i64 nt) ∧ w.cell? ⟨b, off + i * 4 + 1 + 1, none⟩ = some (.string st) ∧ w.cell? ⟨b, off + i * 4 + 1 + 1 + 1, none⟩ = some (.slice at' lt ct) ∧ lt ≤ ct ∧ LiesS w Lt at' lt ∧ True ∧ st.size ≤ 9223372036854775807 := by
  obtain ⟨b', off', t, e, hb, hd, hT⟩ := h.get hi
  simp only [Option.some.injEq, Addr.mk.injEq, and_true] at e
  obtain ⟨rfl, rfl⟩ := e
  obtain ⟨kt, nt, st, Lt⟩ := t
  unfold LiesT at hT
  obtain ⟨hst, at', lt, ct, p0, p1, p2, p3, hlc, hL⟩ := hT
  exact ⟨kt, nt, st, Lt, at', lt, ct, hb, hd, p0, p1, p2, p3, hlc, hL, trivial, hst⟩

end Go.Proofs.YtonjeaoagpelmaaGreatDoor
