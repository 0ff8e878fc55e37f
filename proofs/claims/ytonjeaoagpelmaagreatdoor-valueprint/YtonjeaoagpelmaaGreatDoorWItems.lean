/-
  What is proved here: see the remark of the text Items (the parts of it that this seat needs).
-/
import Derived.Test.YtonjeaoagpelmaaGreatDoorWCheck
namespace Go.Proofs.YtonjeaoagpelmaaGreatDoor
open Go.RowKit
set_option linter.unusedVariables false

/-- A row of scalars, as one reads it. -/
def valsOf (l : List Item) : Vals := ⟨fun i => (l.getD i ⟨0, 0, ⟨#[]⟩, 0⟩).k, fun i => (l.getD i ⟨0, 0, ⟨#[]⟩, 0⟩).n, fun i => (l.getD i ⟨0, 0, ⟨#[]⟩, 0⟩).s, fun _ => none, fun _ => 0, fun _ => 0⟩

theorem rowOf_at (l : List Item) : ∀ i, i < l.length → (rowOf l)[i * 4]? = some (.int .i64 ((valsOf l).k i)) ∧ (rowOf l)[i * 4 + 1]? = some (.int .i64 ((valsOf l).n i)) ∧ (rowOf l)[i * 4 + 1 + 1]? = some (.string ((valsOf l).s i)) ∧ (rowOf l)[i * 4 + 1 + 1 + 1]? = some (.slice none 0 0) := by
  induction l with
  | nil => intro i hi; exact absurd hi (Nat.not_lt_zero _)
  | cons x l ih =>
    intro i hi
    have e : rowOf (x :: l) = [.int .i64 x.k, .int .i64 x.n, .string x.s, .slice none 0 0] ++ rowOf l := rfl
    rw [e]
    cases i with
    | zero => exact ⟨rfl, rfl, rfl, rfl⟩
    | succ i =>
      have hi' : i < l.length := by simpa using hi
      obtain ⟨h0, h1, h2, h3⟩ := ih i hi'
      have s0 : (i + 1) * 4 = i * 4 + 4 := by omega
      rw [s0]
      exact ⟨h0, h1, h2, h3⟩

theorem row_cell {B n : Nat} {e : TypeId} {g cap : Nat} {xs : List Value} {w : World} (h : w.ownsRow B e 4 (.slice (some ⟨g, 0, none⟩) n cap) n xs) (hn : 0 < n) (j : Nat) (u : Value) (hj : xs[j]? = some u) : w.cell? ⟨g, j, none⟩ = some u := by
  rcases h.2 with ⟨h0, _⟩ | ⟨g', cap', cur, e1, e2, e3, e4, e5, e6, e7⟩
  · simp at h0
  · simp at e1
    obtain ⟨rfl, _⟩ := e1
    rw [cell_of e3]
    rw [← e7] at hj
    rw [List.getElem?_take] at hj
    split at hj
    · simpa using hj
    · simp at hj

theorem items_at {B cap g : Nat} {l : List Item} {w : World} (h : w.ownsRow B 24 4 (.slice (some ⟨g, 0, none⟩) l.length cap) l.length (rowOf l)) : ListAt w g 0 l.length (valsOf l) := by
  intro i hi
  obtain ⟨h0, h1, h2, h3⟩ := rowOf_at l i hi
  have hn : 0 < l.length := by omega
  have z : 0 + i * 4 = i * 4 := by omega
  rw [z]
  exact ⟨row_cell h hn _ _ h0, row_cell h hn _ _ h1, row_cell h hn _ _ h2, row_cell h hn _ _ h3⟩

theorem row_lt {B n : Nat} {e : TypeId} {g cap : Nat} {xs : List Value} {w : World} (h : w.ownsRow B e 4 (.slice (some ⟨g, 0, none⟩) n cap) n xs) : B ≤ g ∧ g < w.heap.size := by
  rcases h.2 with ⟨h0, _⟩ | ⟨g', cap', cur, e1, e2, e3, _⟩
  · simp at h0
  · simp at e1
    obtain ⟨rfl, _⟩ := e1
    exact ⟨e2, (Array.getElem?_eq_some_iff.1 e3).1⟩

theorem firstErr_zero (es : Nat → Int) (h : ∀ i, es i = 0) : ∀ n i, firstErr es i n 0 = 0 := by
  intro n
  induction n with
  | zero => intro i; rfl
  | succ n ih => intro i; rw [firstErr, if_pos (h i), ih]

theorem listAt_below {w w' : World} {b off len : Nat} {V : Vals} (h : ListAt w b off len V) (hb : b < w.heap.size) (k : Below w.heap.size w w') : ListAt w' b off len V := by
  intro i hi
  obtain ⟨h0, h1, h2, h3⟩ := h i hi
  have c : ∀ o, w'.cell? ⟨b, o, none⟩ = w.cell? ⟨b, o, none⟩ := fun o => k.cell (p := ⟨b, o, none⟩) hb
  exact ⟨by rw [c]; exact h0, by rw [c]; exact h1, by rw [c]; exact h2, by rw [c]; exact h3⟩

/-- A list of values whose checks answer OK. -/
theorem check_list (b off len cap : Nat) (V : Vals) (w : World) (hlen : len ≤ 30) (hb : b < w.heap.size) (hat : ListAt w b off len V)
    (hel : ∀ i, i < len → ∀ w', Below w.heap.size w w' → Calls Tryz.prog 20 #[V.at i, .int .i64 1] w' fun e w'' => e = .returned (.int .i64 0) ∧ Below w'.heap.size w' w'') :
    Calls Tryz.prog 8 #[.agg #[.int .i64 4, .int .i64 0, .string ⟨#[]⟩, .slice (some ⟨b, off, none⟩) len cap]] w fun e w' => e = .returned (.int .i64 0) ∧ Below w.heap.size w w' := by
  refine check_of 4 0 ⟨#[]⟩ (some ⟨b, off, none⟩) len cap 0 w fun w1 k1 => ?_
  refine within_list 0 ⟨#[]⟩ (some ⟨b, off, none⟩) len cap 0 0 w1 fun w2 k2 => ?_
  have hb1 : b < w1.heap.size := by have := k1.size; omega
  have hb2 : b < w2.heap.size := by have := k2.size; omega
  have hat2 := listAt_below (listAt_below hat hb k1) hb1 k2
  have := checkList_any 4 0 ⟨#[]⟩ b off len cap 0 (fun _ => 0) V 0 w2 (fun _ _ => rfl) (fun h => absurd rfl h) (fun h => absurd rfl h) hlen (by omega) (by omega) hb2 hat2
    (fun i hi w' k' => hel i hi w' ((k1.trans (k2.mono k1.size)).trans (k'.mono (Nat.le_trans k1.size k2.size))))
  rw [firstErr_zero _ (fun _ => rfl)] at this
  exact this

end Go.Proofs.YtonjeaoagpelmaaGreatDoor
