/-
  What is proved here: value.checkWithin and espalierref.CheckValue answer the same of every value that lies in memory, whatever it is.
-/
import Derived.Test.YtkllapibpcgllaaDoorRefCheck
import Derived.Test.YtkllapibpcgllaaDoorFine
import Derived.Test.YtkllapibpcgllaaDoorValued
namespace Go.Proofs.YtkllapibpcgllaaDoor
open Go.RowKit
set_option linter.unusedVariables false

/-- Both answer e, in every world that leaves what was there as it was. -/
def Both (w : World) (v : Value) (lists : Nat) (e : Int) : Prop :=
  ∀ w', Below w.heap.size w w' → (Calls Tryd.prog 24 #[v, .int .i64 lists] w' fun r w'' => r = .returned (.int .i64 e) ∧ Below w'.heap.size w' w'') ∧ (Calls Tryd.prog 10 #[v, .int .i64 ((lists : Int) + 1)] w' fun r w'' => r = .returned (.int .i64 e) ∧ Below w'.heap.size w' w'')

theorem below_two {w w1 w2 : World} (h : Below w.heap.size w w1) (k : Below w1.heap.size w1 w2) : Below w.heap.size w w2 := h.trans (k.mono h.size)

theorem both_list_empty (w : World) (n : Int) (s : ByteArray) (a : Option Addr) (c lists : Nat) (hl : lists < 6) : ∃ e, Both w (.agg #[.int .i64 4, .int .i64 n, .string s, .slice a 0 c]) lists e := by
  obtain ⟨z, hz0, hz1, hz2⟩ : ∃ z : Int, (n = 0 → s = ⟨#[]⟩ → z = 0) ∧ (n ≠ 0 → z = 6) ∧ (s ≠ ⟨#[]⟩ → z = 6) := by
    by_cases hn : n = 0
    · by_cases hs : s = ⟨#[]⟩
      · exact ⟨0, fun _ _ => rfl, fun h => absurd hn h, fun h => absurd hs h⟩
      · exact ⟨6, fun _ h => absurd h hs, fun _ => rfl, fun _ => rfl⟩
    · exact ⟨6, fun h => absurd h hn, fun _ => rfl, fun _ => rfl⟩
  refine ⟨z, fun w' k => ⟨?_, ?_⟩⟩
  · exact within_list n s a 0 c lists z w' fun w2 k2 => checkList_empty 4 n s a c lists z w2 (by omega) hz0 hz1 hz2
  · exact ref_empty n s a c (lists + 1) z w' (by omega) hz0 hz1 hz2

theorem both_list_many (w : World) (n : Int) (s : ByteArray) (a : Option Addr) (l c lists : Nat) (hl : l ≤ 9223372036854775807) (h : 30 < l ∨ 6 ≤ lists) : Both w (.agg #[.int .i64 4, .int .i64 n, .string s, .slice a l c]) lists 2 := by
  intro w' k
  refine ⟨?_, ?_⟩
  · exact within_list n s a l c lists 2 w' fun w2 k2 => checkList_many 4 n s a l c lists w2 hl (by omega)
  · exact ref_many n s a l c (lists + 1) w' hl (by omega)

theorem both_list (w : World) (n : Int) (s : ByteArray) (b off l c lists : Nat) (V : Vals) (hl : l ≤ 30) (hd : lists < 6) (hb : b < w.heap.size) (hat : ListAt w b off l V)
    (hel : ∀ i, i < l → ∃ e, Both w (V.at i) (lists + 1) e) : ∃ e, Both w (.agg #[.int .i64 4, .int .i64 n, .string s, .slice (some ⟨b, off, none⟩) l c]) lists e := by
  obtain ⟨z, hz0, hz1, hz2⟩ : ∃ z : Int, (n = 0 → s = ⟨#[]⟩ → z = 0) ∧ (n ≠ 0 → z = 6) ∧ (s ≠ ⟨#[]⟩ → z = 6) := by
    by_cases hn : n = 0
    · by_cases hs : s = ⟨#[]⟩
      · exact ⟨0, fun _ _ => rfl, fun h => absurd hn h, fun h => absurd hs h⟩
      · exact ⟨6, fun _ h => absurd h hs, fun _ => rfl, fun _ => rfl⟩
    · exact ⟨6, fun h => absurd h hn, fun _ => rfl, fun _ => rfl⟩
  obtain ⟨es, hes⟩ : ∃ es : Nat → Int, ∀ i, i < l → Both w (V.at i) (lists + 1) (es i) := by
    refine ⟨fun i => if h : i < l then Classical.choose (hel i h) else 0, fun i hi => ?_⟩
    have := Classical.choose_spec (hel i hi)
    simp only [dif_pos hi]
    exact this
  refine ⟨firstErr es 0 l z, fun w' k => ⟨?_, ?_⟩⟩
  · refine within_list n s (some ⟨b, off, none⟩) l c lists _ w' fun w2 k2 => ?_
    have kk := below_two k k2
    refine checkList_any 4 n s b off l c lists es V z w2 hz0 hz1 hz2 hl (by omega) (by omega) (by have := kk.size; omega) (listAt_below hat hb kk) fun i hi w3 k3 => ?_
    have := (hes i hi w3 (below_two kk k3)).1
    rw [show ((lists + 1 : Nat) : Int) = (lists : Int) + 1 from by omega] at this
    exact this
  · refine ref_list n s b off l c (lists + 1) es V z w' hz0 hz1 hz2 hl (by omega) (by omega) (by have := k.size; omega) (listAt_below hat hb k) fun i hi w3 k3 => ?_
    have := (hes i hi w3 (below_two k k3)).2
    rw [show ((lists + 1 : Nat) : Int) = (lists : Int) + 1 from by omega] at this
    exact this

theorem both_text (B : Nat) (w : World) (hB : B ≤ w.heap.size) (hT : Tabs B w) (n : Int) (s : ByteArray) (a : Option Addr) (l c lists : Nat) (hs : s.size ≤ 9223372036854775807) (hl : l ≤ 9223372036854775807) : ∃ e, Both w (.agg #[.int .i64 3, .int .i64 n, .string s, .slice a l c]) lists e := by
  have hv : ∀ w1, Below w.heap.size w w1 → ∀ w', Below w1.heap.size w1 w' → Calls Tryd.prog 25 #[.string s] w' fun e w'' => e = .returned (.bool (Lib.validD s.data.toList)) ∧ Below w'.heap.size w' w'' := fun w1 k1 w' k' => Tryd.utf8_ValidString s w' hs (hT.below ((below_two k1 k').mono hB)).now
  refine ⟨if s.size > 4000 then 2 else if Lib.validD s.data.toList = true ∧ n = 0 ∧ l = 0 then 0 else 6, fun w' k => ⟨?_, ?_⟩⟩
  rotate_left
  · exact ref_text n s a l c (lists + 1) (Lib.validD s.data.toList) _ w' hs hl rfl (hv w' k)
  · exact within_text n s a l c lists _ w' fun w2 k2 => checkText_any n s a l c (Lib.validD s.data.toList) w2 hs hl (hv w2 (below_two k k2))

theorem both_plain (w : World) (k n : Int) (s : ByteArray) (a : Option Addr) (l c lists : Nat) (hl : l ≤ 9223372036854775807) (h4 : k ≠ 4) (h3 : k ≠ 3) : ∃ e, Both w (.agg #[.int .i64 k, .int .i64 n, .string s, .slice a l c]) lists e := by
  obtain ⟨z, hz0, hz1, hz2, hz3⟩ : ∃ z : Int, ((k = 0 ∧ n = 0 ∨ k = 1 ∧ (n = 0 ∨ n = 1) ∨ k = 2) → s = ⟨#[]⟩ → l = 0 → z = 0) ∧ (¬ (k = 0 ∧ n = 0 ∨ k = 1 ∧ (n = 0 ∨ n = 1) ∨ k = 2) → z = 6) ∧ (s ≠ ⟨#[]⟩ → z = 6) ∧ (l ≠ 0 → z = 6) := by
    by_cases hk : (k = 0 ∧ n = 0 ∨ k = 1 ∧ (n = 0 ∨ n = 1) ∨ k = 2)
    · by_cases hs : s = ⟨#[]⟩
      · by_cases hl0 : l = 0
        · exact ⟨0, fun _ _ _ => rfl, fun h => absurd hk h, fun h => absurd hs h, fun h => absurd hl0 h⟩
        · exact ⟨6, fun _ _ h => absurd h hl0, fun _ => rfl, fun _ => rfl, fun _ => rfl⟩
      · exact ⟨6, fun _ h => absurd h hs, fun _ => rfl, fun _ => rfl, fun _ => rfl⟩
    · exact ⟨6, fun h => absurd h hk, fun _ => rfl, fun _ => rfl, fun _ => rfl⟩
  refine ⟨z, fun w' kk => ⟨?_, ?_⟩⟩
  · exact within_plain k n s a l c lists z w' (by simpa using h4) (by simpa using h3) fun w2 k2 => checkPlain_any k n s a l c z w2 hz0 hz1 hz2 hz3 hl
  · exact ref_plain k n s a l c (lists + 1) z w' hl (by simpa using h4) (by simpa using h3) hz0 hz1 hz2 hz3

theorem both_all (B : Nat) (w : World) (hB : B ≤ w.heap.size) (hT : Tabs B w) : ∀ (f lists : Nat), lists + f = 6 → ∀ (k n : Int) (s : ByteArray) (a : Option Addr) (l c : Nat), l ≤ 9223372036854775807 → Fine w f s a l → ∃ e, Both w (.agg #[.int .i64 k, .int .i64 n, .string s, .slice a l c]) lists e := by
  intro f
  induction f with
  | zero =>
    intro lists hd k n s a l c hl hf
    by_cases h4 : k = 4
    · subst h4
      exact ⟨2, both_list_many w n s a l c lists hl (.inr (by omega))⟩
    · by_cases h3 : k = 3
      · subst h3
        exact both_text B w hB hT n s a l c lists hf.bounds.1 hf.bounds.2
      · exact both_plain w k n s a l c lists hf.bounds.2 h4 h3
  | succ f ih =>
    intro lists hd k n s a l c hl hf
    by_cases h4 : k = 4
    · subst h4
      by_cases hm : 30 < l
      · exact ⟨2, both_list_many w n s a l c lists hl (.inl hm)⟩
      · rcases hf.2.2 with rfl | ⟨b, off, rfl, hb, hat, hel⟩
        · exact both_list_empty w n s a c lists (by omega)
        · refine both_list w n s b off l c lists (valsAt w b off) (by omega) (by omega) hb hat fun i hi => ?_
          have hfi := hel i hi
          exact ih (lists + 1) (by omega) _ _ _ _ _ _ hfi.bounds.2 hfi
    · by_cases h3 : k = 3
      · subst h3
        exact both_text B w hB hT n s a l c lists hf.bounds.1 hf.bounds.2
      · exact both_plain w k n s a l c lists hf.bounds.2 h4 h3
end Go.Proofs.YtkllapibpcgllaaDoor
