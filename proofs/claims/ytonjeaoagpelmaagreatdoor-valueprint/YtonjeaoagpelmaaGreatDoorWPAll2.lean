/-
  What is proved here: see the remark of the text PAll2 (the parts of it that this seat needs).
-/
import Derived.Test.YtonjeaoagpelmaaGreatDoorWPAll
import Derived.Test.YtonjeaoagpelmaaGreatDoorShelf
namespace Go.Proofs.YtonjeaoagpelmaaGreatDoor
open Go.RowKit
set_option linter.unusedVariables false

/-- What is no list: some answer, and what OK tells. -/
theorem ck_plain (B : Nat) (w : World) (hB : B ≤ w.heap.size) (hT : Tabs B w) (d : Nat) (k n : Int) (s : ByteArray) (a : Option Addr) (l c lists : Nat) (L : List T) (h4 : k ≠ 4) (hs : s.size ≤ 9223372036854775807) (hin : InT (.node k n s L)) (hL : LiesS w L a l) : ∃ e, Own w (.agg #[.int .i64 k, .int .i64 n, .string s, .slice a l c]) lists e ∧ (e = 0 → Ck d (.node k n s L)) := by
  have hl := hL.length
  by_cases h3 : k = 3
  · subst h3
    have hv : ∀ w1, Below w.heap.size w w1 → ∀ w', Below w1.heap.size w1 w' → Calls Tryz.prog 10 #[.string s] w' fun e w'' => e = .returned (.bool (Lib.validD s.data.toList)) ∧ Below w'.heap.size w' w'' := fun w1 k1 w' k' => Tryz.utf8_ValidString s w' hs (hT.below ((below2 k1 k').mono hB)).now
    refine ⟨_, fun w' k => within_text n s a l c lists _ w' fun w2 k2 => checkText_any n s a l c (Lib.validD s.data.toList) w2 hs hl.2 (hv w2 (below2 k k2)), fun e => ?_⟩
    split at e
    · exact absurd e (by decide)
    · split at e
      · rename_i h1 h2
        obtain ⟨h2, rfl, h5⟩ := h2
        have e1 : L = [] := List.length_eq_zero_iff.1 (by omega)
        subst e1
        exact .text d s (by omega) h2
      · exact absurd e (by decide)
  · obtain ⟨z, hz0, hz1, hz2, hz3, hz4⟩ : ∃ z : Int, ((k = 0 ∧ n = 0 ∨ k = 1 ∧ (n = 0 ∨ n = 1) ∨ k = 2) → s = ⟨#[]⟩ → l = 0 → z = 0) ∧ (¬ (k = 0 ∧ n = 0 ∨ k = 1 ∧ (n = 0 ∨ n = 1) ∨ k = 2) → z = 6) ∧ (s ≠ ⟨#[]⟩ → z = 6) ∧ (l ≠ 0 → z = 6) ∧ (z = 0 → (k = 0 ∧ n = 0 ∨ k = 1 ∧ (n = 0 ∨ n = 1) ∨ k = 2) ∧ s = ⟨#[]⟩ ∧ l = 0) := by
      by_cases hk : (k = 0 ∧ n = 0 ∨ k = 1 ∧ (n = 0 ∨ n = 1) ∨ k = 2)
      · by_cases hs : s = ⟨#[]⟩
        · by_cases hl0 : l = 0
          · exact ⟨0, fun _ _ _ => rfl, fun h => absurd hk h, fun h => absurd hs h, fun h => absurd hl0 h, fun _ => ⟨hk, hs, hl0⟩⟩
          · exact ⟨6, fun _ _ h => absurd h hl0, fun _ => rfl, fun _ => rfl, fun _ => rfl, fun h => absurd h (by decide)⟩
        · exact ⟨6, fun _ h => absurd h hs, fun _ => rfl, fun _ => rfl, fun _ => rfl, fun h => absurd h (by decide)⟩
      · exact ⟨6, fun h => absurd h hk, fun _ => rfl, fun _ => rfl, fun _ => rfl, fun h => absurd h (by decide)⟩
    refine ⟨z, fun w' kk => within_plain k n s a l c lists z w' (by simpa using h4) (by simpa using h3) fun w2 k2 => checkPlain_any k n s a l c z w2 hz0 hz1 hz2 hz3 hl.2, fun e => ?_⟩
    obtain ⟨hk, rfl, h0⟩ := hz4 e
    have e1 : L = [] := List.length_eq_zero_iff.1 (by omega)
    subst e1
    unfold InT at hin
    rcases hk with ⟨rfl, rfl⟩ | ⟨rfl, h⟩ | rfl
    · exact .null d
    · exact .bool d n h
    · exact .int d n hin.1.1 hin.1.2

theorem ck_all (B : Nat) (w : World) (hB : B ≤ w.heap.size) (hT : Tabs B w) : ∀ (f lists : Nat), lists + f = 6 → ∀ (k n : Int) (s : ByteArray) (a : Option Addr) (l c : Nat) (L : List T), s.size ≤ 9223372036854775807 → InT (.node k n s L) → LiesS w L a l → ∃ e, Own w (.agg #[.int .i64 k, .int .i64 n, .string s, .slice a l c]) lists e ∧ (e = 0 → Ck f (.node k n s L)) := by
  intro f
  induction f with
  | zero =>
    intro lists hd k n s a l c L hs hin hL
    by_cases h4 : k = 4
    · subst h4
      exact ⟨2, fun w' k => within_list n s a l c lists 2 w' fun w2 k2 => checkList_many 4 n s a l c lists w2 hL.length.2 (.inr (by omega)), fun e => absurd e (by decide)⟩
    · exact ck_plain B w hB hT _ k n s a l c lists L h4 hs hin hL
  | succ f ih =>
    intro lists hd k n s a l c L hs hin hL
    by_cases h4 : k = 4
    · subst h4
      by_cases hm : 30 < l
      · exact ⟨2, fun w' k => within_list n s a l c lists 2 w' fun w2 k2 => checkList_many 4 n s a l c lists w2 hL.length.2 (.inl hm), fun e => absurd e (by decide)⟩
      · obtain ⟨z, hz0, hz1, hz2, hz3⟩ := bare_of n s
        by_cases h0 : l = 0
        · subst h0
          have e1 : L = [] := List.length_eq_zero_iff.1 hL.length.1.symm
          subst e1
          exact ⟨z, fun w' k => within_list n s a 0 c lists z w' fun w2 k2 => checkList_empty 4 n s a c lists z w2 (by omega) hz0 hz1 hz2, fun e => by obtain ⟨rfl, rfl⟩ := hz3 e; exact .list f [] (by simp) (fun t ht => by cases ht)⟩
        · obtain ⟨b, off, _, rfl, hb, _⟩ := hL.get (i := 0) (by omega)
          have hel : ∀ i, i < l → ∃ e, Own w ((valsAt w b off).at i) (lists + 1) e ∧ (e = 0 → ∀ t, L.drop i = t :: L.drop (i + 1) → Ck f t) := by
            intro i hi
            obtain ⟨kt, nt, st, Lt, at', lt, ct, _, hd', p0, p1, p2, p3, hlc, hLt, _, hst⟩ := hL.at2 hi
            rw [vals_at p0 p1 p2 p3]
            have hmem : T.node kt nt st Lt ∈ L := List.mem_of_mem_drop (by rw [hd']; exact List.mem_cons_self ..)
            obtain ⟨e, he, hwe⟩ := ih (lists + 1) (by omega) kt nt st at' lt ct Lt hst (InL.mem (by unfold InT at hin; exact hin.2) hmem) hLt
            refine ⟨e, he, fun e0 t ht => ?_⟩
            rw [hd'] at ht
            simp only [List.cons.injEq, and_true] at ht
            rw [← ht]
            exact hwe e0
          obtain ⟨es, hes⟩ : ∃ es : Nat → Int, ∀ i, i < l → Own w ((valsAt w b off).at i) (lists + 1) (es i) ∧ (es i = 0 → ∀ t, L.drop i = t :: L.drop (i + 1) → Ck f t) := by
            refine ⟨fun i => if h : i < l then Classical.choose (hel i h) else 0, fun i hi => ?_⟩
            have := Classical.choose_spec (hel i hi)
            simp only [dif_pos hi]
            exact this
          refine ⟨firstErr es 0 l z, fun w' k => ?_, fun e => ?_⟩
          · refine within_list n s (some ⟨b, off, none⟩) l c lists _ w' fun w2 k2 => ?_
            have kk := below2 k k2
            refine checkList_any 4 n s b off l c lists es (valsAt w b off) z w2 hz0 hz1 hz2 (by omega) (by omega) (by omega) (by have := kk.size; omega) (listAt_below hL.listAt hb kk) fun i hi w3 k3 => ?_
            have := (hes i hi).1 w3 (below2 kk k3)
            rw [show ((lists + 1 : Nat) : Int) = (lists : Int) + 1 from by omega] at this
            exact this
          · obtain ⟨hz, hall⟩ := firstErr_none es z l 0 e
            obtain ⟨rfl, rfl⟩ := hz3 hz
            refine .list f L (by rw [← hL.length.1]; omega) (fun t ht => ?_)
            obtain ⟨i, hi, hdi⟩ := mem_drop ht
            have hi' : i < l := by rw [hL.length.1]; exact hi
            have h0 := hall i hi'
            rw [Nat.zero_add] at h0
            exact (hes i hi').2 h0 t hdi
    · exact ck_plain B w hB hT _ k n s a l c lists L h4 hs hin hL

end Go.Proofs.YtonjeaoagpelmaaGreatDoor
