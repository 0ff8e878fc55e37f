/-
  What is proved here: value.Check answers OK only of a value whose lists, all the way down, bear no number and no text.
-/
import Derived.Test.YtkllapibpcgllaaDoorRefTree
import Derived.Test.YtkllapibpcgllaaDoorCheck
import Derived.Test.YtkllapibpcgllaaDoorReader
namespace Go.Proofs.YtkllapibpcgllaaDoor
open Go.RowKit
set_option linter.unusedVariables false

theorem isEmpty_yes : (⟨#[]⟩ : ByteArray).toList.isEmpty = true := by
  rw [ByteArray.toList_eq]
  rfl

set_option maxHeartbeats 2000000 in
theorem checkList_many (k n : Int) (s : ByteArray) (a : Option Addr) (l c : Nat) (lists : Int) (w : World) (hl : l ≤ 9223372036854775807) (h : 30 < l ∨ 6 ≤ lists) :
    Calls Tryd.prog 36 #[.agg #[.int .i64 k, .int .i64 n, .string s, .slice a l c], .int .i64 lists] w fun e w' => e = .returned (.int .i64 2) ∧ Below w.heap.size w w' := by
  by_cases h1 : 30 < l
  · have h1' : (30 : Int) < (l : Int) := by omega
    clear h h1
    go_enter Tryd.func36, Tryd.ntmps36
    go_wp2_with fail
    go_ret
    exact ⟨rfl, (Below.refl _ _).alloc (Nat.le_refl _) _⟩
  · have h1' : ¬ (30 : Int) < (l : Int) := by omega
    have h2 : (6 : Int) ≤ lists := by omega
    clear h h1
    go_enter Tryd.func36, Tryd.ntmps36
    go_wp2_with fail
    go_ret
    exact ⟨rfl, (Below.refl _ _).alloc (Nat.le_refl _) _⟩

set_option maxHeartbeats 2000000 in
set_option maxRecDepth 100000 in
theorem checkList_empty (k n : Int) (s : ByteArray) (a : Option Addr) (c : Nat) (lists z : Int) (w : World) (hl : lists < 6)
    (hz0 : n = 0 → s = ⟨#[]⟩ → z = 0) (hz1 : n ≠ 0 → z = 6) (hz2 : s ≠ ⟨#[]⟩ → z = 6) :
    Calls Tryd.prog 36 #[.agg #[.int .i64 k, .int .i64 n, .string s, .slice a 0 c], .int .i64 lists] w fun e w' => e = .returned (.int .i64 z) ∧ Below w.heap.size w w' := by
  have hB : ∀ o, Below w.heap.size w (w.alloc o) := fun o => (Below.refl _ _).alloc (Nat.le_refl _) _
  have HZ0 := toHid hz0
  have HZ1 := toHid hz1
  have HZ2 := toHid hz2
  clear hz0 hz1 hz2
  go_enter Tryd.func36, Tryd.ntmps36
  go_wp2_with fail
  go_loopg [19] 0 (fun g s19 wr => s19 = .int .i64 0 ∧ wr = w.alloc (.cells #[.int .i64 k, .int .i64 n, .string s, .slice a 0 c] 24))
  case atStart => exact ⟨rfl, rfl⟩
  case round =>
    obtain ⟨rfl, rfl⟩ := hrel
    by_cases hn : n = 0
    · subst hn
      by_cases hs : s = ⟨#[]⟩
      · subst hs
        have H3 := toHid (HZ0.out rfl rfl)
        clear HZ0 HZ1 HZ2
        go_wp2_with fail
        go_ret
        exact ⟨ret_int (by rw [H3.out]), hB _⟩
      · have H3 := toHid (HZ2.out hs)
        have hs' := isEmpty_no hs
        clear hs HZ0 HZ1 HZ2
        go_wp2_with fail
        go_ret
        exact ⟨ret_int (by rw [H3.out]), hB _⟩
    · have H3 := toHid (HZ1.out hn)
      clear HZ0 HZ1 HZ2
      go_wp2_with fail
      go_ret
      exact ⟨ret_int (by rw [H3.out]), hB _⟩

/-- value.checkWithin answers e, in every world that leaves what was there as it was. -/
def Own (w : World) (v : Value) (lists : Nat) (e : Int) : Prop :=
  ∀ w', Below w.heap.size w w' → Calls Tryd.prog 24 #[v, .int .i64 lists] w' fun r w'' => r = .returned (.int .i64 e) ∧ Below w'.heap.size w' w''

theorem firstErr_none (es : Nat → Int) (z : Int) : ∀ (m i : Nat), firstErr es i m z = 0 → z = 0 ∧ ∀ j, j < m → es (i + j) = 0
  | 0, i, h => ⟨h, fun j hj => absurd hj (Nat.not_lt_zero _)⟩
  | m + 1, i, h => by
    unfold firstErr at h
    split at h
    · rename_i h0
      obtain ⟨h1, h2⟩ := firstErr_none es z m (i + 1) h
      refine ⟨h1, fun j hj => ?_⟩
      cases j with
      | zero => exact h0
      | succ j =>
        have := h2 j (by omega)
        rw [show i + (j + 1) = i + 1 + j from by omega]
        exact this
    · rename_i h0
      exact absurd h h0

/-- What a list's number and text come to. -/
theorem bare_of (n : Int) (s : ByteArray) : ∃ z : Int, (n = 0 → s = ⟨#[]⟩ → z = 0) ∧ (n ≠ 0 → z = 6) ∧ (s ≠ ⟨#[]⟩ → z = 6) ∧ (z = 0 → n = 0 ∧ s = ⟨#[]⟩) := by
  by_cases hn : n = 0
  · by_cases hs : s = ⟨#[]⟩
    · exact ⟨0, fun _ _ => rfl, fun h => absurd hn h, fun h => absurd hs h, fun _ => ⟨hn, hs⟩⟩
    · exact ⟨6, fun _ h => absurd h hs, fun _ => rfl, fun _ => rfl, fun h => absurd h (by decide)⟩
  · exact ⟨6, fun h => absurd h hn, fun _ => rfl, fun _ => rfl, fun h => absurd h (by decide)⟩

theorem mem_drop {L : List T} {t : T} (h : t ∈ L) : ∃ i, i < L.length ∧ L.drop i = t :: L.drop (i + 1) := by
  obtain ⟨i, hi, e⟩ := List.getElem_of_mem h
  exact ⟨i, hi, by rw [List.drop_eq_getElem_cons hi, e]⟩

theorem well_plain (k n : Int) (s : ByteArray) (L : List T) (h : k ≠ 4) : Well (.node k n s L) := .node k n s L (fun e => absurd e h) (fun e => absurd e h)

/-- What is no list: some answer. -/
theorem own_plain (B : Nat) (w : World) (hB : B ≤ w.heap.size) (hT : Tabs B w) (k n : Int) (s : ByteArray) (a : Option Addr) (l c lists : Nat) (h4 : k ≠ 4) (hs : s.size ≤ 9223372036854775807) (hl : l ≤ 9223372036854775807) : ∃ e, Own w (.agg #[.int .i64 k, .int .i64 n, .string s, .slice a l c]) lists e := by
  by_cases h3 : k = 3
  · subst h3
    have hv : ∀ w1, Below w.heap.size w w1 → ∀ w', Below w1.heap.size w1 w' → Calls Tryd.prog 25 #[.string s] w' fun e w'' => e = .returned (.bool (Lib.validD s.data.toList)) ∧ Below w'.heap.size w' w'' := fun w1 k1 w' k' => Tryd.utf8_ValidString s w' hs (hT.below ((below2 k1 k').mono hB)).now
    exact ⟨_, fun w' k => within_text n s a l c lists _ w' fun w2 k2 => checkText_any n s a l c (Lib.validD s.data.toList) w2 hs hl (hv w2 (below2 k k2))⟩
  · obtain ⟨z, hz0, hz1, hz2, hz3⟩ : ∃ z : Int, ((k = 0 ∧ n = 0 ∨ k = 1 ∧ (n = 0 ∨ n = 1) ∨ k = 2) → s = ⟨#[]⟩ → l = 0 → z = 0) ∧ (¬ (k = 0 ∧ n = 0 ∨ k = 1 ∧ (n = 0 ∨ n = 1) ∨ k = 2) → z = 6) ∧ (s ≠ ⟨#[]⟩ → z = 6) ∧ (l ≠ 0 → z = 6) := by
      by_cases hk : (k = 0 ∧ n = 0 ∨ k = 1 ∧ (n = 0 ∨ n = 1) ∨ k = 2)
      · by_cases hs : s = ⟨#[]⟩
        · by_cases hl0 : l = 0
          · exact ⟨0, fun _ _ _ => rfl, fun h => absurd hk h, fun h => absurd hs h, fun h => absurd hl0 h⟩
          · exact ⟨6, fun _ _ h => absurd h hl0, fun _ => rfl, fun _ => rfl, fun _ => rfl⟩
        · exact ⟨6, fun _ h => absurd h hs, fun _ => rfl, fun _ => rfl, fun _ => rfl⟩
      · exact ⟨6, fun h => absurd h hk, fun _ => rfl, fun _ => rfl, fun _ => rfl⟩
    exact ⟨z, fun w' kk => within_plain k n s a l c lists z w' (by simpa using h4) (by simpa using h3) fun w2 k2 => checkPlain_any k n s a l c z w2 hz0 hz1 hz2 hz3 hl⟩

/-- The tree at a place, its text's length too. -/
theorem LiesS.at2 {w : World} {L : List T} {b off l : Nat} (h : LiesS w L (some ⟨b, off, none⟩) l) {i : Nat} (hi : i < l) : ∃ kt nt st Lt at' lt ct, b < w.heap.size ∧ L.drop i = .node kt nt st Lt :: L.drop (i + 1) ∧ w.cell? ⟨b, off + i * 4, none⟩ = some (.int .i64 kt) ∧ w.cell? ⟨b, off + i * 4 + 1, none⟩ = some (.int .i64 nt) ∧ w.cell? ⟨b, off + i * 4 + 1 + 1, none⟩ = some (.string st) ∧ w.cell? ⟨b, off + i * 4 + 1 + 1 + 1, none⟩ = some (.slice at' lt ct) ∧ lt ≤ ct ∧ LiesS w Lt at' lt ∧ True ∧ st.size ≤ 9223372036854775807 := by
  obtain ⟨b', off', t, e, hb, hd, hT⟩ := h.get hi
  simp only [Option.some.injEq, Addr.mk.injEq, and_true] at e
  obtain ⟨rfl, rfl⟩ := e
  obtain ⟨kt, nt, st, Lt⟩ := t
  unfold LiesT at hT
  obtain ⟨hst, at', lt, ct, p0, p1, p2, p3, hlc, hL⟩ := hT
  exact ⟨kt, nt, st, Lt, at', lt, ct, hb, hd, p0, p1, p2, p3, hlc, hL, trivial, hst⟩

theorem well_all (B : Nat) (w : World) (hB : B ≤ w.heap.size) (hT : Tabs B w) : ∀ (f lists : Nat), lists + f = 6 → ∀ (k n : Int) (s : ByteArray) (a : Option Addr) (l c : Nat) (L : List T), s.size ≤ 9223372036854775807 → LiesS w L a l → ∃ e, Own w (.agg #[.int .i64 k, .int .i64 n, .string s, .slice a l c]) lists e ∧ (e = 0 → Well (.node k n s L)) := by
  intro f
  induction f with
  | zero =>
    intro lists hd k n s a l c L hs hL
    by_cases h4 : k = 4
    · subst h4
      exact ⟨2, fun w' k => within_list n s a l c lists 2 w' fun w2 k2 => checkList_many 4 n s a l c lists w2 hL.length.2 (.inr (by omega)), fun e => absurd e (by decide)⟩
    · obtain ⟨e, he⟩ := own_plain B w hB hT k n s a l c lists h4 hs hL.length.2
      exact ⟨e, he, fun _ => well_plain k n s L h4⟩
  | succ f ih =>
    intro lists hd k n s a l c L hs hL
    by_cases h4 : k = 4
    · subst h4
      by_cases hm : 30 < l
      · exact ⟨2, fun w' k => within_list n s a l c lists 2 w' fun w2 k2 => checkList_many 4 n s a l c lists w2 hL.length.2 (.inl hm), fun e => absurd e (by decide)⟩
      · obtain ⟨z, hz0, hz1, hz2, hz3⟩ := bare_of n s
        by_cases h0 : l = 0
        · subst h0
          have e1 : L = [] := List.length_eq_zero_iff.1 hL.length.1.symm
          subst e1
          exact ⟨z, fun w' k => within_list n s a 0 c lists z w' fun w2 k2 => checkList_empty 4 n s a c lists z w2 (by omega) hz0 hz1 hz2, fun e => .node 4 n s [] (fun _ => hz3 e) (fun _ t ht => by cases ht)⟩
        · obtain ⟨b, off, _, rfl, hb, _⟩ := hL.get (i := 0) (by omega)
          have hel : ∀ i, i < l → ∃ e, Own w ((valsAt w b off).at i) (lists + 1) e ∧ (e = 0 → ∀ t, L.drop i = t :: L.drop (i + 1) → Well t) := by
            intro i hi
            obtain ⟨kt, nt, st, Lt, at', lt, ct, _, hd', p0, p1, p2, p3, hlc, hLt, _, hst⟩ := hL.at2 hi
            rw [vals_at p0 p1 p2 p3]
            obtain ⟨e, he, hwe⟩ := ih (lists + 1) (by omega) kt nt st at' lt ct Lt hst hLt
            refine ⟨e, he, fun e0 t ht => ?_⟩
            rw [hd'] at ht
            simp only [List.cons.injEq, and_true] at ht
            rw [← ht]
            exact hwe e0
          obtain ⟨es, hes⟩ : ∃ es : Nat → Int, ∀ i, i < l → Own w ((valsAt w b off).at i) (lists + 1) (es i) ∧ (es i = 0 → ∀ t, L.drop i = t :: L.drop (i + 1) → Well t) := by
            refine ⟨fun i => if h : i < l then Classical.choose (hel i h) else 0, fun i hi => ?_⟩
            have := Classical.choose_spec (hel i hi)
            simp only [dif_pos hi]
            exact this
          refine ⟨firstErr es 0 l z, fun w' k => ?_, fun e => ?_⟩
          · refine within_list n s (some ⟨b, off, none⟩) l c lists _ w' fun w2 k2 => ?_
            have kk := below2 k k2
            refine checkList_any 4 n s b off l c lists es (valsAt w b off) z w2 hz0 hz1 hz2 (by omega) (by omega) (by omega) (by have := kk.size; omega) (listAt_below hL.listAt hb kk) fun i hi w3 k3 => ?_
            have := (hes i hi).1 w3 (below2 kk k3)
            rw [show ((lists + 1 : Nat) : Int) = (lists : Int) + 1 from by omega] at this
            exact this
          · obtain ⟨hz, hall⟩ := firstErr_none es z l 0 e
            refine .node 4 n s L (fun _ => hz3 hz) (fun _ t ht => ?_)
            obtain ⟨i, hi, hdi⟩ := mem_drop ht
            have hi' : i < l := by rw [hL.length.1]; exact hi
            have h0 := hall i hi'
            rw [Nat.zero_add] at h0
            exact (hes i hi').2 h0 t hdi
    · obtain ⟨e, he⟩ := own_plain B w hB hT k n s a l c lists h4 hs hL.length.2
      exact ⟨e, he, fun _ => well_plain k n s L h4⟩
end Go.Proofs.YtkllapibpcgllaaDoor
