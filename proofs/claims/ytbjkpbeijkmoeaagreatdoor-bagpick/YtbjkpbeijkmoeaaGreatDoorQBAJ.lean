/-
  What is proved here: what the texts KIff, BChkT, BRow, BChk prove, in one text.
-/
import Derived.Test.YtbjkpbeijkmoeaaGreatDoorQBAA
import Derived.Test.YtbjkpbeijkmoeaaGreatDoorQBAH
import Derived.Test.YtbjkpbeijkmoeaaGreatDoorQBAI
namespace Go.Proofs.YtbjkpbeijkmoeaaGreatDoor
open Go.RowKit
set_option linter.unusedVariables false

theorem firstErr_zero (es : Nat → Int) (z : Int) : ∀ (n i : Nat), (∀ j, j < n → es (i + j) = 0) → firstErr es i n z = z
  | 0, i, _ => by simp [firstErr]
  | n + 1, i, h => by
    have h0 := h 0 (by omega)
    rw [Nat.add_zero] at h0
    rw [firstErr, if_pos h0]
    exact firstErr_zero es z n (i + 1) fun j hj => by
      have := h (j + 1) (by omega)
      rw [show i + 1 + j = i + (j + 1) from by omega]
      exact this

theorem bi_plain (B : Nat) (w : World) (hB : B ≤ w.heap.size) (hT : Tabs B w) (d : Nat) (k n : Int) (s : ByteArray) (a : Option Addr) (l c lists : Nat) (L : List T) (h4 : k ≠ 4) (hs : s.size ≤ 9223372036854775807) (hin : InT (.node k n s L)) (hL : LiesS w L a l) : ∃ e, Both w (.agg #[.int .i64 k, .int .i64 n, .string s, .slice a l c]) lists e ∧ (e = 0 → Ck d (.node k n s L)) ∧ (Ck d (.node k n s L) → e = 0) := by
  have hl := hL.length
  by_cases h3 : k = 3
  · subst h3
    have hv : ∀ w1, Below w.heap.size w w1 → ∀ w', Below w1.heap.size w1 w' → Calls Tryz.prog 64 #[.string s] w' fun e w'' => e = .returned (.bool (Lib.validD s.data.toList)) ∧ Below w'.heap.size w' w'' := fun w1 k1 w' k' => Tryz.utf8_ValidString s w' hs (hT.below ((below2 k1 k').mono hB)).now
    refine ⟨if s.size > 4000 then 2 else if Lib.validD s.data.toList = true ∧ n = 0 ∧ l = 0 then 0 else 6, fun w' k => ⟨within_text n s a l c lists _ w' fun w2 k2 => checkText_any n s a l c (Lib.validD s.data.toList) w2 hs hl.2 (hv w2 (below2 k k2)), by first | exact ref_text n s a l c (lists + 1) (Lib.validD s.data.toList) _ w' hs hl.2 rfl (hv w' k) | exact trivial⟩, fun e => ?_, fun h => by cases h with | text _ _ g0 g1 => rw [if_neg (by omega), if_pos ⟨g1, rfl, hl.1⟩]⟩
    split at e
    · exact absurd e (by decide)
    · split at e
      · rename_i h1 h2
        obtain ⟨h2, rfl, h5⟩ := h2
        have e1 : L = [] := List.length_eq_zero_iff.1 (by omega)
        subst e1
        exact .text d s (by omega) h2
      · exact absurd e (by decide)
  · obtain ⟨z, hz0, hz1, hz2, hz3, hz4⟩ : ∃ z : Int, ((k = 0 ∧ n = 0 ∨ k = 1 ∧ (n = 0 ∨ n = 1) ∨ k = 2) → s = ⟨#[]⟩ → l = 0 → z = 0) ∧ (¬ (k = 0 ∧ n = 0 ∨ k = 1 ∧ (n = 0 ∨ n = 1) ∨ k = 2) → z = 6) ∧ (s ≠ ⟨#[]⟩ → z = 6) ∧ (l ≠ 0 → z = 6) ∧ (z = 0 → (k = 0 ∧ n = 0 ∨ k = 1 ∧ (n = 0 ∨ n = 1) ∨ k = 2) ∧ s = ⟨#[]⟩ ∧ l = 0) := by
      by_cases hk : (k = 0 ∧ n = 0 ∨ k = 1 ∧ (n = 0 ∨ n = 1) ∨ k = 2)
      · by_cases hs : s = ⟨#[]⟩
        · by_cases hl0 : l = 0
          · exact ⟨0, fun _ _ _ => rfl, fun h => absurd hk h, fun h => absurd hs h, fun h => absurd hl0 h, fun _ => ⟨hk, hs, hl0⟩⟩
          · exact ⟨6, fun _ _ h => absurd h hl0, fun _ => rfl, fun _ => rfl, fun _ => rfl, fun h => absurd h (by decide)⟩
        · exact ⟨6, fun _ h => absurd h hs, fun _ => rfl, fun _ => rfl, fun _ => rfl, fun h => absurd h (by decide)⟩
      · exact ⟨6, fun h => absurd h hk, fun _ => rfl, fun _ => rfl, fun _ => rfl, fun h => absurd h (by decide)⟩
    refine ⟨z, fun w' kk => ⟨within_plain k n s a l c lists z w' (by simpa using h4) (by simpa using h3) fun w2 k2 => checkPlain_any k n s a l c z w2 hz0 hz1 hz2 hz3 hl.2, by first | exact ref_plain k n s a l c (lists + 1) z w' hl.2 (by simpa using h4) (by simpa using h3) hz0 hz1 hz2 hz3 | exact trivial⟩, fun e => ?_, fun h => ?_⟩
    rotate_left
    · cases h with
      | null => exact hz0 (.inl ⟨rfl, rfl⟩) rfl hl.1
      | bool _ _ g => exact hz0 (.inr (.inl ⟨rfl, g⟩)) rfl hl.1
      | int => exact hz0 (.inr (.inr rfl)) rfl hl.1
      | text => exact absurd rfl h3
      | list => exact absurd rfl h4
    obtain ⟨hk, rfl, h0⟩ := hz4 e
    have e1 : L = [] := List.length_eq_zero_iff.1 (by omega)
    subst e1
    unfold InT at hin
    rcases hk with ⟨rfl, rfl⟩ | ⟨rfl, h⟩ | rfl
    · exact .null d
    · exact .bool d n h
    · exact .int d n hin.1.1 hin.1.2

theorem bi_all (B : Nat) (w : World) (hB : B ≤ w.heap.size) (hT : Tabs B w) : ∀ (f lists : Nat), lists + f = 6 → ∀ (k n : Int) (s : ByteArray) (a : Option Addr) (l c : Nat) (L : List T), s.size ≤ 9223372036854775807 → InT (.node k n s L) → LiesS w L a l → ∃ e, Both w (.agg #[.int .i64 k, .int .i64 n, .string s, .slice a l c]) lists e ∧ (e = 0 → Ck f (.node k n s L)) ∧ (Ck f (.node k n s L) → e = 0) := by
  intro f
  induction f with
  | zero =>
    intro lists hd k n s a l c L hs hin hL
    by_cases h4 : k = 4
    · subst h4
      exact ⟨2, both_list_many w n s a l c lists hL.length.2 (.inr (by omega)), fun e => absurd e (by decide), fun h => by cases h⟩
    · exact bi_plain B w hB hT _ k n s a l c lists L h4 hs hin hL
  | succ f ih =>
    intro lists hd k n s a l c L hs hin hL
    by_cases h4 : k = 4
    · subst h4
      by_cases hm : 30 < l
      · exact ⟨2, both_list_many w n s a l c lists hL.length.2 (.inl hm), fun e => absurd e (by decide), fun h => by cases h with | list _ _ g0 g1 => have := hL.length.1; omega⟩
      · obtain ⟨z, hz0, hz1, hz2, hz3⟩ := bare_of n s
        by_cases h0 : l = 0
        · subst h0
          have e1 : L = [] := List.length_eq_zero_iff.1 hL.length.1.symm
          subst e1
          exact ⟨z, fun w' k => ⟨within_list n s a 0 c lists z w' fun w2 k2 => checkList_empty 4 n s a c lists z w2 (by omega) hz0 hz1 hz2, by first | exact ref_empty n s a c (lists + 1) z w' (by omega) hz0 hz1 hz2 | exact trivial⟩, fun e => by obtain ⟨rfl, rfl⟩ := hz3 e; exact .list f [] (by simp) (fun t ht => by cases ht), fun h => by cases h with | list _ _ g0 g1 => exact hz0 rfl rfl⟩
        · obtain ⟨b, off, _, rfl, hb, _⟩ := hL.get (i := 0) (by omega)
          have hel : ∀ i, i < l → ∃ e, Both w ((valsAt w b off).at i) (lists + 1) e ∧ (e = 0 → ∀ t, L.drop i = t :: L.drop (i + 1) → Ck f t) ∧ ((∀ t ∈ L, Ck f t) → e = 0) := by
            intro i hi
            obtain ⟨kt, nt, st, Lt, at', lt, ct, _, hd', p0, p1, p2, p3, hlc, hLt, _, hst⟩ := hL.at2 hi
            rw [vals_at p0 p1 p2 p3]
            have hmem : T.node kt nt st Lt ∈ L := List.mem_of_mem_drop (by rw [hd']; exact List.mem_cons_self ..)
            obtain ⟨e, he, hwe, hwi⟩ := ih (lists + 1) (by omega) kt nt st at' lt ct Lt hst (InL.mem (by unfold InT at hin; exact hin.2) hmem) hLt
            refine ⟨e, he, fun e0 t ht => ?_, fun h => hwi (h _ hmem)⟩
            rw [hd'] at ht
            simp only [List.cons.injEq, and_true] at ht
            rw [← ht]
            exact hwe e0
          obtain ⟨es, hes⟩ : ∃ es : Nat → Int, ∀ i, i < l → Both w ((valsAt w b off).at i) (lists + 1) (es i) ∧ (es i = 0 → ∀ t, L.drop i = t :: L.drop (i + 1) → Ck f t) ∧ ((∀ t ∈ L, Ck f t) → es i = 0) := by
            refine ⟨fun i => if h : i < l then Classical.choose (hel i h) else 0, fun i hi => ?_⟩
            have := Classical.choose_spec (hel i hi)
            simp only [dif_pos hi]
            exact this
          refine ⟨firstErr es 0 l z, fun w' k => ⟨?_, ?_⟩, fun e => ?_, fun h => ?_⟩
          · refine within_list n s (some ⟨b, off, none⟩) l c lists _ w' fun w2 k2 => ?_
            have kk := below2 k k2
            refine checkList_any 4 n s b off l c lists es (valsAt w b off) z w2 hz0 hz1 hz2 (by omega) (by omega) (by omega) (by have := kk.size; omega) (listAt_below hL.listAt hb kk) fun i hi w3 k3 => ?_
            have := ((hes i hi).1 w3 (below2 kk k3)).1
            rw [show ((lists + 1 : Nat) : Int) = (lists : Int) + 1 from by omega] at this
            exact this
          · first
            | exact trivial
            | (refine ref_list n s b off l c (lists + 1) es (valsAt w b off) z w' hz0 hz1 hz2 (by omega) (by omega) (by omega) (by have := k.size; omega) (listAt_below hL.listAt hb k) fun i hi w3 k3 => ?_
               have := ((hes i hi).1 w3 (below2 k k3)).2
               rw [show ((lists + 1 : Nat) : Int) = (lists : Int) + 1 from by omega] at this
               exact this)
          · obtain ⟨hz, hall⟩ := firstErr_none es z l 0 e
            obtain ⟨rfl, rfl⟩ := hz3 hz
            refine .list f L (by rw [← hL.length.1]; omega) (fun t ht => ?_)
            obtain ⟨i, hi, hdi⟩ := mem_drop ht
            have hi' : i < l := by rw [hL.length.1]; exact hi
            have h0 := hall i hi'
            rw [Nat.zero_add] at h0
            exact (hes i hi').2.1 h0 t hdi
          · cases h with
            | list _ _ g0 g1 => rw [firstErr_zero es z l 0 (fun i hi => by rw [Nat.zero_add]; exact (hes i hi).2.2 g1)]; exact hz0 rfl rfl
    · exact bi_plain B w hB hT _ k n s a l c lists L h4 hs hin hL

/-- What is told of a value that is no list. -/
def plainE (k n : Int) (s : ByteArray) (l : Nat) : Int := if k = 3 then (if s.size > 4000 then 2 else if Lib.validD s.data.toList = true ∧ n = 0 ∧ l = 0 then 0 else 6) else if (k = 0 ∧ n = 0 ∨ k = 1 ∧ (n = 0 ∨ n = 1) ∨ k = 2) ∧ s = ⟨#[]⟩ ∧ l = 0 then 0 else 6

def bareE (n : Int) (s : ByteArray) : Int := if n = 0 ∧ s = ⟨#[]⟩ then 0 else 6

/-- The first that isn't 0, or this. -/
def firstZ : List Int → Int → Int
  | [], z => z
  | e :: es, z => if e = 0 then firstZ es z else e

/-- What is told of a value within so many lists. -/
def chk : Nat → T → Int
  | 0, .node k n s L => if k = 4 then 2 else plainE k n s L.length
  | f + 1, .node k n s L => if k = 4 then (if 30 < L.length then 2 else firstZ (L.map (chk f)) (bareE n s)) else plainE k n s L.length

theorem firstErr_list (es : Nat → Int) (z : Int) : ∀ (E : List Int) (i : Nat), (∀ j, (h : j < E.length) → es (i + j) = E[j]) → firstErr es i E.length z = firstZ E z
  | [], i, _ => rfl
  | e :: E, i, h => by
    have h0 : es i = e := h 0 (by simp)
    show (if es i = 0 then firstErr es (i + 1) E.length z else es i) = if e = 0 then firstZ E z else e
    rw [h0, firstErr_list es z E (i + 1) fun j hj => by
      have := h (j + 1) (by simpa using hj)
      rw [show i + 1 + j = i + (j + 1) from by omega]
      simpa using this]

theorem bc_plain (B : Nat) (w : World) (hB : B ≤ w.heap.size) (hT : Tabs B w) (d : Nat) (k n : Int) (s : ByteArray) (a : Option Addr) (l c lists : Nat) (L : List T) (h4 : k ≠ 4) (hs : s.size ≤ 9223372036854775807) (hin : InT (.node k n s L)) (hL : LiesS w L a l) : Both w (.agg #[.int .i64 k, .int .i64 n, .string s, .slice a l c]) lists (plainE k n s L.length) := by
  have hl := hL.length
  rw [← hl.1]
  by_cases h3 : k = 3
  · subst h3
    have hv : ∀ w1, Below w.heap.size w w1 → ∀ w', Below w1.heap.size w1 w' → Calls Tryz.prog 64 #[.string s] w' fun e w'' => e = .returned (.bool (Lib.validD s.data.toList)) ∧ Below w'.heap.size w' w'' := fun w1 k1 w' k' => Tryz.utf8_ValidString s w' hs (hT.below ((below2 k1 k').mono hB)).now
    have e0 : plainE 3 n s l = if s.size > 4000 then 2 else if Lib.validD s.data.toList = true ∧ n = 0 ∧ l = 0 then 0 else 6 := rfl
    rw [e0]
    exact fun w' k => ⟨within_text n s a l c lists _ w' fun w2 k2 => checkText_any n s a l c (Lib.validD s.data.toList) w2 hs hl.2 (hv w2 (below2 k k2)), by first | exact ref_text n s a l c (lists + 1) (Lib.validD s.data.toList) _ w' hs hl.2 rfl (hv w' k) | exact trivial⟩
  · have e0 : plainE k n s l = if (k = 0 ∧ n = 0 ∨ k = 1 ∧ (n = 0 ∨ n = 1) ∨ k = 2) ∧ s = ⟨#[]⟩ ∧ l = 0 then 0 else 6 := if_neg h3
    rw [e0]
    obtain ⟨z, hz⟩ : ∃ z : Int, z = if (k = 0 ∧ n = 0 ∨ k = 1 ∧ (n = 0 ∨ n = 1) ∨ k = 2) ∧ s = ⟨#[]⟩ ∧ l = 0 then 0 else 6 := ⟨_, rfl⟩
    rw [← hz]
    have hz0 : (k = 0 ∧ n = 0 ∨ k = 1 ∧ (n = 0 ∨ n = 1) ∨ k = 2) → s = ⟨#[]⟩ → l = 0 → z = 0 := fun h1 h2 h3 => by rw [hz, if_pos ⟨h1, h2, h3⟩]
    have hz1 : ¬ (k = 0 ∧ n = 0 ∨ k = 1 ∧ (n = 0 ∨ n = 1) ∨ k = 2) → z = 6 := fun h => by rw [hz, if_neg (fun g => h g.1)]
    have hz2 : s ≠ ⟨#[]⟩ → z = 6 := fun h => by rw [hz, if_neg (fun g => h g.2.1)]
    have hz3 : l ≠ 0 → z = 6 := fun h => by rw [hz, if_neg (fun g => h g.2.2)]
    exact fun w' kk => ⟨within_plain k n s a l c lists z w' (by simpa using h4) (by simpa using h3) fun w2 k2 => checkPlain_any k n s a l c z w2 hz0 hz1 hz2 hz3 hl.2, by first | exact ref_plain k n s a l c (lists + 1) z w' hl.2 (by simpa using h4) (by simpa using h3) hz0 hz1 hz2 hz3 | exact trivial⟩

theorem bc_all (B : Nat) (w : World) (hB : B ≤ w.heap.size) (hT : Tabs B w) : ∀ (f lists : Nat), lists + f = 6 → ∀ (k n : Int) (s : ByteArray) (a : Option Addr) (l c : Nat) (L : List T), s.size ≤ 9223372036854775807 → InT (.node k n s L) → LiesS w L a l → Both w (.agg #[.int .i64 k, .int .i64 n, .string s, .slice a l c]) lists (chk f (.node k n s L)) := by
  intro f
  induction f with
  | zero =>
    intro lists hd k n s a l c L hs hin hL
    by_cases h4 : k = 4
    · subst h4
      exact both_list_many w n s a l c lists hL.length.2 (.inr (by omega))
    · have e0 : chk 0 (.node k n s L) = plainE k n s L.length := if_neg h4
      rw [e0]
      exact bc_plain B w hB hT 0 k n s a l c lists L h4 hs hin hL
  | succ f ih =>
    intro lists hd k n s a l c L hs hin hL
    by_cases h4 : k = 4
    · subst h4
      have e0 : chk (f + 1) (.node 4 n s L) = if 30 < L.length then 2 else firstZ (L.map (chk f)) (bareE n s) := by
        unfold chk
        exact if_pos rfl
      rw [e0]
      by_cases hm : 30 < l
      · rw [if_pos (by rw [← hL.length.1]; exact hm)]
        exact both_list_many w n s a l c lists hL.length.2 (.inl hm)
      · rw [if_neg (by rw [← hL.length.1]; exact hm)]
        obtain ⟨z, hz⟩ : ∃ z, z = bareE n s := ⟨_, rfl⟩
        rw [← hz]
        have hz0 : n = 0 → s = ⟨#[]⟩ → z = 0 := fun h1 h2 => by rw [hz]; exact if_pos ⟨h1, h2⟩
        have hz1 : n ≠ 0 → z = 6 := fun h => by rw [hz]; exact if_neg (fun g => h g.1)
        have hz2 : s ≠ ⟨#[]⟩ → z = 6 := fun h => by rw [hz]; exact if_neg (fun g => h g.2)
        by_cases h0 : l = 0
        · subst h0
          have e1 : L = [] := List.length_eq_zero_iff.1 hL.length.1.symm
          subst e1
          exact fun w' k => ⟨within_list n s a 0 c lists z w' fun w2 k2 => checkList_empty 4 n s a c lists z w2 (by omega) hz0 hz1 hz2, by first | exact ref_empty n s a c (lists + 1) z w' (by omega) hz0 hz1 hz2 | exact trivial⟩
        · obtain ⟨b, off, _, rfl, hb, _⟩ := hL.get (i := 0) (by omega)
          have hlen := hL.length.1
          obtain ⟨es, hes0⟩ : ∃ es : Nat → Int, ∀ i, (h : i < L.length) → es i = chk f L[i] := ⟨fun i => if h : i < L.length then chk f L[i] else 0, fun i h => dif_pos h⟩
          have hes : ∀ i, i < l → Both w ((valsAt w b off).at i) (lists + 1) (es i) := by
            intro i hi
            obtain ⟨kt, nt, st, Lt, at', lt, ct, _, hd', p0, p1, p2, p3, hlc, hLt, _, hst⟩ := hL.at2 hi
            have hi2 : i < L.length := by omega
            have hLi : L[i] = .node kt nt st Lt := by
              have h1 := List.drop_eq_getElem_cons hi2
              rw [hd'] at h1
              exact (List.cons.inj h1).1.symm
            rw [vals_at p0 p1 p2 p3, hes0 i hi2, hLi]
            have hmem : T.node kt nt st Lt ∈ L := List.mem_of_mem_drop (by rw [hd']; exact List.mem_cons_self ..)
            exact ih (lists + 1) (by omega) kt nt st at' lt ct Lt hst (InL.mem (by unfold InT at hin; exact hin.2) hmem) hLt
          have e2 : firstErr es 0 l z = firstZ (L.map (chk f)) z := by
            have h1 := firstErr_list es z (L.map (chk f)) 0 fun j hj => by
              rw [List.length_map] at hj
              rw [Nat.zero_add, List.getElem_map]
              exact hes0 j hj
            rw [List.length_map, ← hlen] at h1
            exact h1
          rw [← e2]
          refine fun w' k => ⟨?_, ?_⟩
          · refine within_list n s (some ⟨b, off, none⟩) l c lists _ w' fun w2 k2 => ?_
            have kk := below2 k k2
            refine checkList_any 4 n s b off l c lists es (valsAt w b off) z w2 hz0 hz1 hz2 (by omega) (by omega) (by omega) (by have := kk.size; omega) (listAt_below hL.listAt hb kk) fun i hi w3 k3 => ?_
            have := (hes i hi w3 (below2 kk k3)).1
            rw [show ((lists + 1 : Nat) : Int) = (lists : Int) + 1 from by omega] at this
            exact this
          · first
            | exact trivial
            | (refine ref_list n s b off l c (lists + 1) es (valsAt w b off) z w' hz0 hz1 hz2 (by omega) (by omega) (by omega) (by have := k.size; omega) (listAt_below hL.listAt hb k) fun i hi w3 k3 => ?_
               have := (hes i hi w3 (below2 k k3)).2
               rw [show ((lists + 1 : Nat) : Int) = (lists : Int) + 1 from by omega] at this
               exact this)
    · have e0 : chk (f + 1) (.node k n s L) = plainE k n s L.length := by
        unfold chk
        exact if_neg h4
      rw [e0]
      exact bc_plain B w hB hT 0 k n s a l c lists L h4 hs hin hL

theorem firstZ_zero : ∀ (E : List Int) (z : Int), firstZ E z = 0 ↔ (∀ e ∈ E, e = 0) ∧ z = 0
  | [], z => by simp [firstZ]
  | e :: E, z => by
    have ih := firstZ_zero E z
    unfold firstZ
    by_cases h : e = 0
    · rw [if_pos h, ih]
      simp [h]
    · rw [if_neg h]
      simp [h]

theorem plain_ck {k n : Int} {s : ByteArray} {L : List T} (d : Nat) (h4 : k ≠ 4) (hin : InT (.node k n s L)) : plainE k n s L.length = 0 ↔ Ck d (.node k n s L) := by
  unfold plainE
  constructor
  · intro h
    split at h
    · rename_i h3
      subst h3
      split at h
      · cases h
      · split at h
        · rename_i g1 g2
          obtain ⟨g2, rfl, g3⟩ := g2
          have : L = [] := List.length_eq_zero_iff.1 g3
          subst this
          exact .text d s (by omega) g2
        · cases h
    · split at h
      · rename_i g1 g2
        obtain ⟨g2, rfl, g3⟩ := g2
        have : L = [] := List.length_eq_zero_iff.1 g3
        subst this
        unfold InT at hin
        rcases g2 with ⟨rfl, rfl⟩ | ⟨rfl, g⟩ | rfl
        · exact .null d
        · exact .bool d n g
        · exact .int d n hin.1.1 hin.1.2
      · cases h
  · intro h
    cases h with
    | null => simp
    | bool _ _ g => simp [g]
    | int => simp
    | text _ _ g0 g1 => simp [g1]; omega
    | list => exact absurd rfl h4

/-- Nothing is told just of right values. -/
theorem chk_ck : ∀ (d : Nat) (t : T), InT t → (chk d t = 0 ↔ Ck d t)
  | 0, .node k n s L, hin => by
    unfold chk
    by_cases h4 : k = 4
    · rw [if_pos h4]
      subst h4
      exact ⟨fun h => (by cases h), fun h => (by cases h)⟩
    · rw [if_neg h4]
      exact plain_ck 0 h4 hin
  | f + 1, .node k n s L, hin => by
    unfold chk
    by_cases h4 : k = 4
    · rw [if_pos h4]
      subst h4
      have hL : InL L := by unfold InT at hin; exact hin.2
      by_cases hm : 30 < L.length
      · rw [if_pos hm]
        exact ⟨fun h => (by cases h), fun h => by cases h with | list _ _ g0 _ => omega⟩
      · rw [if_neg hm, firstZ_zero]
        constructor
        · rintro ⟨h1, h2⟩
          unfold bareE at h2
          split at h2
          · rename_i g
            obtain ⟨rfl, rfl⟩ := g
            exact .list f L (by omega) fun t ht => (chk_ck f t (hL.mem ht)).1 (h1 _ (List.mem_map.2 ⟨t, ht, rfl⟩))
          · cases h2
        · intro h
          cases h with
          | list _ _ g0 g1 =>
            refine ⟨fun e he => ?_, rfl⟩
            obtain ⟨t, ht, rfl⟩ := List.mem_map.1 he
            exact (chk_ck f t (hL.mem ht)).2 (g1 t ht)
    · rw [if_neg h4]
      exact plain_ck (f + 1) h4 hin

set_option linter.unusedSimpArgs false

/-- The program's check of a value and the plain one answer the same. -/
def ValBoth (w : World) (v : Value) (e : Int) : Prop := ∀ w', Below w.heap.size w w' → (Calls Tryz.prog 98 #[v] w' fun r w'' => r = .returned (.int .i64 e) ∧ Below w'.heap.size w' w'') ∧ (Calls Tryz.prog 31 #[v, .int .i64 1] w' fun r w'' => r = .returned (.int .i64 e) ∧ Below w'.heap.size w' w'')

theorem val_both (B : Nat) (w : World) (hB : B ≤ w.heap.size) (hT : Tabs B w) (k n : Int) (s : ByteArray) (a : Option Addr) (l c : Nat) (L : List T) (hs : s.size ≤ 9223372036854775807) (hin : InT (.node k n s L)) (hL : LiesS w L a l) : ValBoth w (.agg #[.int .i64 k, .int .i64 n, .string s, .slice a l c]) (chk 6 (.node k n s L)) ∧ (chk 6 (.node k n s L) = 0 ↔ Ck 6 (.node k n s L)) := by
  have hb := bc_all B w hB hT 6 0 rfl k n s a l c L hs hin hL
  exact ⟨fun w' k' => ⟨check_of k n s a l c _ w' fun w2 k2 => (hb w2 (k'.trans (k2.mono k'.size))).1, (hb w' k').2⟩, chk_ck 6 _ hin⟩

/-- The values of a row lie there, and what is told of each. -/
def ValsAt (w : World) (a : Option Addr) (l : Nat) (es : List Int) : Prop :=
  es.length = l ∧ l ≤ 9223372036854775807 ∧ ∀ i e, es[i]? = some e → ∃ b off, a = some ⟨b, off, none⟩ ∧ b < w.heap.size ∧ ∃ k n s a' l' c', w.cell? ⟨b, off + i * 4, none⟩ = some (.int .i64 k) ∧ w.cell? ⟨b, off + i * 4 + 1, none⟩ = some (.int .i64 n) ∧ w.cell? ⟨b, off + i * 4 + 1 + 1, none⟩ = some (.string s) ∧ w.cell? ⟨b, off + i * 4 + 1 + 1 + 1, none⟩ = some (.slice a' l' c') ∧ ValBoth w (.agg #[.int .i64 k, .int .i64 n, .string s, .slice a' l' c']) e

/-- The first that isn't 0. -/
def firstE : List Int → Int
  | [] => 0
  | e :: es => if e = 0 then firstE es else e

/-- What is told of a row. -/
def rowErr (es : List Int) : Int := if 30 < es.length then 2 else firstE es

theorem valsB_at (B : Nat) (w : World) (hB : B ≤ w.heap.size) (hT : Tabs B w) : ∀ (L : List T) (a : Option Addr) (l : Nat), InL L → LiesS w L a l → ∃ es, ValsAt w a l es ∧ (firstE es = 0 ↔ ∀ t ∈ L, Ck 6 t) ∧ es = L.map (chk 6)
  | [], a, l, hi, h => by
    unfold LiesS at h
    subst h
    exact ⟨[], ⟨rfl, by omega, fun i e he => by simp at he⟩, ⟨fun _ t ht => (by cases ht), fun _ => rfl⟩, rfl⟩
  | .node k n s Lt :: ts, a, l, hi, h => by
    unfold LiesS at h
    obtain ⟨b, off, rfl, hl, hl2, hb, hLT, hLS⟩ := h
    unfold InL at hi
    obtain ⟨es, ⟨h1, h2, h3⟩, h4, h5⟩ := valsB_at B w hB hT ts _ _ hi.2 hLS
    unfold LiesT at hLT
    obtain ⟨hs, a', l', c', p0, p1, p2, p3, hlc, hL⟩ := hLT
    obtain ⟨he, hck⟩ := val_both B w hB hT k n s a' l' c' Lt hs hi.1 hL
    generalize hce : chk 6 (.node k n s Lt) = e at he hck
    refine ⟨e :: es, ⟨by simp [h1, hl], hl2, fun i e' he' => ⟨b, off, rfl, hb, ?_⟩⟩, ⟨fun h0 t ht => ?_, fun hall => ?_⟩, by rw [List.map_cons, hce, h5]⟩
    · cases i with
      | zero =>
        simp at he'
        subst he'
        rw [Nat.zero_mul, Nat.add_zero]
        exact ⟨k, n, s, a', l', c', p0, p1, p2, p3, he⟩
      | succ i =>
        obtain ⟨b', off', hA, _, q⟩ := h3 i e' (by simpa using he')
        simp only [Option.some.injEq, Addr.mk.injEq, and_true] at hA
        obtain ⟨rfl, rfl⟩ := hA
        rw [show off + (i + 1) * 4 = off + 4 + i * 4 by omega]
        exact q
    · unfold firstE at h0
      by_cases he0 : e = 0
      · rw [if_pos he0] at h0
        rcases List.mem_cons.1 ht with rfl | ht
        · exact hck.1 he0
        · exact h4.1 h0 t ht
      · rw [if_neg he0] at h0
        exact absurd h0 he0
    · have he0 : e = 0 := hck.2 (hall _ (List.mem_cons_self ..))
      unfold firstE
      rw [if_pos he0]
      exact h4.2 fun t ht => hall t (List.mem_cons_of_mem _ ht)

theorem firstE_drop {es : List Int} {i : Nat} {e : Int} (h : es[i]? = some e) : firstE (es.drop i) = if e = 0 then firstE (es.drop (i + 1)) else e := by
  obtain ⟨hi, he⟩ := List.getElem?_eq_some_iff.1 h
  rw [List.drop_eq_getElem_cons hi, he]
  rfl

set_option maxHeartbeats 4000000 in
set_option maxRecDepth 100000 in
theorem checkRow_any (es : List Int) (a : Option Addr) (l c : Nat) (w0 w : World) (hv : ValsAt w0 a l es) (k0 : Below w0.heap.size w0 w) :
    Calls Tryz.prog 63 #[.slice a l c] w fun e w' => e = .returned (.int .i64 (rowErr es)) ∧ Below w.heap.size w w' := by
  have HV := toHid hv
  have HK := toHid k0
  have hln := hv.1
  have hmx := hv.2.1
  obtain ⟨R, hR⟩ : ∃ R, R = rowErr es := ⟨_, rfl⟩
  rw [← hR]
  unfold rowErr at hR
  rw [hln] at hR
  have HL := toHid hln
  clear hv k0 hln
  by_cases hb : 30 < l
  · rw [if_pos hb] at hR
    have HR := toHid hR
    clear hR
    have hb' : (30 : Int) < l := by omega
    go_enter Tryz.func63, Tryz.ntmps63
    go_wp2_with fail
    go_ret
    exact ⟨ret_int HR.out.symm, Below.refl _ _⟩
  · rw [if_neg hb] at hR
    have HR := toHid (show R = firstE (es.drop 0) from hR)
    clear hR
    have hb' : ¬ ((30 : Int) < l) := by omega
    go_enter Tryz.func63, Tryz.ntmps63
    go_wp2_with fail
    go_loopg [11] l (fun g s11 wr => ∃ i : Nat, i ≤ l ∧ l - i ≤ g ∧ s11 = .int .i64 i ∧ R = firstE (es.drop i) ∧ Below w.heap.size w wr)
    case atStart => exact ⟨0, Nat.zero_le _, by omega, rfl, HR.out, Below.refl _ _⟩
    case round =>
      clear HR
      obtain ⟨i, hi, hg, rfl, hre, hbw⟩ := hrel
      have HRE := toHid hre
      have HBW := toHid hbw
      clear hre hbw
      by_cases hlt : i < l
      · have hil : (i : Int) < l := by omega
        obtain ⟨e, he⟩ : ∃ e, es[i]? = some e := ⟨es[i]'(by have := HL.out; omega), List.getElem?_eq_getElem _⟩
        obtain ⟨b, off, rfl, hbl, k, n, s, a', l', c', p0, p1, p2, p3, hvb⟩ := HV.out.2.2 i e he
        have HB0 := toHid (HK.out.trans (HBW.out.mono HK.out.size))
        have q0 := (HB0.out.cell (p := ⟨b, off + i * 4, none⟩) hbl).trans p0
        have q1 := (HB0.out.cell (p := ⟨b, off + i * 4 + 1, none⟩) hbl).trans p1
        have q2 := (HB0.out.cell (p := ⟨b, off + i * 4 + 1 + 1, none⟩) hbl).trans p2
        have q3 := (HB0.out.cell (p := ⟨b, off + i * 4 + 1 + 1 + 1, none⟩) hbl).trans p3
        have HE := toHid (HRE.out.trans (firstE_drop he))
        have HA := toHid (HBW.out.alloc HBW.out.size (vObj k n s a' l' c'))
        have HC := toHid (hvb _ (HB0.out.alloc HB0.out.size (vObj k n s a' l' c'))).1
        clear p0 p1 p2 p3 hvb hbl he HRE
        go_wp2_with fail
        refine HC.out.mono ?_
        rintro e' w1 ⟨rfl, k1⟩
        have HB1 := toHid (HA.out.trans (k1.mono HA.out.size))
        clear k1 q0 q1 q2 q3
        by_cases hz : e = 0
        · have hz' : (e != 0) = false := by simp [hz]
          have HZ := toHid hz
          clear hz
          go_wp2_with fail
          go_roundg (l - (i + 1))
          case measure => omega
          case rel =>
            refine ⟨i + 1, by omega, Nat.le_refl _, by go_num, ?_, HB1.out⟩
            rw [HE.out, if_pos HZ.out]
        · have hz' : (e != 0) = true := by simp [hz]
          have HZ := toHid hz
          clear hz
          go_wp2_with fail
          go_ret
          refine ⟨ret_int ?_, HB1.out⟩
          rw [HE.out, if_neg HZ.out]
      · have he : i = l := by omega
        subst he
        have hr0 : R = 0 := by
          rw [HRE.out, List.drop_eq_nil_of_le (by have := HL.out; omega)]
          rfl
        have HR0 := toHid hr0
        clear hr0
        go_wp2_with fail
        go_ret
        exact ⟨ret_int HR0.out.symm, HBW.out⟩

set_option linter.unusedSimpArgs false

/-- Does a count stand where it may not, ahead of it being this one? -/
def badC (p : Option Ct) (x : Ct) : Bool := x.n == 0 || (match p with | none => false | some p => decide (0 ≤ ordL p.L x.L))

/-- What is told of counts, each with what is told of its row. -/
def cntE : Option Ct → List (Ct × Int) → Int
  | _, [] => 0
  | p, (x, e) :: r => if e ≠ 0 then e else if badC p x = true then 6 else if 1099511627776 < x.n ∨ x.n < -1099511627776 then 9 else cntE (some x) r

/-- What is told of a bag. -/
def bagE (M : List (Ct × Int)) : Int := if 2000 < M.length then 2 else cntE none M

/-- The one ahead. -/
def ahead (M : List (Ct × Int)) : Nat → Option Ct
  | 0 => none
  | i + 1 => (M[i]?).map (·.1)

theorem cntE_drop {M : List (Ct × Int)} {i : Nat} {x : Ct} {e : Int} (h : M[i]? = some (x, e)) : cntE (ahead M i) (M.drop i) = if e ≠ 0 then e else if badC (ahead M i) x = true then 6 else if 1099511627776 < x.n ∨ x.n < -1099511627776 then 9 else cntE (ahead M (i + 1)) (M.drop (i + 1)) := by
  obtain ⟨hi, he⟩ := List.getElem?_eq_some_iff.1 h
  have e1 : ahead M (i + 1) = some x := by simp [ahead, h]
  rw [List.drop_eq_getElem_cons hi, he, e1]
  rfl

theorem drewB (w : World) (n : Nat) : Below w.heap.size w (w.drewN n) :=
  have h : Below w.heap.size w w := Below.refl _ _
  ⟨h.os, h.tape, h.output, h.size, h.block⟩

/-- What is asked of a bag's memory: its counts, their rows, what is told of these. -/
structure BagIn (w : World) (M : List (Ct × Int)) (a : Option Addr) (l : Nat) : Prop where
  at' : CtsAt w (M.map (·.1)) a l
  rows : ∀ x e, (x, e) ∈ M → LiesS w x.L x.a x.l ∧ ∃ es, ValsAt w x.a x.l es ∧ e = rowErr es ∧ (e = 0 → wtL x.L ≤ 1099511627776)

set_option maxHeartbeats 4000000 in
set_option maxRecDepth 100000 in
theorem check_bag (M : List (Ct × Int)) (a : Option Addr) (l c : Nat) (w0 w : World) (hM : BagIn w0 M a l) (k0 : Below w0.heap.size w0 w) :
    Calls Tryz.prog 28 #[.slice a l c] w fun e w' => e = .returned (.int .i64 (bagE M)) ∧ Below w.heap.size w w' := by
  have HM := toHid hM
  have HK := toHid k0
  have hln : l = M.length := by have := hM.at'.1; rw [List.length_map] at this; exact this
  have hmx : l ≤ 1000000 := hM.at'.2.1
  obtain ⟨R, hR⟩ : ∃ R, R = bagE M := ⟨_, rfl⟩
  rw [← hR]
  unfold bagE at hR
  rw [← hln] at hR
  have HL := toHid hln
  clear hM k0 hln
  by_cases hb : 2000 < l
  · rw [if_pos hb] at hR
    have HR := toHid hR
    clear hR
    have hb' : (2000 : Int) < l := by omega
    go_enter Tryz.func28, Tryz.ntmps28
    go_wp2_with fail
    go_ret
    exact ⟨ret_int HR.out.symm, Below.refl _ _⟩
  · rw [if_neg hb] at hR
    have HR := toHid (show R = cntE (ahead M 0) (M.drop 0) from hR)
    clear hR
    have hb' : ¬ ((2000 : Int) < l) := by omega
    go_enter Tryz.func28, Tryz.ntmps28
    go_wp2_with fail
    go_loopg [11] l (fun g s11 wr => ∃ i : Nat, i ≤ l ∧ l - i ≤ g ∧ s11 = .int .i64 i ∧ R = cntE (ahead M i) (M.drop i) ∧ (∀ p, ahead M i = some p → wtL p.L ≤ 1099511627776) ∧ Below w.heap.size w wr)
    case atStart => exact ⟨0, Nat.zero_le _, by omega, rfl, HR.out, (fun p hp => nomatch hp), Below.refl _ _⟩
    case round =>
      clear HR
      obtain ⟨i, hi, hg, rfl, hre, hwp, hbw⟩ := hrel
      have HRE := toHid hre
      have HBW := toHid hbw
      have HWP := toHid hwp
      clear hre hbw hwp
      by_cases hlt : i < l
      · have hil : (i : Int) < l := by omega
        obtain ⟨⟨x, e⟩, hx⟩ : ∃ y, M[i]? = some y := ⟨M[i]'(by have := HL.out; omega), List.getElem?_eq_getElem _⟩
        obtain ⟨b, off, rfl, hbl, hc⟩ := HM.out.at'.2.2 (by omega)
        obtain ⟨c0, c1⟩ := hc i x (by rw [List.getElem?_map, hx]; rfl)
        obtain ⟨hlx, es, hvs, hee, hwx⟩ := HM.out.rows x e (List.mem_of_getElem? hx)
        have HB0 := toHid (HK.out.trans (HBW.out.mono HK.out.size))
        have d0 := (HB0.out.cell (p := ⟨b, off + i * 2, none⟩) hbl).trans c0
        have d1 := (HB0.out.cell (p := ⟨b, off + i * 2 + 1, none⟩) hbl).trans c1
        have HA := toHid (HBW.out.alloc HBW.out.size (cObj x))
        have HX := toHid (alloc_new wr (cObj x))
        have HE := toHid (HRE.out.trans (cntE_drop hx))
        have HCR : Hid (Calls Tryz.prog 63 #[.slice x.a x.l x.c] (wr.alloc (cObj x)) fun r w' => r = .returned (.int .i64 e) ∧ Below (wr.alloc (cObj x)).heap.size (wr.alloc (cObj x)) w') := by
          show Calls _ _ _ _ _
          rw [hee]
          exact checkRow_any es x.a x.l x.c w0 _ hvs (HB0.out.alloc HB0.out.size (cObj x))
        have HLX := toHid hlx
        have HWX := toHid hwx
        have HMX := toHid hx
        clear c0 c1 hvs hee hlx hwx HRE hx
        go_wp2_with (go_at_call 63; refine HCR.out.mono ?_)
        rintro e' u ⟨rfl, k1⟩
        have HBu := toHid (HA.out.trans (k1.mono HA.out.size))
        have HXu := toHid ((k1.block _ (blkB_lt HX.out)).trans HX.out)
        generalize wr.heap.size = bx at HXu ⊢
        clear k1 d0 d1 HA HX HCR HB0 HBW
        by_cases hz : e = 0
        · have hz' : (e != 0) = false := by simp [hz]
          have hwx := HWX.out hz
          rw [if_neg (by simp [hz])] at HE
          have HWX2 := toHid hwx
          clear hz HWX hwx
          have x0 := cell_of HXu.out 0
          have x1 := cell_of HXu.out 1
          simp at x0 x1
          have hbx := blkB_lt HXu.out
          obtain ⟨bd, hbd⟩ : ∃ bd, bd = badC (ahead M i) x := ⟨_, rfl⟩
          rw [← hbd] at HE
          have HBD := toHid hbd
          clear hbd
          go_upto_region 9 with fail
          go_cut [40] (fun s40 wx => s40 = .bool bd ∧ Below u.heap.size u wx)
          case first =>
            by_cases hn : x.n = 0
            · have hn0 : (x.n == 0) = true := by simp [hn]
              have hbd : bd = true := by rw [HBD.out]; simp [badC, hn0]
              subst hbd
              clear HBD hn
              go_quiet (fail)
              go_wp2_with fail
              go_meet
              exact ⟨rfl, drewB _ _⟩
            · have hn0 : (x.n == 0) = false := by simp [hn]
              rcases Nat.eq_zero_or_pos i with h0 | h0
              · subst h0
                have hbd : bd = false := by rw [HBD.out]; simp [badC, hn0, ahead]
                subst hbd
                clear HBD hn
                go_quiet (fail)
                go_wp2_with fail
                go_meet
                exact ⟨rfl, drewB _ _⟩
              · obtain ⟨m, hm⟩ : ∃ m, i = m + 1 := ⟨i - 1, by omega⟩
                have HMI := toHid hm
                obtain ⟨⟨p, e2⟩, hp⟩ : ∃ y, M[m]? = some y := ⟨M[m]'(by have := HL.out; omega), List.getElem?_eq_getElem _⟩
                have hbd : bd = decide (0 ≤ ordL p.L x.L) := by rw [HBD.out, hm]; simp [badC, hn0, ahead, hp]
                have hpw : wtL p.L ≤ 1099511627776 := HWP.out p (by rw [hm]; simp [ahead, hp])
                have r0 := (hc m p (by rw [List.getElem?_map, hp]; rfl)).1
                have HB0u := toHid (HK.out.trans (HBu.out.mono HK.out.size))
                have q0 := (HB0u.out.cell (p := ⟨b, off + m * 2, none⟩) hbl).trans r0
                have HC : Hid (∀ W', Below u.heap.size u W' → Calls Tryz.prog 56 #[.slice p.a p.l p.c, .slice x.a x.l x.c] W' fun e w' => e = .returned (.int .i64 (ordL p.L x.L)) ∧ BelD W'.heap.size W' w') := fun W' k => by
                  have hb1 := HB0u.out.trans (k.mono HB0u.out.size)
                  exact compareD_any p.L x.L p.a p.l p.c x.a x.l x.c W' (LiesS.below hb1 _ _ _ (HM.out.rows p e2 (List.mem_of_getElem? hp)).1) (LiesS.below hb1 _ _ _ HLX.out) hpw
                generalize ordL p.L x.L = z at HC hbd
                have HBDz := toHid hbd
                clear hbd HBD hp hpw r0 hn hc
                have hwr : wrap64 ((i : Int) - 1) = (m : Int) := by unfold wrap64; omega
                have hml : (m : Int) < (l : Int) := by omega
                have hml2 : m < l := by omega
                have hml3 : (0 : Int) ≤ (m : Int) := by omega
                have hwr3 : IntKind.i64.wrap ((i : Int) - 1) = (m : Int) := by rw [IntKind.wrap_i64]; omega
                have D0 : Below u.heap.size u u.drew := (Below.refl _ _).drew
                have hbu : b < u.heap.size := Nat.lt_of_lt_of_le hbl HB0u.out.size
                have hpos : (0 : Int) < (i : Int) := by omega
                clear hm
                go_region_held3 (fun W' => (W'.cell? ⟨b, off + m * 2, none⟩ = some (.slice p.a p.l p.c) ∧ W'.cell? ⟨bx, 0, none⟩ = some (.slice x.a x.l x.c) ∧ W'.cell? ⟨bx, 1, none⟩ = some (.int .i64 x.n)))
                  (first
                    | exact ⟨q0, x0, x1⟩
                    | exact ⟨(kc.cell (p := ⟨b, off + m * 2, none⟩) hbu).trans q0, (kc.cell (p := ⟨bx, 0, none⟩) hbx).trans x0, (kc.cell (p := ⟨bx, 1, none⟩) hbx).trans x1⟩
                    | go_keep)
                  (first
                    | (go_at_call 56; go_fit (HC.out _ D0); rintro e uc ⟨rfl, kd⟩; have kc : Below u.heap.size u uc := D0.trans (kd.toBelow.mono (Nat.le_refl _))))
                all_goals
                  go_wp2_with fail
                  go_meet
                  exact ⟨by rw [HBDz.out], kc⟩
          case rest =>
            obtain ⟨rfl, kc⟩ := hcut
            have HBc := toHid (HBu.out.trans (kc.mono HBu.out.size))
            have y1 := (kc.cell (p := ⟨bx, 1, none⟩) hbx).trans x1
            have HBC := toHid (Nat.lt_of_lt_of_le hbx kc.size)
            clear x0 x1 kc HBD
            cases bd with
            | true =>
              rw [if_pos rfl] at HE
              go_wp2_with fail
              go_ret
              exact ⟨ret_int HE.out.symm, HBc.out⟩
            | false =>
              rw [if_neg (by simp)] at HE
              have hbc : bx < wc.heap.size := HBC.out
              by_cases h1 : 1099511627776 < x.n
              · rw [if_pos (.inl h1)] at HE
                go_wp2_with fail
                go_ret
                exact ⟨ret_int HE.out.symm, HBc.out⟩
              · by_cases h2 : x.n < -1099511627776
                · rw [if_pos (.inr h2)] at HE
                  go_wp2_with fail
                  go_ret
                  exact ⟨ret_int HE.out.symm, HBc.out⟩
                · rw [if_neg (by omega)] at HE
                  go_wp2_with fail
                  go_roundg (l - (i + 1))
                  case measure => omega
                  case rel =>
                    refine ⟨i + 1, by omega, Nat.le_refl _, by go_num, HE.out, fun p hp => ?_, HBc.out⟩
                    have e1 : ahead M (i + 1) = some x := by simp [ahead, HMX.out]
                    rw [e1] at hp
                    injection hp with hp
                    rw [← hp]
                    exact HWX2.out
        · have hz' : (e != 0) = true := by simp [hz]
          rw [if_pos hz] at HE
          clear hz
          go_wp2_with fail
          go_ret
          exact ⟨ret_int HE.out.symm, HBu.out⟩
      · have he : i = l := by omega
        subst he
        have hr0 : R = 0 := by
          rw [HRE.out, List.drop_eq_nil_of_le (by have := HL.out; omega)]
          cases ahead M i <;> rfl
        have HR0 := toHid hr0
        clear hr0
        go_wp2_with fail
        go_ret
        exact ⟨ret_int HR0.out.symm, HBW.out⟩
end Go.Proofs.YtbjkpbeijkmoeaaGreatDoor
