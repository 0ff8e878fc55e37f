/-
  What is proved here: what both checks answer of any value, as a plain function of the value alone, wherever it lies.
-/
import Derived.Test.YtdbodcfodlbgnaaDoorQVAJ
namespace Go.Proofs.YtdbodcfodlbgnaaDoor
open Go.RowKit
set_option linter.unusedVariables false

/-- What is told of a value that is no list. -/
def plainE (k n : Int) (s : ByteArray) (l : Nat) : Int := if k = 3 then (if s.size > 4000 then 2 else if Lib.validD s.data.toList = true ∧ n = 0 ∧ l = 0 then 0 else 6) else if (k = 0 ∧ n = 0 ∨ k = 1 ∧ (n = 0 ∨ n = 1) ∨ k = 2) ∧ s = ⟨#[]⟩ ∧ l = 0 then 0 else 6

def bareE (n : Int) (s : ByteArray) : Int := if n = 0 ∧ s = ⟨#[]⟩ then 0 else 6

/-- The first that isn't 0, or this. -/
def firstZ : List Int → Int → Int
  | [], z => z
  | e :: es, z => if e = 0 then firstZ es z else e

/-- What is told of a value within so many lists. -/
def chk : Nat → T → Int
  | 0, .node k n s L => if k = 4 then 2 else plainE k n s L.length
  | f + 1, .node k n s L => if k = 4 then (if 30 < L.length then 2 else firstZ (L.map (chk f)) (bareE n s)) else plainE k n s L.length

theorem firstErr_list (es : Nat → Int) (z : Int) : ∀ (E : List Int) (i : Nat), (∀ j, (h : j < E.length) → es (i + j) = E[j]) → firstErr es i E.length z = firstZ E z
  | [], i, _ => rfl
  | e :: E, i, h => by
    have h0 : es i = e := h 0 (by simp)
    show (if es i = 0 then firstErr es (i + 1) E.length z else es i) = if e = 0 then firstZ E z else e
    rw [h0, firstErr_list es z E (i + 1) fun j hj => by
      have := h (j + 1) (by simpa using hj)
      rw [show i + 1 + j = i + (j + 1) from by omega]
      simpa using this]

theorem bc_plain (B : Nat) (w : World) (hB : B ≤ w.heap.size) (hT : Tabs B w) (d : Nat) (k n : Int) (s : ByteArray) (a : Option Addr) (l c lists : Nat) (L : List T) (h4 : k ≠ 4) (hs : s.size ≤ 9223372036854775807) (hin : InT (.node k n s L)) (hL : LiesS w L a l) : Both w (.agg #[.int .i64 k, .int .i64 n, .string s, .slice a l c]) lists (plainE k n s L.length) := by
  have hl := hL.length
  rw [← hl.1]
  by_cases h3 : k = 3
  · subst h3
    have hv : ∀ w1, Below w.heap.size w w1 → ∀ w', Below w1.heap.size w1 w' → Calls Tryd.prog 29 #[.string s] w' fun e w'' => e = .returned (.bool (Lib.validD s.data.toList)) ∧ Below w'.heap.size w' w'' := fun w1 k1 w' k' => Tryd.utf8_ValidString s w' hs (hT.below ((below2 k1 k').mono hB)).now
    have e0 : plainE 3 n s l = if s.size > 4000 then 2 else if Lib.validD s.data.toList = true ∧ n = 0 ∧ l = 0 then 0 else 6 := rfl
    rw [e0]
    exact fun w' k => ⟨within_text n s a l c lists _ w' fun w2 k2 => checkText_any n s a l c (Lib.validD s.data.toList) w2 hs hl.2 (hv w2 (below2 k k2)), by first | exact ref_text n s a l c (lists + 1) (Lib.validD s.data.toList) _ w' hs hl.2 rfl (hv w' k) | exact trivial⟩
  · have e0 : plainE k n s l = if (k = 0 ∧ n = 0 ∨ k = 1 ∧ (n = 0 ∨ n = 1) ∨ k = 2) ∧ s = ⟨#[]⟩ ∧ l = 0 then 0 else 6 := if_neg h3
    rw [e0]
    obtain ⟨z, hz⟩ : ∃ z : Int, z = if (k = 0 ∧ n = 0 ∨ k = 1 ∧ (n = 0 ∨ n = 1) ∨ k = 2) ∧ s = ⟨#[]⟩ ∧ l = 0 then 0 else 6 := ⟨_, rfl⟩
    rw [← hz]
    have hz0 : (k = 0 ∧ n = 0 ∨ k = 1 ∧ (n = 0 ∨ n = 1) ∨ k = 2) → s = ⟨#[]⟩ → l = 0 → z = 0 := fun h1 h2 h3 => by rw [hz, if_pos ⟨h1, h2, h3⟩]
    have hz1 : ¬ (k = 0 ∧ n = 0 ∨ k = 1 ∧ (n = 0 ∨ n = 1) ∨ k = 2) → z = 6 := fun h => by rw [hz, if_neg (fun g => h g.1)]
    have hz2 : s ≠ ⟨#[]⟩ → z = 6 := fun h => by rw [hz, if_neg (fun g => h g.2.1)]
    have hz3 : l ≠ 0 → z = 6 := fun h => by rw [hz, if_neg (fun g => h g.2.2)]
    exact fun w' kk => ⟨within_plain k n s a l c lists z w' (by simpa using h4) (by simpa using h3) fun w2 k2 => checkPlain_any k n s a l c z w2 hz0 hz1 hz2 hz3 hl.2, by first | exact ref_plain k n s a l c (lists + 1) z w' hl.2 (by simpa using h4) (by simpa using h3) hz0 hz1 hz2 hz3 | exact trivial⟩

theorem bc_all (B : Nat) (w : World) (hB : B ≤ w.heap.size) (hT : Tabs B w) : ∀ (f lists : Nat), lists + f = 6 → ∀ (k n : Int) (s : ByteArray) (a : Option Addr) (l c : Nat) (L : List T), s.size ≤ 9223372036854775807 → InT (.node k n s L) → LiesS w L a l → Both w (.agg #[.int .i64 k, .int .i64 n, .string s, .slice a l c]) lists (chk f (.node k n s L)) := by
  intro f
  induction f with
  | zero =>
    intro lists hd k n s a l c L hs hin hL
    by_cases h4 : k = 4
    · subst h4
      exact both_list_many w n s a l c lists hL.length.2 (.inr (by omega))
    · have e0 : chk 0 (.node k n s L) = plainE k n s L.length := if_neg h4
      rw [e0]
      exact bc_plain B w hB hT 0 k n s a l c lists L h4 hs hin hL
  | succ f ih =>
    intro lists hd k n s a l c L hs hin hL
    by_cases h4 : k = 4
    · subst h4
      have e0 : chk (f + 1) (.node 4 n s L) = if 30 < L.length then 2 else firstZ (L.map (chk f)) (bareE n s) := by
        unfold chk
        exact if_pos rfl
      rw [e0]
      by_cases hm : 30 < l
      · rw [if_pos (by rw [← hL.length.1]; exact hm)]
        exact both_list_many w n s a l c lists hL.length.2 (.inl hm)
      · rw [if_neg (by rw [← hL.length.1]; exact hm)]
        obtain ⟨z, hz⟩ : ∃ z, z = bareE n s := ⟨_, rfl⟩
        rw [← hz]
        have hz0 : n = 0 → s = ⟨#[]⟩ → z = 0 := fun h1 h2 => by rw [hz]; exact if_pos ⟨h1, h2⟩
        have hz1 : n ≠ 0 → z = 6 := fun h => by rw [hz]; exact if_neg (fun g => h g.1)
        have hz2 : s ≠ ⟨#[]⟩ → z = 6 := fun h => by rw [hz]; exact if_neg (fun g => h g.2)
        by_cases h0 : l = 0
        · subst h0
          have e1 : L = [] := List.length_eq_zero_iff.1 hL.length.1.symm
          subst e1
          exact fun w' k => ⟨within_list n s a 0 c lists z w' fun w2 k2 => checkList_empty 4 n s a c lists z w2 (by omega) hz0 hz1 hz2, by first | exact ref_empty n s a c (lists + 1) z w' (by omega) hz0 hz1 hz2 | exact trivial⟩
        · obtain ⟨b, off, _, rfl, hb, _⟩ := hL.get (i := 0) (by omega)
          have hlen := hL.length.1
          obtain ⟨es, hes0⟩ : ∃ es : Nat → Int, ∀ i, (h : i < L.length) → es i = chk f L[i] := ⟨fun i => if h : i < L.length then chk f L[i] else 0, fun i h => dif_pos h⟩
          have hes : ∀ i, i < l → Both w ((valsAt w b off).at i) (lists + 1) (es i) := by
            intro i hi
            obtain ⟨kt, nt, st, Lt, at', lt, ct, _, hd', p0, p1, p2, p3, hlc, hLt, _, hst⟩ := hL.at2 hi
            have hi2 : i < L.length := by omega
            have hLi : L[i] = .node kt nt st Lt := by
              have h1 := List.drop_eq_getElem_cons hi2
              rw [hd'] at h1
              exact (List.cons.inj h1).1.symm
            rw [vals_at p0 p1 p2 p3, hes0 i hi2, hLi]
            have hmem : T.node kt nt st Lt ∈ L := List.mem_of_mem_drop (by rw [hd']; exact List.mem_cons_self ..)
            exact ih (lists + 1) (by omega) kt nt st at' lt ct Lt hst (InL.mem (by unfold InT at hin; exact hin.2) hmem) hLt
          have e2 : firstErr es 0 l z = firstZ (L.map (chk f)) z := by
            have h1 := firstErr_list es z (L.map (chk f)) 0 fun j hj => by
              rw [List.length_map] at hj
              rw [Nat.zero_add, List.getElem_map]
              exact hes0 j hj
            rw [List.length_map, ← hlen] at h1
            exact h1
          rw [← e2]
          refine fun w' k => ⟨?_, ?_⟩
          · refine within_list n s (some ⟨b, off, none⟩) l c lists _ w' fun w2 k2 => ?_
            have kk := below2 k k2
            refine checkList_any 4 n s b off l c lists es (valsAt w b off) z w2 hz0 hz1 hz2 (by omega) (by omega) (by omega) (by have := kk.size; omega) (listAt_below hL.listAt hb kk) fun i hi w3 k3 => ?_
            have := (hes i hi w3 (below2 kk k3)).1
            rw [show ((lists + 1 : Nat) : Int) = (lists : Int) + 1 from by omega] at this
            exact this
          · first
            | exact trivial
            | (refine ref_list n s b off l c (lists + 1) es (valsAt w b off) z w' hz0 hz1 hz2 (by omega) (by omega) (by omega) (by have := k.size; omega) (listAt_below hL.listAt hb k) fun i hi w3 k3 => ?_
               have := (hes i hi w3 (below2 k k3)).2
               rw [show ((lists + 1 : Nat) : Int) = (lists : Int) + 1 from by omega] at this
               exact this)
    · have e0 : chk (f + 1) (.node k n s L) = plainE k n s L.length := by
        unfold chk
        exact if_neg h4
      rw [e0]
      exact bc_plain B w hB hT 0 k n s a l c lists L h4 hs hin hL
end Go.Proofs.YtdbodcfodlbgnaaDoor
