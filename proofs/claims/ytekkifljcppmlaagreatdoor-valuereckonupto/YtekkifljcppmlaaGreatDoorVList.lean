/-
  What is proved here: plain facts about two lists of values, one behind the other: what their cells hold, and that a row of one's own that holds these cells is the list of both.
-/
import Derived.Test.YtekkifljcppmlaaGreatDoorVApp
import Derived.Test.YtekkifljcppmlaaGreatDoorRMD
namespace Go.Proofs.YtekkifljcppmlaaGreatDoor
open Go.RowKit
set_option linter.unusedVariables false

/-- What the cells of a list's values hold. -/
def CellsOf (W : World) (L : List T) (cs : List Value) : Prop := ∀ (j : Nat) (k n : Int) (s : ByteArray) (Lt : List T), L[j]? = some (.node k n s Lt) → s.size ≤ 9223372036854775807 ∧ cs[j * 4]? = some (.int .i64 k) ∧ cs[j * 4 + 1]? = some (.int .i64 n) ∧ cs[j * 4 + 2]? = some (.string s) ∧ ∃ a l c, cs[j * 4 + 3]? = some (.slice a l c) ∧ l ≤ c ∧ LiesS W Lt a l

theorem cells_any {W : World} {L : List T} {a : Option Addr} {l : Nat} (h : LiesS W L a l) : ∃ cs : List Value, cs.length = l * 4 ∧ (∀ j u, cs[j]? = some u → ∃ ad, a = some ad ∧ ad.block < W.heap.size ∧ W.cell? (ad.add j) = some u) ∧ (∀ u ∈ cs, u.oneCell' = true) ∧ CellsOf W L cs := by
  cases L with
  | nil =>
    unfold LiesS at h
    subst h
    exact ⟨[], rfl, (fun j u h => by simp at h), (fun u h => by cases h), (fun j k n s Lt h => by simp at h)⟩
  | cons t ts =>
    have hl := h.length.1
    have h0 := h
    unfold LiesS at h0
    obtain ⟨b, off, rfl, _, _, hb, _⟩ := h0
    obtain ⟨cs, q1, q2, q3, q4⟩ := copy_cells (t :: ts) b off (by rw [← hl]; exact h)
    exact ⟨cs, by rw [q1, hl], fun j u hu => ⟨_, rfl, hb, by rw [add_none]; exact q2 j u hu⟩, q3, q4⟩

theorem CellsOf.append {W : World} {L1 L2 : List T} {c1 c2 : List Value} (h1 : CellsOf W L1 c1) (h2 : CellsOf W L2 c2) (hl : c1.length = L1.length * 4) : CellsOf W (L1 ++ L2) (c1 ++ c2) := by
  intro j k n s Lt hj
  rcases Nat.lt_or_ge j L1.length with hlt | hge
  · rw [List.getElem?_append_left hlt] at hj
    obtain ⟨a0, a1, a2, a3, a, l, c, a4, a5⟩ := h1 j k n s Lt hj
    have q : ∀ o u, c1[o]? = some u → (c1 ++ c2)[o]? = some u := fun o u hu => by
      rw [List.getElem?_append_left (List.getElem?_eq_some_iff.1 hu).1]
      exact hu
    exact ⟨a0, q _ _ a1, q _ _ a2, q _ _ a3, a, l, c, q _ _ a4, a5⟩
  · rw [List.getElem?_append_right hge] at hj
    obtain ⟨a0, a1, a2, a3, a, l, c, a4, a5⟩ := h2 (j - L1.length) k n s Lt hj
    have q : ∀ o u, c2[(j - L1.length) * 4 + o]? = some u → (c1 ++ c2)[j * 4 + o]? = some u := fun o u hu => by
      rw [List.getElem?_append_right (by omega), hl]
      rw [show j * 4 + o - L1.length * 4 = (j - L1.length) * 4 + o by omega]
      exact hu
    exact ⟨a0, q 0 _ a1, q 1 _ a2, q 2 _ a3, a, l, c, q 3 _ a4, a5⟩

/-- A row of one's own that holds a list's cells is that list. -/
theorem lies_row {W w : World} {B n : Nat} {v : Value} {cs : List Value} {L : List T} (h : w.ownsRow B 24 4 v n cs) (hn : n = L.length) (hl : L.length ≤ 9223372036854775807) (hc : CellsOf W L cs) (hk : ∀ Lt a l, LiesS W Lt a l → LiesS w Lt a l) :
    ∃ a c, v = .slice a n c ∧ n ≤ c ∧ LiesS w L a n := by
  rcases h.2 with ⟨rfl, rfl⟩ | ⟨g, cap, cur, rfl, h1, h2, h3, h4, h5, h6⟩
  · have : L = [] := List.length_eq_zero_iff.1 hn.symm
    subst this
    exact ⟨none, 0, rfl, Nat.le_refl _, by unfold LiesS; rfl⟩
  · refine ⟨_, cap, rfl, h3, ?_⟩
    subst hn
    have hg' : g < w.heap.size := (Array.getElem?_eq_some_iff.1 h2).1
    have q : ∀ o u, cs[o]? = some u → w.cell? ⟨g, o, none⟩ = some u := fun o u hu => by
      rw [← h6, List.getElem?_take] at hu
      rw [cell_of h2]
      split at hu
      · simpa using hu
      · cases hu
    have all : ∀ m, m ≤ L.length → LiesS w (L.drop (L.length - m)) (some ⟨g, (L.length - m) * 4, none⟩) m := by
      intro m
      induction m with
      | zero =>
        intro _
        rw [Nat.sub_zero, List.drop_length]
        unfold LiesS
        rfl
      | succ m ih =>
        intro hm
        have ih := ih (by omega)
        obtain ⟨j, hj⟩ : ∃ j, j = L.length - (m + 1) := ⟨_, rfl⟩
        have hj' : L.length - m = j + 1 := by omega
        have hjl : j < L.length := by omega
        have hm63 : m + 1 ≤ 9223372036854775807 := by omega
        have hlen : (L.drop (j + 1)).length = m := by rw [List.length_drop]; omega
        rw [← hj]
        rw [hj'] at ih
        obtain ⟨t, ht, hd⟩ := drop_get (L := L) (i := j) (by omega)
        obtain ⟨k, n, s, Lt⟩ := t
        obtain ⟨a0, a1, a2, a3, a, l, c, a4, a5, a6⟩ := hc j k n s Lt ht
        rw [hd]
        unfold LiesS
        refine ⟨g, j * 4, rfl, by rw [hlen], hm63, hg', ?_, ?_⟩
        · unfold LiesT
          exact ⟨a0, a, l, c, q _ _ a1, q _ _ a2, q _ _ a3, q _ _ a4, a5, hk _ _ _ a6⟩
        · rw [hlen]
          rw [show j * 4 + 4 = (j + 1) * 4 from by omega]
          exact ih
    have := all L.length (Nat.le_refl _)
    rw [Nat.sub_self, List.drop_zero, Nat.zero_mul] at this
    exact this

theorem wt_both : ∀ (L1 L2 : List T), wtL (L1 ++ L2) + 1 = wtL L1 + wtL L2
  | [], L2 => by
    rw [List.nil_append, wtL]
    omega
  | t :: ts, L2 => by
    have := wt_both ts L2
    rw [List.cons_append, wtL, wtL]
    omega
end Go.Proofs.YtekkifljcppmlaaGreatDoor
