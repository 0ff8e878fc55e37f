/-
  What is proved here: whether two trees of values are the same (0: no, 1: yes, 2: it can't be known), said as a plain function; of values whose lists bear no number and no text it is 1 or 2 where their order is 0, and where it is 1 their order is 0.
-/
import Derived.Test.YtkllapibpcgllabDoorOrds
namespace Go.Proofs.YtkllapibpcgllabDoor
open Go.RowKit
set_option linter.unusedVariables false

/-- No outdoes 'not known', and that outdoes yes. -/
def meet (x y : Int) : Int := if x = 0 then 0 else if y = 0 then 0 else if x = 1 then y else 2

mutual
def sameT : T → T → Int
  | .node k n s L, .node k' n' s' L' => if k = 0 ∨ k' = 0 then 2 else if k = 4 ∧ k' = 4 then sameL L L' else if ordT (.node k n s L) (.node k' n' s' L') = 0 then 1 else 0
def sameL : List T → List T → Int
  | [], [] => 1
  | [], _ :: _ => 0
  | _ :: _, [] => 0
  | t :: ts, u :: us => meet (sameT t u) (sameL ts us)
end

/-- One of the three answers. -/
def Tri (x : Int) : Prop := x = 0 ∨ x = 1 ∨ x = 2

theorem Tri.meet {x y : Int} (hx : Tri x) (hy : Tri y) : Tri (meet x y) := by
  rcases hx with rfl | rfl | rfl <;> rcases hy with rfl | rfl | rfl <;> simp [Go.Proofs.YtkllapibpcgllabDoor.meet, Tri]

theorem meet_assoc {x y z : Int} (hx : Tri x) (hy : Tri y) (hz : Tri z) : meet (meet x y) z = meet x (meet y z) := by
  rcases hx with rfl | rfl | rfl <;> rcases hy with rfl | rfl | rfl <;> rcases hz with rfl | rfl | rfl <;> simp [meet]

theorem meet_comm {x y : Int} (hx : Tri x) (hy : Tri y) : meet x y = meet y x := by
  rcases hx with rfl | rfl | rfl <;> rcases hy with rfl | rfl | rfl <;> simp [meet]

theorem meet_one {x : Int} (hx : Tri x) : meet 1 x = x := by
  rcases hx with rfl | rfl | rfl <;> simp [meet]

theorem meet_one' {x : Int} (hx : Tri x) : meet x 1 = x := by
  rcases hx with rfl | rfl | rfl <;> simp [meet]

theorem meet_zero (x : Int) : meet 0 x = 0 := by simp [meet]
theorem meet_zero' (x : Int) : meet x 0 = 0 := by simp [meet]

mutual
theorem sameT_tri : ∀ t u : T, Tri (sameT t u)
  | .node k n s L, .node k' n' s' L' => by
    unfold sameT
    split
    · exact .inr (.inr rfl)
    · split
      · exact sameL_tri L L'
      · split
        · exact .inr (.inl rfl)
        · exact .inl rfl
theorem sameL_tri : ∀ x y : List T, Tri (sameL x y)
  | [], [] => by unfold sameL; exact .inr (.inl rfl)
  | [], _ :: _ => by unfold sameL; exact .inl rfl
  | _ :: _, [] => by unfold sameL; exact .inl rfl
  | t :: ts, u :: us => by unfold sameL; exact (sameT_tri t u).meet (sameL_tri ts us)
end

theorem sameL_nil : sameL [] [] = 1 := by unfold sameL; rfl
theorem sameL_cons (t : T) (ts : List T) (u : T) (us : List T) : sameL (t :: ts) (u :: us) = meet (sameT t u) (sameL ts us) := by
  conv => lhs; unfold sameL

theorem sameL_length : ∀ {x y : List T}, x.length ≠ y.length → sameL x y = 0
  | [], [], h => absurd rfl h
  | [], _ :: _, _ => by unfold sameL; rfl
  | _ :: _, [], _ => by unfold sameL; rfl
  | t :: ts, u :: us, h => by
    rw [sameL_cons, sameL_length (x := ts) (y := us) (by simpa using h), meet_zero']

/-- Lists bear no number and no text, all the way down. -/
inductive Well : T → Prop
  | node (k n : Int) (s : ByteArray) (L : List T) (h1 : k = 4 → n = 0 ∧ s = ⟨#[]⟩) (h2 : k = 4 → ∀ t ∈ L, Well t) : Well (.node k n s L)

theorem lex_zero {p q : Int} (h : lex p q = 0) : p = 0 ∧ q = 0 := by
  unfold lex at h
  split at h
  · exact ⟨‹_›, h⟩
  · exact absurd h ‹_›

theorem meet_eq_one {x y : Int} (hx : Tri x) (hy : Tri y) (h : meet x y = 1) : x = 1 ∧ y = 1 := by
  rcases hx with rfl | rfl | rfl <;> rcases hy with rfl | rfl | rfl <;> simp [meet] at h ⊢

theorem meet_ne_zero {x y : Int} (hx : x ≠ 0) (hy : y ≠ 0) : meet x y ≠ 0 := by
  unfold meet
  simp only [hx, hy, if_false]
  split
  · exact hy
  · decide

mutual
theorem order_of_same : ∀ t u : T, Well t → Well u → sameT t u = 1 → ordT t u = 0
  | .node k n s L, .node k' n' s' L', ht, hu, h => by
    unfold sameT at h
    split at h
    · exact absurd h (by decide)
    · split at h
      · rename_i h4
        obtain ⟨rfl, rfl⟩ := h4
        cases ht with
        | node _ _ _ _ ht hL =>
        cases hu with
        | node _ _ _ _ hu hL' =>
        obtain ⟨rfl, rfl⟩ := ht rfl
        obtain ⟨rfl, rfl⟩ := hu rfl
        rw [ordT_lex, cmpP_lex, cmpI_self, cmpI_self, cmpB_self]
        exact orders_of_same L L' (hL rfl) (hL' rfl) h
      · split at h
        · assumption
        · exact absurd h (by decide)
theorem orders_of_same : ∀ x y : List T, (∀ t ∈ x, Well t) → (∀ t ∈ y, Well t) → sameL x y = 1 → ordL x y = 0
  | [], [], _, _, _ => ordL_nil
  | [], _ :: _, _, _, h => by unfold sameL at h; exact absurd h (by decide)
  | _ :: _, [], _, _, h => by unfold sameL at h; exact absurd h (by decide)
  | t :: ts, u :: us, hx, hy, h => by
    rw [sameL_cons] at h
    obtain ⟨h1, h2⟩ := meet_eq_one (sameT_tri t u) (sameL_tri ts us) h
    rw [ordL_lex, order_of_same t u (hx t (List.mem_cons_self ..)) (hy u (List.mem_cons_self ..)) h1, orders_of_same ts us (fun a ha => hx a (List.mem_cons_of_mem _ ha)) (fun a ha => hy a (List.mem_cons_of_mem _ ha)) h2]
    rfl
end

mutual
theorem same_of_order : ∀ t u : T, ordT t u = 0 → sameT t u ≠ 0
  | .node k n s L, .node k' n' s' L', h => by
    unfold sameT
    split
    · decide
    · split
      · rw [ordT_lex] at h
        exact sames_of_order L L' (lex_zero h).2
      · simp
theorem sames_of_order : ∀ x y : List T, ordL x y = 0 → sameL x y ≠ 0
  | [], [], _ => by unfold sameL; decide
  | [], _ :: _, h => by rw [ordL_nil_cons] at h; exact absurd h (by decide)
  | _ :: _, [], h => by rw [ordL_cons_nil] at h; exact absurd h (by decide)
  | t :: ts, u :: us, h => by
    rw [ordL_lex] at h
    rw [sameL_cons]
    exact meet_ne_zero (same_of_order t u (lex_zero h).1) (sames_of_order ts us (lex_zero h).2)
end

/-- Of two values that are Ints or Texts both: the same where their order is 0. -/
theorem same_plain (k n : Int) (s : ByteArray) (L : List T) (n' : Int) (s' : ByteArray) (L' : List T) (h0 : k ≠ 0) (h4 : k ≠ 4) : sameT (.node k n s L) (.node k n' s' L') = if ordT (.node k n s L) (.node k n' s' L') = 0 then 1 else 0 := by
  unfold sameT
  simp [h0, h4]
end Go.Proofs.YtkllapibpcgllabDoor
