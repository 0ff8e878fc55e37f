/-
  What is proved here: the order of trees of values is an order: of a value and itself 0, turned round its opposite, and it goes through.
-/
import Derived.Test.YtkllapibpcgllabDoorTrees
namespace Go.Proofs.YtkllapibpcgllabDoor
open Go.RowKit
set_option linter.unusedVariables false

/-- The first of two answers that isn't 0. -/
def lex (p q : Int) : Int := if p = 0 then q else p

/-- Three answers (of x and y, y and z, x and z) go through. -/
def TR (x y z : Int) : Prop := (x ≤ 0 → y ≤ 0 → z ≤ 0) ∧ (x < 0 → y ≤ 0 → z < 0) ∧ (x ≤ 0 → y < 0 → z < 0) ∧ (x = 0 → y = 0 → z = 0)

theorem lex_TR {p1 p2 p3 q1 q2 q3 : Int} (h : TR p1 p2 p3) (k : TR q1 q2 q3) : TR (lex p1 q1) (lex p2 q2) (lex p3 q3) := by
  obtain ⟨a1, a2, a3, a4⟩ := h
  obtain ⟨b1, b2, b3, b4⟩ := k
  unfold lex
  refine ⟨?_, ?_, ?_, ?_⟩ <;> intro x y <;> split at x <;> split at y <;> split <;> omega

theorem lex_neg (p q : Int) : lex (-p) (-q) = - lex p q := by
  unfold lex
  by_cases h : p = 0
  · simp [h]
  · have h2 : ¬ -p = 0 := by omega
    simp [h, h2]

theorem cmpI_neg (a b : Int) : cmpI b a = - cmpI a b := by
  unfold cmpI
  repeat' split <;> first | rfl | omega

theorem cmpI_self (a : Int) : cmpI a a = 0 := by
  unfold cmpI
  simp

theorem cmpI_TR (a b c : Int) : TR (cmpI a b) (cmpI b c) (cmpI a c) := by
  unfold TR cmpI
  repeat' split <;> first | omega | skip

theorem cmpI_zero {a b : Int} (h : cmpI a b = 0) : a = b := by
  unfold cmpI at h
  split at h
  · omega
  · split at h
    · omega
    · omega

def cmpB : List UInt8 → List UInt8 → Int
  | [], [] => 0
  | [], _ :: _ => -1
  | _ :: _, [] => 1
  | a :: x, b :: y => lex (cmpI a.toNat b.toNat) (cmpB x y)

theorem cmpB_less : ∀ (x y : List UInt8), (if Op.bytesLess x y then -1 else if x == y then 0 else 1 : Int) = cmpB x y
  | [], [] => rfl
  | [], _ :: _ => rfl
  | a :: x, [] => by simp [Op.bytesLess, cmpB]
  | a :: x, b :: y => by
    have ih := cmpB_less x y
    unfold cmpB
    rw [← ih]
    have eB : Op.bytesLess (a :: x) (b :: y) = (decide (a < b) || (a == b && Op.bytesLess x y)) := rfl
    rw [eB]
    unfold lex cmpI
    rcases Nat.lt_trichotomy a.toNat b.toNat with h | h | h
    · have h1 : a < b := UInt8.lt_iff_toNat_lt.2 h
      have h2 : (a.toNat : Int) < b.toNat := by omega
      simp [h1, h2]
    · have h1 : a = b := UInt8.toNat_inj.1 h
      subst h1
      simp
    · have h1 : ¬ a < b := fun h' => by have := UInt8.lt_iff_toNat_lt.1 h'; omega
      have h2 : ¬ (a.toNat : Int) < b.toNat := by omega
      have h3 : (b.toNat : Int) < a.toNat := by omega
      have h4 : a ≠ b := fun e => by subst e; omega
      simp [h1, h2, h3, h4]

theorem cmpS_eq (a b : ByteArray) : cmpS a b = cmpB a.toList b.toList := cmpB_less _ _

theorem cmpB_self : ∀ x : List UInt8, cmpB x x = 0
  | [] => rfl
  | a :: x => by unfold cmpB; rw [cmpI_self, cmpB_self x]; rfl

theorem cmpB_neg : ∀ x y : List UInt8, cmpB y x = - cmpB x y
  | [], [] => rfl
  | [], _ :: _ => rfl
  | _ :: _, [] => rfl
  | a :: x, b :: y => by unfold cmpB; rw [cmpI_neg, cmpB_neg x y, lex_neg]

theorem cmpB_TR : ∀ x y z : List UInt8, TR (cmpB x y) (cmpB y z) (cmpB x z)
  | [], [], [] => by simp [cmpB, TR]
  | [], [], _ :: _ => by simp [cmpB, TR]
  | [], _ :: _, [] => by simp [cmpB, TR]
  | [], _ :: _, _ :: _ => by simp [cmpB, TR]
  | _ :: _, [], [] => by simp [cmpB, TR]
  | _ :: _, [], _ :: _ => by simp [cmpB, TR]
  | _ :: _, _ :: _, [] => by simp [cmpB, TR]
  | a :: x, b :: y, c :: z => by unfold cmpB; exact lex_TR (cmpI_TR _ _ _) (cmpB_TR x y z)

theorem cmpB_zero : ∀ {x y : List UInt8}, cmpB x y = 0 → x = y
  | [], [], _ => rfl
  | [], _ :: _, h => by simp [cmpB] at h
  | _ :: _, [], h => by simp [cmpB] at h
  | a :: x, b :: y, h => by
    unfold cmpB lex at h
    split at h
    · rename_i h1
      have e := cmpI_zero h1
      have e2 : a = b := UInt8.toNat_inj.1 (by omega)
      rw [e2, cmpB_zero h]
    · rename_i h1
      exact absurd h h1

theorem cmpP_lex (k n : Int) (s : ByteArray) (k' n' : Int) (s' : ByteArray) : cmpP k n s k' n' s' = lex (cmpI k k') (lex (cmpI n n') (cmpB s.toList s'.toList)) := by
  unfold cmpP lex
  rw [cmpS_eq]

theorem ordT_lex (k n : Int) (s : ByteArray) (L : List T) (k' n' : Int) (s' : ByteArray) (L' : List T) : ordT (.node k n s L) (.node k' n' s' L') = lex (cmpP k n s k' n' s') (ordL L L') := by
  unfold ordT lex
  rfl

theorem ordL_lex (t : T) (ts : List T) (u : T) (us : List T) : ordL (t :: ts) (u :: us) = lex (ordT t u) (ordL ts us) := by
  conv => lhs; unfold ordL
  rfl

mutual
theorem ordT_self : ∀ t : T, ordT t t = 0
  | .node k n s L => by rw [ordT_lex, cmpP_lex, cmpI_self, cmpI_self, cmpB_self, ordL_self L]; rfl
theorem ordL_self : ∀ L : List T, ordL L L = 0
  | [] => by unfold ordL; rfl
  | t :: ts => by rw [ordL_lex, ordT_self t, ordL_self ts]; rfl
end

mutual
theorem ordT_neg : ∀ t u : T, ordT u t = - ordT t u
  | .node k n s L, .node k' n' s' L' => by
    rw [ordT_lex, ordT_lex, cmpP_lex, cmpP_lex, cmpI_neg k k', cmpI_neg n n', cmpB_neg s.toList s'.toList, ordL_neg L L', lex_neg, lex_neg, lex_neg]
theorem ordL_neg : ∀ L M : List T, ordL M L = - ordL L M
  | [], [] => by unfold ordL; rfl
  | [], _ :: _ => by unfold ordL; rfl
  | _ :: _, [] => by unfold ordL; rfl
  | t :: ts, u :: us => by rw [ordL_lex, ordL_lex, ordT_neg t u, ordL_neg ts us, lex_neg]
end

theorem ordL_nil : ordL [] [] = 0 := by unfold ordL; rfl
theorem ordL_nil_cons (t : T) (ts : List T) : ordL [] (t :: ts) = -1 := by unfold ordL; rfl
theorem ordL_cons_nil (t : T) (ts : List T) : ordL (t :: ts) [] = 1 := by unfold ordL; rfl

mutual
theorem ordT_TR : ∀ t u v : T, TR (ordT t u) (ordT u v) (ordT t v)
  | .node k n s L, .node k' n' s' L', .node k2 n2 s2 L2 => by
    simp only [ordT_lex, cmpP_lex]
    exact lex_TR (lex_TR (cmpI_TR _ _ _) (lex_TR (cmpI_TR _ _ _) (cmpB_TR _ _ _))) (ordL_TR L L' L2)
theorem ordL_TR : ∀ x y z : List T, TR (ordL x y) (ordL y z) (ordL x z)
  | [], [], [] => by simp [ordL_nil, TR]
  | [], [], _ :: _ => by simp [ordL_nil, ordL_nil_cons, TR]
  | [], _ :: _, [] => by simp [ordL_nil, ordL_nil_cons, ordL_cons_nil, TR]
  | [], _ :: _, _ :: _ => by simp [ordL_nil_cons, TR]
  | _ :: _, [], [] => by simp [ordL_nil, ordL_cons_nil, TR]
  | _ :: _, [], _ :: _ => by simp [ordL_cons_nil, TR]
  | _ :: _, _ :: _, [] => by simp [ordL_cons_nil, TR]
  | t :: x, u :: y, v :: z => by simp only [ordL_lex]; exact lex_TR (ordT_TR t u v) (ordL_TR x y z)
end
end Go.Proofs.YtkllapibpcgllabDoor
