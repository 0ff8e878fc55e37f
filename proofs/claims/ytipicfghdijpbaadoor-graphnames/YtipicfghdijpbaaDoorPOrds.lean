/-
  What is proved here: see the remark of the text Ords (the parts of it that this seat needs).
-/
import Derived.Test.YtipicfghdijpbaaDoorPTrees
namespace Go.Proofs.YtipicfghdijpbaaDoor
open Go.RowKit
set_option linter.unusedVariables false

/-- The first of two answers that isn't 0. -/
def lex (p q : Int) : Int := if p = 0 then q else p

theorem cmpI_self (a : Int) : cmpI a a = 0 := by
  unfold cmpI
  simp

theorem cmpI_zero {a b : Int} (h : cmpI a b = 0) : a = b := by
  unfold cmpI at h
  split at h
  · omega
  · split at h
    · omega
    · omega

def cmpB : List UInt8 → List UInt8 → Int
  | [], [] => 0
  | [], _ :: _ => -1
  | _ :: _, [] => 1
  | a :: x, b :: y => lex (cmpI a.toNat b.toNat) (cmpB x y)

theorem cmpB_less : ∀ (x y : List UInt8), (if Op.bytesLess x y then -1 else if x == y then 0 else 1 : Int) = cmpB x y
  | [], [] => rfl
  | [], _ :: _ => rfl
  | a :: x, [] => by simp [Op.bytesLess, cmpB]
  | a :: x, b :: y => by
    have ih := cmpB_less x y
    unfold cmpB
    rw [← ih]
    have eB : Op.bytesLess (a :: x) (b :: y) = (decide (a < b) || (a == b && Op.bytesLess x y)) := rfl
    rw [eB]
    unfold lex cmpI
    rcases Nat.lt_trichotomy a.toNat b.toNat with h | h | h
    · have h1 : a < b := UInt8.lt_iff_toNat_lt.2 h
      have h2 : (a.toNat : Int) < b.toNat := by omega
      simp [h1, h2]
    · have h1 : a = b := UInt8.toNat_inj.1 h
      subst h1
      simp
    · have h1 : ¬ a < b := fun h' => by have := UInt8.lt_iff_toNat_lt.1 h'; omega
      have h2 : ¬ (a.toNat : Int) < b.toNat := by omega
      have h3 : (b.toNat : Int) < a.toNat := by omega
      have h4 : a ≠ b := fun e => by subst e; omega
      simp [h1, h2, h3, h4]

theorem cmpS_eq (a b : ByteArray) : cmpS a b = cmpB a.toList b.toList := cmpB_less _ _

theorem cmpB_self : ∀ x : List UInt8, cmpB x x = 0
  | [] => rfl
  | a :: x => by unfold cmpB; rw [cmpI_self, cmpB_self x]; rfl

theorem cmpB_zero : ∀ {x y : List UInt8}, cmpB x y = 0 → x = y
  | [], [], _ => rfl
  | [], _ :: _, h => by simp [cmpB] at h
  | _ :: _, [], h => by simp [cmpB] at h
  | a :: x, b :: y, h => by
    unfold cmpB lex at h
    split at h
    · rename_i h1
      have e := cmpI_zero h1
      have e2 : a = b := UInt8.toNat_inj.1 (by omega)
      rw [e2, cmpB_zero h]
    · rename_i h1
      exact absurd h h1

theorem cmpP_lex (k n : Int) (s : ByteArray) (k' n' : Int) (s' : ByteArray) : cmpP k n s k' n' s' = lex (cmpI k k') (lex (cmpI n n') (cmpB s.toList s'.toList)) := by
  unfold cmpP lex
  rw [cmpS_eq]

theorem ordT_lex (k n : Int) (s : ByteArray) (L : List T) (k' n' : Int) (s' : ByteArray) (L' : List T) : ordT (.node k n s L) (.node k' n' s' L') = lex (cmpP k n s k' n' s') (ordL L L') := by
  unfold ordT lex
  rfl

theorem ordL_lex (t : T) (ts : List T) (u : T) (us : List T) : ordL (t :: ts) (u :: us) = lex (ordT t u) (ordL ts us) := by
  conv => lhs; unfold ordL
  rfl

theorem ordL_nil : ordL [] [] = 0 := by unfold ordL; rfl

theorem ordL_nil_cons (t : T) (ts : List T) : ordL [] (t :: ts) = -1 := by unfold ordL; rfl

theorem ordL_cons_nil (t : T) (ts : List T) : ordL (t :: ts) [] = 1 := by unfold ordL; rfl

end Go.Proofs.YtipicfghdijpbaaDoor
