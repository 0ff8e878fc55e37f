/-
  What is proved here: what espalierbig's SetInt64, NewInt, sum, Add and Sub answer: whole numbers, their sum and difference.
-/
import Derived.Test.YtekkifljcppmlaaGreatDoorBgInt
import Derived.Deep.RegionHeld3
namespace Go.Proofs.YtekkifljcppmlaaGreatDoor
open Go.RowKit
set_option linter.unusedVariables false

def sgn (neg : Bool) (v : Nat) : Int := if neg = true then -(v : Int) else (v : Int)

/-- What sum answers. -/
def SumEnd (w' : World) (z : Int) (e : Ending) : Prop := ∃ rn a l c ws, e = .returned (.tuple #[.bool rn, .slice a l c]) ∧ WAt w' ws a l ∧ l ≤ c ∧ c ≤ 9223372036854775807 ∧ (a = none → c = 0) ∧ Trimmed ws ∧ z = sgn rn (vW ws)

theorem len_two {ws : List Nat} (h : Trimmed ws) (hv : vW ws ≤ 9223372036854775808) : ws.length ≤ 2 := by
  rcases Nat.lt_or_ge 2 ws.length with h3 | h3
  · exfalso
    have := vW_short (xs := [4294967295, 4294967295]) (fun x hx => by simp at hx; omega) h (by simpa using h3)
    have e : vW [4294967295, 4294967295] = 18446744073709551615 := by decide
    omega
  · exact h3

set_option maxHeartbeats 4000000 in
set_option maxRecDepth 100000 in
theorem sum_any (xn yn : Bool) (xs ys : List Nat) (a : Option Addr) (la ca : Nat) (b : Option Addr) (lb cb : Nat) (w : World) (hA : WAt w xs a la) (hB : WAt w ys b lb) (hTx : Trimmed xs) (hTy : Trimmed ys) (h100 : la ≤ 100) (h100b : lb ≤ 100) :
    Calls Tryz.prog 36 #[.bool xn, .slice a la ca, .bool yn, .slice b lb cb] w fun e w' => SumEnd w' (sgn xn (vW xs) + sgn yn (vW ys)) e ∧ Below w.heap.size w w' := by
  have CA : Hid (∀ W, Below w.heap.size w W → Calls Tryz.prog 56 #[.slice a la ca, .slice b lb cb] W fun e w' => BigEnd w' (vW xs + vW ys) e ∧ Below W.heap.size W w') := fun W k => by
    by_cases h : lb ≤ la
    · exact add_ge xs ys a la ca b lb cb W (hA.below k) (hB.below k) h100 h100b h
    · rw [Nat.add_comm]
      exact add_lt ys xs b lb cb a la ca W (hB.below k) (hA.below k) h100b h100 (by omega)
  have CC : Hid (∀ W, Below w.heap.size w W → Calls Tryz.prog 57 #[.slice a la ca, .slice b lb cb] W fun e w' => e = .returned (.int .i64 (cmpV (vW xs) (vW ys))) ∧ Below W.heap.size W w') := fun W k => cmp_any xs ys a la ca b lb cb W (hA.below k) (hB.below k) hTx hTy
  have le1 : vW ys ≤ vW xs → lb ≤ la := fun hv => by
    rcases Nat.lt_or_ge la lb with h | h
    · have := vW_short hA.2.2.1 hTy (by have := hA.1; have := hB.1; omega)
      omega
    · exact h
  have le2 : vW xs < vW ys → la ≤ lb := fun hv => by
    rcases Nat.lt_or_ge lb la with h | h
    · have := vW_short hB.2.2.1 hTx (by have := hA.1; have := hB.1; omega)
      omega
    · exact h
  have CS : Hid (vW ys ≤ vW xs → ∀ W, Below w.heap.size w W → Calls Tryz.prog 58 #[.slice a la ca, .slice b lb cb] W fun e w' => BigEnd w' (vW xs - vW ys) e ∧ Below W.heap.size W w') := fun hv W k => sub_any xs ys a la ca b lb cb W (hA.below k) (hB.below k) h100 (le1 hv) hv
  have CT : Hid (vW xs < vW ys → ∀ W, Below w.heap.size w W → Calls Tryz.prog 58 #[.slice b lb cb, .slice a la ca] W fun e w' => BigEnd w' (vW ys - vW xs) e ∧ Below W.heap.size W w') := fun hv W k => sub_any ys xs b lb cb a la ca W (hB.below k) (hA.below k) h100b (le2 hv) (by omega)
  obtain ⟨z, hz⟩ : ∃ z, z = sgn xn (vW xs) + sgn yn (vW ys) := ⟨_, rfl⟩
  rw [← hz]
  have HZ := toHid hz
  obtain ⟨X, hX⟩ : ∃ X, X = vW xs := ⟨_, rfl⟩
  obtain ⟨Y, hY⟩ : ∃ Y, Y = vW ys := ⟨_, rfl⟩
  rw [← hX, ← hY] at CA CC CS CT HZ
  clear hA hB hTx hTy le1 le2 hz hX hY
  by_cases hn : xn = yn
  · subst hn
    go_enter Tryz.func36, Tryz.ntmps36
    go_wp2_with fail
    refine (CA.out _ (Below.refl _ _)).mono ?_
    rintro e w1 ⟨⟨ra, rl, rc, rs, rfl, g1, g2, g3, g4, g5, g6⟩, k1⟩
    have HE := toHid (show SumEnd w1 z (.returned (.tuple #[.bool xn, .slice ra rl rc])) from ⟨xn, ra, rl, rc, rs, rfl, g1, g2, g3, g4, g6, by rw [HZ.out, g5]; unfold sgn; cases xn <;> simp <;> omega⟩)
    clear g1 g2 g3 g4 g5 g6
    go_wp2_with fail
    exact bodyPost_ret (v := .tuple #[.bool xn, .slice ra rl rc]) (by simp [results, Tryz.results36, go_sem]) rfl ⟨HE.out, k1⟩
  · have hne : (xn == yn) = false := by simpa using hn
    by_cases hv : X < Y
    · have hc : ¬ (0 : Int) ≤ cmpV X Y := by rw [cmpV_lt hv]; decide
      have HS := toHid (show z = sgn yn (Y - X) by rw [HZ.out]; unfold sgn; cases xn <;> cases yn <;> simp at hn ⊢ <;> omega)
      have CT' := toHid (CT.out hv)
      clear CS CT CA HZ hn
      generalize cmpV X Y = cv at CC hc
      go_enter Tryz.func36, Tryz.ntmps36
      go_wp2_with fail
      refine (CC.out _ (Below.refl _ _)).mono ?_
      rintro e w1 ⟨rfl, k1⟩
      go_wp2_with fail
      refine (CT'.out _ k1).mono ?_
      rintro e w2 ⟨⟨ra, rl, rc, rs, rfl, g1, g2, g3, g4, g5, g6⟩, k2⟩
      have HE := toHid (show SumEnd w2 z (.returned (.tuple #[.bool yn, .slice ra rl rc])) from ⟨yn, ra, rl, rc, rs, rfl, g1, g2, g3, g4, g6, by rw [HS.out, g5]⟩)
      have HB := toHid (below2 k1 k2)
      clear g1 g2 g3 g4 g5 g6 k1 k2
      go_wp2_with fail
      exact bodyPost_ret (v := .tuple #[.bool yn, .slice ra rl rc]) (by simp [results, Tryz.results36, go_sem]) rfl ⟨HE.out, HB.out⟩
    · have hc : (0 : Int) ≤ cmpV X Y := by unfold cmpV; rw [if_neg hv]; split <;> decide
      have HS := toHid (show z = sgn xn (X - Y) by rw [HZ.out]; unfold sgn; cases xn <;> cases yn <;> simp at hn ⊢ <;> omega)
      have CS' := toHid (CS.out (by omega))
      clear CS CT CA HZ hn
      generalize cmpV X Y = cv at CC hc
      go_enter Tryz.func36, Tryz.ntmps36
      go_wp2_with fail
      refine (CC.out _ (Below.refl _ _)).mono ?_
      rintro e w1 ⟨rfl, k1⟩
      go_wp2_with fail
      refine (CS'.out _ k1).mono ?_
      rintro e w2 ⟨⟨ra, rl, rc, rs, rfl, g1, g2, g3, g4, g5, g6⟩, k2⟩
      have HE := toHid (show SumEnd w2 z (.returned (.tuple #[.bool xn, .slice ra rl rc])) from ⟨xn, ra, rl, rc, rs, rfl, g1, g2, g3, g4, g6, by rw [HS.out, g5]⟩)
      have HB := toHid (below2 k1 k2)
      clear g1 g2 g3 g4 g5 g6 k1 k2
      go_wp2_with fail
      exact bodyPost_ret (v := .tuple #[.bool xn, .slice ra rl rc]) (by simp [results, Tryz.results36, go_sem]) rfl ⟨HE.out, HB.out⟩
end Go.Proofs.YtekkifljcppmlaaGreatDoor
