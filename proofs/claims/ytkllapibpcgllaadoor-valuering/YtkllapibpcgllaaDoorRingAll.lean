/-
  What is proved here: the law ValueRing answers true of any three whole numbers, wherever the tables that Go's library reads lie as they were laid; what was there is as it was.
-/
import Derived.Test.YtkllapibpcgllaaDoorRing
namespace Go.Proofs.YtkllapibpcgllaaDoor
open Go.RowKit
set_option linter.unusedVariables false

theorem made_add (x y : Int) : made 43 x y = x + y := rfl
theorem made_sub (x y : Int) : made 45 x y = x - y := rfl
theorem made_mul (x y : Int) : made 42 x y = x * y := rfl

theorem rk_comm (a b : Int) : rkV 43 (some b) (some a) = rkV 43 (some a) (some b) ∧ rkE 43 (some b) (some a) = rkE 43 (some a) (some b) := by
  simp only [rkV, rkE, made_add, Int.add_comm b a, and_self]

theorem kv_some {o : Option Int} (h : ¬ kv o = 0) : ∃ x, o = some x := by
  cases o with
  | none => exact absurd rfl h
  | some x => exact ⟨x, rfl⟩

theorem rk_zero {sg : UInt8} {x y : Int} (h : rkE sg (some x) (some y) = 0) : fits (made sg x y) = true ∧ rkV sg (some x) (some y) = some (made sg x y) := by
  simp only [rkE, errOf] at h
  split at h
  · rename_i hf
    exact ⟨hf, by simp [rkV, held, hf]⟩
  · exact absurd h (by decide)

theorem ring_true (B : Nat) (a b c : Int) (ha : fits a = true) (hb : fits b = true) (hc : fits c = true) (w : World) (hB : B ≤ w.heap.size) (hT : Tabs B w) (hP : Pow10 B w) :
    Calls Tryd.prog 7 #[.int .i64 a, .int .i64 b, .int .i64 c] w fun e w' => e = .returned (.bool true) ∧ Below w.heap.size w w' := by
  have oa : okV (some a) := fun x hx => by simp only [Option.some.injEq] at hx; rw [← hx]; exact ha
  have ob : okV (some b) := fun x hx => by simp only [Option.some.injEq] at hx; rw [← hx]; exact hb
  have oc : okV (some c) := fun x hx => by simp only [Option.some.injEq] at hx; rw [← hx]; exact hc
  have hv : ∀ W, Below w.heap.size w W → Calls Tryd.prog 8 #[] W fun e w' => e = .returned (.bool true) ∧ Below W.heap.size W w' := fun W k => valued_true B W (by have := k.size; omega) (hT.below (k.mono hB)) (hP.below (k.mono hB))
  have p43 : (43 : UInt8) = 43 ∨ (43 : UInt8) = 45 ∨ (43 : UInt8) = 42 := .inl rfl
  have p45 : (45 : UInt8) = 43 ∨ (45 : UInt8) = 45 ∨ (45 : UInt8) = 42 := .inr (.inl rfl)
  have p42 : (42 : UInt8) = 43 ∨ (42 : UInt8) = 45 ∨ (42 : UInt8) = 42 := .inr (.inr rfl)
  have h1 := fun W => reckon_iv 43 p43 (some a) (some b) oa ob W
  have h2 := fun W => reckon_iv 43 p43 (some b) (some a) ob oa W
  rw [(rk_comm a b).1, (rk_comm a b).2] at h2
  have oP := okV_rk 43 (some a) (some b)
  have h3 := fun W => reckon_iv 42 p42 (rkV 43 (some a) (some b)) (some c) oP oc W
  have h4 := fun W => reckon_iv 42 p42 (some a) (some c) oa oc W
  have h5 := fun W => reckon_iv 42 p42 (some b) (some c) ob oc W
  have oM := okV_rk 42 (some a) (some c)
  have oN := okV_rk 42 (some b) (some c)
  have h6 := fun W => reckon_iv 43 p43 (rkV 42 (some a) (some c)) (rkV 42 (some b) (some c)) oM oN W
  by_cases t0 : kv (rkV 43 (some a) (some b)) = 0
  · exact ring_0 a b c _ _ _ _ _ _ _ _ _ _ _ _ _ _ _ w h1 h2 hv h3 h4 h5 h6 (by simpa using t0)
  have f0 : (kv (rkV 43 (some a) (some b)) == 0) = false := by simpa using t0
  by_cases t1 : rkE 42 (rkV 43 (some a) (some b)) (some c) = 0
  rotate_left
  · exact ring_1 a b c _ _ _ _ _ _ _ _ _ _ _ _ _ _ _ w h1 h2 hv h3 h4 h5 h6 f0 (by simpa using t1)
  by_cases t2 : rkE 42 (some a) (some c) = 0
  rotate_left
  · exact ring_2 a b c _ _ _ _ _ _ _ _ _ _ _ _ _ _ _ w h1 h2 hv h3 h4 h5 h6 f0 (by simpa using t1) (by simpa using t2)
  by_cases t3 : rkE 42 (some b) (some c) = 0
  rotate_left
  · exact ring_3 a b c _ _ _ _ _ _ _ _ _ _ _ _ _ _ _ w h1 h2 hv h3 h4 h5 h6 f0 (by simpa using t1) (by simpa using t2) (by simpa using t3)
  by_cases t4 : rkE 43 (rkV 42 (some a) (some c)) (rkV 42 (some b) (some c)) = 0
  rotate_left
  · exact ring_4 a b c _ _ _ _ _ _ _ _ _ _ _ _ _ _ _ w h1 h2 hv h3 h4 h5 h6 f0 (by simpa using t1) (by simpa using t2) (by simpa using t3) (by simpa using t4)
  obtain ⟨x, hx⟩ := kv_some t0
  have hx' : x = a + b := by
    have e : rkV 43 (some a) (some b) = held (a + b) := rfl
    rw [e] at hx
    cases hf : fits (a + b) with
    | true => rw [held_fit hf, Option.some.injEq] at hx; exact hx.symm
    | false => rw [held_not hf] at hx; simp at hx
  subst hx'
  have hM := rk_zero t2
  have hN := rk_zero t3
  rw [hM.2, hN.2] at t4 h6
  have hS := rk_zero t4
  have t1' := t1
  rw [hx] at t1'
  have hL := rk_zero t1'
  have eSL : made 43 (made 42 a c) (made 42 b c) = made 42 (a + b) c := by simp only [made_add, made_mul]; rw [Int.add_mul]
  have oL : okV (some (made 42 (a + b) c)) := fun y hy => by simp only [Option.some.injEq] at hy; rw [← hy]; exact hL.1
  have oN' : okV (some (made 42 b c)) := fun y hy => by simp only [Option.some.injEq] at hy; rw [← hy]; exact hN.1
  have h7 := fun W => reckon_iv 45 p45 (some (made 42 (a + b) c)) (some (made 42 b c)) oL oN' W
  have eD : made 45 (made 42 (a + b) c) (made 42 b c) = made 42 a c := by simp only [made_sub, made_mul]; rw [Int.add_mul]; omega
  have hD : rkV 45 (some (made 42 (a + b) c)) (some (made 42 b c)) = some (made 42 a c) ∧ rkE 45 (some (made 42 (a + b) c)) (some (made 42 b c)) = 0 := by
    simp only [rkV, rkE, eD]
    exact ⟨held_fit hM.1, err_fit hM.1⟩
  rw [hD.1, hD.2] at h7
  rw [hS.2, eSL] at h6
  rw [hx, hL.2] at h3
  rw [hM.2] at h4
  rw [hN.2] at h5
  rw [hx] at h1 h2 f0 t1
  exact ring_5 a b c _ _ _ _ _ _ _ _ _ _ _ _ 0 0 _ w h1 h2 hv h3 h4 h5 h6 h7 f0 (by simpa using t1) (by simpa using t2) (by simpa using t3) (by simpa using t4)
end Go.Proofs.YtkllapibpcgllaaDoor
