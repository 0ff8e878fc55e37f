/-
  What is proved here: bytes of whole numbers stand to each other as the numbers do; the law CodeInts answers true of any two whole numbers.
-/
import Derived.Test.YtdefjgbiinahdaaDoorCBytes2
namespace Go.Proofs.YtdefjgbiinahdaaDoor
open Go.RowKit
set_option linter.unusedVariables false

theorem byte_of (x : Nat) : (UInt8.ofNat x).toNat = x % 256 := by simp [UInt8.toNat_ofNat']

theorem mod_pow (m k : Nat) : m % 256 ^ (k + 1) = m % 256 ^ k + 256 ^ k * (m / 256 ^ k % 256) := by
  rw [Nat.mod_pow_succ]

theorem hiB_less : ∀ (k m n : Nat), Op.bytesLess (hiB m k) (hiB n k) = decide (m % 256 ^ k < n % 256 ^ k)
  | 0, m, n => by simp [hiB, Op.bytesLess, Nat.mod_one]
  | k + 1, m, n => by
    have ih := hiB_less k m n
    have e1 := mod_pow m k
    have e2 := mod_pow n k
    have b1 := byte_of (m / 256 ^ k)
    have b2 := byte_of (n / 256 ^ k)
    have p : 0 < 256 ^ k := Nat.pow_pos (by decide)
    have l1 := Nat.mod_lt m p
    have l2 := Nat.mod_lt n p
    simp only [hiB, Op.bytesLess]
    rw [ih, e1, e2, Bool.eq_iff_iff]
    simp only [Bool.or_eq_true, Bool.and_eq_true, decide_eq_true_eq, beq_iff_eq, UInt8.lt_iff_toNat_lt, ← UInt8.toNat_inj, b1, b2]
    generalize m / 256 ^ k % 256 = x
    generalize n / 256 ^ k % 256 = y
    generalize m % 256 ^ k = u at l1
    generalize n % 256 ^ k = v at l2
    generalize 256 ^ k = p at l1 l2
    rcases Nat.lt_trichotomy x y with h | h | h
    · have : p * (x + 1) ≤ p * y := Nat.mul_le_mul_left p h
      rw [Nat.mul_add] at this
      exact ⟨fun _ => by omega, fun _ => .inl h⟩
    · subst h
      exact ⟨fun h => by omega, fun h => .inr ⟨rfl, by omega⟩⟩
    · have : p * (y + 1) ≤ p * x := Nat.mul_le_mul_left p h
      rw [Nat.mul_add] at this
      exact ⟨fun h => by omega, fun h => by omega⟩

theorem hiB_same : ∀ (k m n : Nat), hiB m k = hiB n k → m % 256 ^ k = n % 256 ^ k
  | 0, m, n, _ => by simp [Nat.mod_one]
  | k + 1, m, n, h => by
    simp only [hiB, List.cons.injEq] at h
    have := hiB_same k m n h.2
    have b := congrArg UInt8.toNat h.1
    rw [byte_of, byte_of] at b
    rw [mod_pow, mod_pow, this, b]

theorem up_lt (n : Int) (h0 : -9223372036854775808 ≤ n) (h1 : n ≤ 9223372036854775807) : up n % 256 ^ 8 = up n := Nat.mod_eq_of_lt (by unfold up; omega)

theorem intB_list (n : Int) : (intB n).toList = 2 :: hiB (up n) 8 := by
  rw [ByteArray.toList_eq]
  rfl

theorem intB_less (a b : Int) (ha0 : -9223372036854775808 ≤ a) (ha1 : a ≤ 9223372036854775807) (hb0 : -9223372036854775808 ≤ b) (hb1 : b ≤ 9223372036854775807) : Op.bytesLess (intB a).toList (intB b).toList = decide (a < b) := by
  rw [intB_list, intB_list]
  simp only [Op.bytesLess]
  rw [hiB_less, up_lt a ha0 ha1, up_lt b hb0 hb1, Bool.eq_iff_iff]
  simp [up]
  omega

theorem intB_same (a b : Int) (ha0 : -9223372036854775808 ≤ a) (ha1 : a ≤ 9223372036854775807) (hb0 : -9223372036854775808 ≤ b) (hb1 : b ≤ 9223372036854775807) : ((intB a).toList == (intB b).toList) = (a == b) := by
  rw [intB_list, intB_list, Bool.eq_iff_iff]
  simp only [beq_iff_eq, List.cons.injEq, true_and]
  refine ⟨fun h => ?_, fun h => by rw [h]⟩
  have := hiB_same _ _ _ h
  rw [up_lt a ha0 ha1, up_lt b hb0 hb1] at this
  unfold up at this
  omega

set_option maxHeartbeats 1000000 in
set_option maxRecDepth 100000 in
theorem law_ints (a b : Int) (w : World) (ha0 : -9223372036854775808 ≤ a) (ha1 : a ≤ 9223372036854775807) (hb0 : -9223372036854775808 ≤ b) (hb1 : b ≤ 9223372036854775807) :
    Calls Tryd.prog 7 #[.int .i64 a, .int .i64 b] w fun e w' => e = .returned (.bool true) ∧ Below w.heap.size w w' := by
  have HL := intB_less a b ha0 ha1 hb0 hb1
  have HS := intB_same a b ha0 ha1 hb0 hb1
  go_enter Tryd.func7, Tryd.ntmps7
  go_wp2_with fail
  refine (num_any a _).mono ?_
  rintro e w1 ⟨rfl, k1⟩
  go_wp2_with fail
  refine (bytes_int a w1 ha0 ha1).mono ?_
  rintro e w2 ⟨rfl, k2⟩
  have c2 := bel2 k1 k2
  go_wp2_with fail
  refine (num_any b _).mono ?_
  rintro e w3 ⟨rfl, k3⟩
  have c3 := bel2 c2 k3
  go_wp2_with fail
  refine (bytes_int b w3 hb0 hb1).mono ?_
  rintro e w4 ⟨rfl, k4⟩
  have c4 := bel2 c3 k4
  go_wp2_with fail
  refine (coded_true w4).mono ?_
  rintro e w5 ⟨rfl, k5⟩
  have c5 := bel2 c4 k5
  go_wp2_with fail
  go_ret
  refine ⟨?_, c5⟩
  simp
end Go.Proofs.YtdefjgbiinahdaaDoor
