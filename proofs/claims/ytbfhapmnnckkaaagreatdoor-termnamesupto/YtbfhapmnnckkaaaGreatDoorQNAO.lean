/-
  What is proved here: what the texts LQInts, LBgRk6, LBgRk7, LVApp prove, in one text.
-/
import Derived.Test.YtbfhapmnnckkaaaGreatDoorQNAN
import Derived.Deep.AppendLies
import Derived.Laws.OwnMore
namespace Go.Proofs.YtbfhapmnnckkaaaGreatDoor
open Go.RowKit
set_option linter.unusedVariables false

/-- From -2^63 to 2^63 - 1. -/
def fits (x : Int) : Bool := decide (-9223372036854775808 ≤ x ∧ x ≤ 9223372036854775807)

/-- The kind and the number of an Int, or of Null. -/
def kvI (o : Option Int) : Int := if o.isSome then 2 else 0

def nv (o : Option Int) : Int := o.getD 0

/-- What is made of a number that may not fit. -/
def held (x : Int) : Option Int := if fits x then some x else none

def errOf (x : Int) : Int := if fits x then 0 else 4

theorem fits_iff (x : Int) : fits x = true ↔ -9223372036854775808 ≤ x ∧ x ≤ 9223372036854775807 := by simp [fits]

set_option maxHeartbeats 2000000 in
set_option maxRecDepth 100000 in
theorem ints_add_fit (a b : Int) (ha0 : -9223372036854775808 ≤ a) (ha1 : a ≤ 9223372036854775807) (hb0 : -9223372036854775808 ≤ b) (hb1 : b ≤ 9223372036854775807) (h0 : -9223372036854775808 ≤ a + b) (h1 : a + b ≤ 9223372036854775807) (w : World) :
    Calls Tryz.prog 123 #[.string ⟨#[43]⟩, .int .i64 a, .int .i64 b] w fun e w' => e = .returned (.tuple #[.agg #[.int .i64 2, .int .i64 (a + b), .string ⟨#[]⟩, .slice none 0 0], .int .i64 0]) ∧ Below w.heap.size w w' := by
  by_cases hb : b < 0
  · have t1 : a + b < a := by omega
    go_enter Tryz.func123, Tryz.ntmps123
    go_wp2
    exact bodyPost_ret (v := .tuple #[.agg #[.int .i64 2, .int .i64 (a + b), .string ⟨#[]⟩, .slice none 0 0], .int .i64 0]) (by simp [results, Tryz.results123, go_sem]) rfl ⟨rfl, (Below.refl _ _).alloc (Nat.le_refl _) _⟩
  · have t1 : ¬ a + b < a := by omega
    go_enter Tryz.func123, Tryz.ntmps123
    go_wp2
    exact bodyPost_ret (v := .tuple #[.agg #[.int .i64 2, .int .i64 (a + b), .string ⟨#[]⟩, .slice none 0 0], .int .i64 0]) (by simp [results, Tryz.results123, go_sem]) rfl ⟨rfl, (Below.refl _ _).alloc (Nat.le_refl _) _⟩

set_option maxHeartbeats 2000000 in
set_option maxRecDepth 100000 in
theorem ints_add_over1 (a b N : Int) (hN : Go.RowKit.wrap64 (a + b) = N) (t1 : N < a) (t2 : ¬ b < 0) (w : World) :
    Calls Tryz.prog 123 #[.string ⟨#[43]⟩, .int .i64 a, .int .i64 b] w fun e w' => e = .returned (.tuple #[.agg #[.int .i64 0, .int .i64 0, .string ⟨#[]⟩, .slice none 0 0], .int .i64 4]) ∧ Below w.heap.size w w' := by
  go_enter Tryz.func123, Tryz.ntmps123
  go_wp2
  exact bodyPost_ret (v := .tuple #[.agg #[.int .i64 0, .int .i64 0, .string ⟨#[]⟩, .slice none 0 0], .int .i64 4]) (by simp [results, Tryz.results123, go_sem]) rfl ⟨rfl, (Below.refl _ _).alloc (Nat.le_refl _) _⟩

set_option maxHeartbeats 2000000 in
set_option maxRecDepth 100000 in
theorem ints_add_over2 (a b N : Int) (hN : Go.RowKit.wrap64 (a + b) = N) (t1 : ¬ N < a) (t2 : b < 0) (w : World) :
    Calls Tryz.prog 123 #[.string ⟨#[43]⟩, .int .i64 a, .int .i64 b] w fun e w' => e = .returned (.tuple #[.agg #[.int .i64 0, .int .i64 0, .string ⟨#[]⟩, .slice none 0 0], .int .i64 4]) ∧ Below w.heap.size w w' := by
  go_enter Tryz.func123, Tryz.ntmps123
  go_wp2
  exact bodyPost_ret (v := .tuple #[.agg #[.int .i64 0, .int .i64 0, .string ⟨#[]⟩, .slice none 0 0], .int .i64 4]) (by simp [results, Tryz.results123, go_sem]) rfl ⟨rfl, (Below.refl _ _).alloc (Nat.le_refl _) _⟩

set_option maxHeartbeats 2000000 in
set_option maxRecDepth 100000 in
theorem ints_sub_over1 (a b N : Int) (hN : Go.RowKit.wrap64 (a - b) = N) (t1 : a < N) (t2 : ¬ b < 0) (w : World) :
    Calls Tryz.prog 123 #[.string ⟨#[45]⟩, .int .i64 a, .int .i64 b] w fun e w' => e = .returned (.tuple #[.agg #[.int .i64 0, .int .i64 0, .string ⟨#[]⟩, .slice none 0 0], .int .i64 4]) ∧ Below w.heap.size w w' := by
  go_enter Tryz.func123, Tryz.ntmps123
  go_wp2
  exact bodyPost_ret (v := .tuple #[.agg #[.int .i64 0, .int .i64 0, .string ⟨#[]⟩, .slice none 0 0], .int .i64 4]) (by simp [results, Tryz.results123, go_sem]) rfl ⟨rfl, (Below.refl _ _).alloc (Nat.le_refl _) _⟩

set_option maxHeartbeats 2000000 in
set_option maxRecDepth 100000 in
theorem ints_sub_over2 (a b N : Int) (hN : Go.RowKit.wrap64 (a - b) = N) (t1 : ¬ a < N) (t2 : b < 0) (w : World) :
    Calls Tryz.prog 123 #[.string ⟨#[45]⟩, .int .i64 a, .int .i64 b] w fun e w' => e = .returned (.tuple #[.agg #[.int .i64 0, .int .i64 0, .string ⟨#[]⟩, .slice none 0 0], .int .i64 4]) ∧ Below w.heap.size w w' := by
  go_enter Tryz.func123, Tryz.ntmps123
  go_wp2
  exact bodyPost_ret (v := .tuple #[.agg #[.int .i64 0, .int .i64 0, .string ⟨#[]⟩, .slice none 0 0], .int .i64 4]) (by simp [results, Tryz.results123, go_sem]) rfl ⟨rfl, (Below.refl _ _).alloc (Nat.le_refl _) _⟩

set_option maxHeartbeats 2000000 in
set_option maxRecDepth 100000 in
theorem ints_sub_fit (a b : Int) (ha0 : -9223372036854775808 ≤ a) (ha1 : a ≤ 9223372036854775807) (hb0 : -9223372036854775808 ≤ b) (hb1 : b ≤ 9223372036854775807) (h0 : -9223372036854775808 ≤ a - b) (h1 : a - b ≤ 9223372036854775807) (w : World) :
    Calls Tryz.prog 123 #[.string ⟨#[45]⟩, .int .i64 a, .int .i64 b] w fun e w' => e = .returned (.tuple #[.agg #[.int .i64 2, .int .i64 (a - b), .string ⟨#[]⟩, .slice none 0 0], .int .i64 0]) ∧ Below w.heap.size w w' := by
  by_cases hb : b < 0
  · have t1 : a < a - b := by omega
    go_enter Tryz.func123, Tryz.ntmps123
    go_wp2
    exact bodyPost_ret (v := .tuple #[.agg #[.int .i64 2, .int .i64 (a - b), .string ⟨#[]⟩, .slice none 0 0], .int .i64 0]) (by simp [results, Tryz.results123, go_sem]) rfl ⟨rfl, (Below.refl _ _).alloc (Nat.le_refl _) _⟩
  · have t1 : ¬ a < a - b := by omega
    go_enter Tryz.func123, Tryz.ntmps123
    go_wp2
    exact bodyPost_ret (v := .tuple #[.agg #[.int .i64 2, .int .i64 (a - b), .string ⟨#[]⟩, .slice none 0 0], .int .i64 0]) (by simp [results, Tryz.results123, go_sem]) rfl ⟨rfl, (Below.refl _ _).alloc (Nat.le_refl _) _⟩

set_option maxHeartbeats 2000000 in
set_option maxRecDepth 100000 in
theorem ints_mul_zero (b : Int) (w : World) :
    Calls Tryz.prog 123 #[.string ⟨#[42]⟩, .int .i64 0, .int .i64 b] w fun e w' => e = .returned (.tuple #[.agg #[.int .i64 2, .int .i64 0, .string ⟨#[]⟩, .slice none 0 0], .int .i64 0]) ∧ Below w.heap.size w w' := by
  go_enter Tryz.func123, Tryz.ntmps123
  go_wp2
  exact bodyPost_ret (v := .tuple #[.agg #[.int .i64 2, .int .i64 0, .string ⟨#[]⟩, .slice none 0 0], .int .i64 0]) (by simp [results, Tryz.results123, go_sem]) rfl ⟨rfl, (Below.refl _ _).alloc (Nat.le_refl _) _⟩

set_option maxHeartbeats 2000000 in
set_option maxRecDepth 100000 in
theorem ints_mul_no (a b N : Int) (hN : Go.RowKit.wrap64 (a * b) = N) (D : Int) (hD : Go.RowKit.wrap64 (N.tdiv a) = D) (h1 : (D == b) = false) (ha : (a == 0) = false) (w : World) :
    Calls Tryz.prog 123 #[.string ⟨#[42]⟩, .int .i64 a, .int .i64 b] w fun e w' => e = .returned (.tuple #[.agg #[.int .i64 0, .int .i64 0, .string ⟨#[]⟩, .slice none 0 0], .int .i64 4]) ∧ Below w.heap.size w w' := by
  have ha2 : ¬ a = 0 := by simpa using ha
  go_enter Tryz.func123, Tryz.ntmps123
  go_wp2
  exact bodyPost_ret (v := .tuple #[.agg #[.int .i64 0, .int .i64 0, .string ⟨#[]⟩, .slice none 0 0], .int .i64 4]) (by simp [results, Tryz.results123, go_sem]) rfl ⟨rfl, (Below.refl _ _).alloc (Nat.le_refl _) _⟩

set_option maxHeartbeats 2000000 in
set_option maxRecDepth 100000 in
theorem ints_mul_plain (a b N : Int) (hN : Go.RowKit.wrap64 (a * b) = N) (hD : Go.RowKit.wrap64 (N.tdiv a) = b) (hm : (a == -1) = false) (ha : (a == 0) = false) (w : World) :
    Calls Tryz.prog 123 #[.string ⟨#[42]⟩, .int .i64 a, .int .i64 b] w fun e w' => e = .returned (.tuple #[.agg #[.int .i64 2, .int .i64 N, .string ⟨#[]⟩, .slice none 0 0], .int .i64 0]) ∧ Below w.heap.size w w' := by
  have ha2 : ¬ a = 0 := by simpa using ha
  go_enter Tryz.func123, Tryz.ntmps123
  go_wp2
  exact bodyPost_ret (v := .tuple #[.agg #[.int .i64 2, .int .i64 N, .string ⟨#[]⟩, .slice none 0 0], .int .i64 0]) (by simp [results, Tryz.results123, go_sem]) rfl ⟨rfl, (Below.refl _ _).alloc (Nat.le_refl _) _⟩

set_option maxHeartbeats 2000000 in
set_option maxRecDepth 100000 in
theorem ints_mul_minus (a b N : Int) (hN : Go.RowKit.wrap64 (a * b) = N) (hD : Go.RowKit.wrap64 (N.tdiv a) = b) (hm : (a == -1) = true) (hb : (b == -9223372036854775808) = false) (ha : (a == 0) = false) (w : World) :
    Calls Tryz.prog 123 #[.string ⟨#[42]⟩, .int .i64 a, .int .i64 b] w fun e w' => e = .returned (.tuple #[.agg #[.int .i64 2, .int .i64 N, .string ⟨#[]⟩, .slice none 0 0], .int .i64 0]) ∧ Below w.heap.size w w' := by
  have ha2 : ¬ a = 0 := by simpa using ha
  go_enter Tryz.func123, Tryz.ntmps123
  go_wp2
  exact bodyPost_ret (v := .tuple #[.agg #[.int .i64 2, .int .i64 N, .string ⟨#[]⟩, .slice none 0 0], .int .i64 0]) (by simp [results, Tryz.results123, go_sem]) rfl ⟨rfl, (Below.refl _ _).alloc (Nat.le_refl _) _⟩

set_option maxHeartbeats 2000000 in
set_option maxRecDepth 100000 in
theorem ints_mul_least (a b N : Int) (hN : Go.RowKit.wrap64 (a * b) = N) (hD : Go.RowKit.wrap64 (N.tdiv a) = b) (hm : (a == -1) = true) (hb : (b == -9223372036854775808) = true) (ha : (a == 0) = false) (w : World) :
    Calls Tryz.prog 123 #[.string ⟨#[42]⟩, .int .i64 a, .int .i64 b] w fun e w' => e = .returned (.tuple #[.agg #[.int .i64 0, .int .i64 0, .string ⟨#[]⟩, .slice none 0 0], .int .i64 4]) ∧ Below w.heap.size w w' := by
  have ha2 : ¬ a = 0 := by simpa using ha
  go_enter Tryz.func123, Tryz.ntmps123
  go_wp2
  exact bodyPost_ret (v := .tuple #[.agg #[.int .i64 0, .int .i64 0, .string ⟨#[]⟩, .slice none 0 0], .int .i64 4]) (by simp [results, Tryz.results123, go_sem]) rfl ⟨rfl, (Below.refl _ _).alloc (Nat.le_refl _) _⟩

theorem wrap64_fit (x : Int) (h0 : -9223372036854775808 ≤ x) (h1 : x ≤ 9223372036854775807) : Go.RowKit.wrap64 x = x := by
  unfold Go.RowKit.wrap64
  omega

theorem wrap64_range (x : Int) : -9223372036854775808 ≤ Go.RowKit.wrap64 x ∧ Go.RowKit.wrap64 x ≤ 9223372036854775807 ∧ ∃ q, Go.RowKit.wrap64 x = x - 18446744073709551616 * q := by
  unfold Go.RowKit.wrap64
  refine ⟨by omega, by omega, ?_⟩
  exact ⟨(x + 9223372036854775808) / 18446744073709551616, by omega⟩

/-- Where the product does not fit, the division tells it, but for the least number and -1. -/
theorem mul_told (a b : Int) (ha0 : -9223372036854775808 ≤ a) (ha1 : a ≤ 9223372036854775807) (hb0 : -9223372036854775808 ≤ b) (hb1 : b ≤ 9223372036854775807) (hz : a ≠ 0) (hf : fits (a * b) = false) (hd : Go.RowKit.wrap64 ((Go.RowKit.wrap64 (a * b)).tdiv a) = b) : a = -1 ∧ b = -9223372036854775808 := by
  obtain ⟨r0, r1, q, hq⟩ := wrap64_range (a * b)
  have hf' : ¬ (-9223372036854775808 ≤ a * b ∧ a * b ≤ 9223372036854775807) := by
    intro h
    rw [(fits_iff _).2 h] at hf
    exact absurd hf (by decide)
  by_cases hm : a = -1
  · refine ⟨hm, ?_⟩
    subst hm
    omega
  · exfalso
    generalize hN : Go.RowKit.wrap64 (a * b) = N at hq r0 r1 hd
    have hdiv : N.tdiv a * a + N.tmod a = N := Int.tdiv_mul_add_tmod N a
    have hmod : (N.tmod a).natAbs < a.natAbs := by
      rw [Int.natAbs_tmod]
      exact Nat.mod_lt _ (by omega)
    have habs : (N.tdiv a).natAbs ≤ N.natAbs := by
      rw [Int.natAbs_tdiv]
      exact Nat.div_le_self _ _
    have hrange : -9223372036854775808 ≤ N.tdiv a ∧ N.tdiv a ≤ 9223372036854775807 := by
      refine ⟨by omega, ?_⟩
      by_cases hN' : N = -9223372036854775808
      · by_cases h2 : a.natAbs = 1
        · have ha : a = 1 := by omega
          subst ha
          rw [Int.tdiv_one]
          omega
        · have : (N.tdiv a).natAbs ≤ N.natAbs / 2 := by
            rw [Int.natAbs_tdiv]
            exact Nat.div_le_div_left (by omega) (by omega)
          omega
      · omega
    rw [wrap64_fit _ hrange.1 hrange.2] at hd
    rw [hd] at hdiv
    have : b * a = a * b := Int.mul_comm b a
    rw [this] at hdiv
    have hq0 : q ≠ 0 := by
      intro h
      subst h
      omega
    omega

/-- The sign of a product, a sum, a difference, and what it makes. -/
theorem held_fit {x : Int} (h : fits x = true) : held x = some x := by simp [held, h]

theorem held_not {x : Int} (h : fits x = false) : held x = none := by simp [held, h]

theorem err_fit {x : Int} (h : fits x = true) : errOf x = 0 := by simp [errOf, h]

theorem err_not {x : Int} (h : fits x = false) : errOf x = 4 := by simp [errOf, h]

theorem fits_no {x : Int} (h : fits x = false) : x < -9223372036854775808 ∨ 9223372036854775807 < x := by
  rcases Int.lt_or_le x (-9223372036854775808) with h1 | h1
  · exact .inl h1
  · refine .inr ?_
    rcases Int.lt_or_le 9223372036854775807 x with h2 | h2
    · exact h2
    · rw [(fits_iff _).2 ⟨h1, h2⟩] at h
      exact absurd h (by decide)

theorem ints_add (a b : Int) (ha : fits a = true) (hb : fits b = true) (w : World) :
    Calls Tryz.prog 123 #[.string ⟨#[43]⟩, .int .i64 a, .int .i64 b] w fun e w' => e = .returned (.tuple #[.agg #[.int .i64 (kvI (held (a + b))), .int .i64 (nv (held (a + b))), .string ⟨#[]⟩, .slice none 0 0], .int .i64 (errOf (a + b))]) ∧ Below w.heap.size w w' := by
  have ha' := (fits_iff _).1 ha
  have hb' := (fits_iff _).1 hb
  cases hf : fits (a + b) with
  | true =>
    have h := (fits_iff _).1 hf
    rw [held_fit hf, err_fit hf]
    exact ints_add_fit a b ha'.1 ha'.2 hb'.1 hb'.2 h.1 h.2 w
  | false =>
    rw [held_not hf, err_not hf]
    rcases fits_no hf with h | h
    · exact ints_add_over2 a b (Go.RowKit.wrap64 (a + b)) rfl (by unfold Go.RowKit.wrap64; omega) (by omega) w
    · exact ints_add_over1 a b (Go.RowKit.wrap64 (a + b)) rfl (by unfold Go.RowKit.wrap64; omega) (by omega) w

theorem ints_sub (a b : Int) (ha : fits a = true) (hb : fits b = true) (w : World) :
    Calls Tryz.prog 123 #[.string ⟨#[45]⟩, .int .i64 a, .int .i64 b] w fun e w' => e = .returned (.tuple #[.agg #[.int .i64 (kvI (held (a - b))), .int .i64 (nv (held (a - b))), .string ⟨#[]⟩, .slice none 0 0], .int .i64 (errOf (a - b))]) ∧ Below w.heap.size w w' := by
  have ha' := (fits_iff _).1 ha
  have hb' := (fits_iff _).1 hb
  cases hf : fits (a - b) with
  | true =>
    have h := (fits_iff _).1 hf
    rw [held_fit hf, err_fit hf]
    exact ints_sub_fit a b ha'.1 ha'.2 hb'.1 hb'.2 h.1 h.2 w
  | false =>
    rw [held_not hf, err_not hf]
    rcases fits_no hf with h | h
    · exact ints_sub_over1 a b (Go.RowKit.wrap64 (a - b)) rfl (by unfold Go.RowKit.wrap64; omega) (by omega) w
    · exact ints_sub_over2 a b (Go.RowKit.wrap64 (a - b)) rfl (by unfold Go.RowKit.wrap64; omega) (by omega) w

theorem ints_mul (a b : Int) (ha : fits a = true) (hb : fits b = true) (w : World) :
    Calls Tryz.prog 123 #[.string ⟨#[42]⟩, .int .i64 a, .int .i64 b] w fun e w' => e = .returned (.tuple #[.agg #[.int .i64 (kvI (held (a * b))), .int .i64 (nv (held (a * b))), .string ⟨#[]⟩, .slice none 0 0], .int .i64 (errOf (a * b))]) ∧ Below w.heap.size w w' := by
  have ha' := (fits_iff _).1 ha
  have hb' := (fits_iff _).1 hb
  by_cases hz : a = 0
  · subst hz
    have hf : fits (0 * b) = true := by rw [Int.zero_mul]; decide
    rw [held_fit hf, err_fit hf, Int.zero_mul]
    exact ints_mul_zero b w
  · cases hf : fits (a * b) with
    | true =>
      have h := (fits_iff _).1 hf
      rw [held_fit hf, err_fit hf]
      have e1 : Go.RowKit.wrap64 (a * b) = a * b := wrap64_fit _ h.1 h.2
      have e2 : Go.RowKit.wrap64 ((a * b).tdiv a) = b := by rw [Int.mul_tdiv_cancel_left b hz]; exact wrap64_fit _ hb'.1 hb'.2
      by_cases hm : a = -1
      · refine ints_mul_minus a b (a * b) e1 e2 (by simp [hm]) ?_ (by simpa using hz) w
        simp
        rintro rfl
        subst hm
        revert hf
        decide
      · exact ints_mul_plain a b (a * b) e1 e2 (by simpa using hm) (by simpa using hz) w
    | false =>
      rw [held_not hf, err_not hf]
      cases hr : (Go.RowKit.wrap64 ((Go.RowKit.wrap64 (a * b)).tdiv a) == b) with
      | false => exact ints_mul_no a b _ rfl _ rfl hr (by simpa using hz) w
      | true =>
        obtain ⟨h1, h2⟩ := mul_told a b ha'.1 ha'.2 hb'.1 hb'.2 hz hf (by simpa using hr)
        exact ints_mul_least a b _ rfl (by simpa using hr) (by simp [h1]) (by simp [h2]) (by simpa using hz) w

set_option maxHeartbeats 2000000 in
set_option maxRecDepth 100000 in
theorem reckon_int_add (k n er : Int) (n1 n2 : Int) (s1 s2 : ByteArray) (a1 a2 : Option Addr) (l1 c1 l2 c2 : Nat) (w : World)
    (h : ∀ U, Calls Tryz.prog 123 #[.string ⟨#[43]⟩, .int .i64 n1, .int .i64 n2] U fun e w' => e = .returned (.tuple #[.agg #[.int .i64 k, .int .i64 n, .string ⟨#[]⟩, .slice none 0 0], .int .i64 er]) ∧ Below U.heap.size U w') :
    Calls Tryz.prog 94 #[.string ⟨#[43]⟩, .agg #[.int .i64 2, .int .i64 n1, .string s1, .slice a1 l1 c1], .agg #[.int .i64 2, .int .i64 n2, .string s2, .slice a2 l2 c2]] w fun e w' => e = .returned (.tuple #[.agg #[.int .i64 k, .int .i64 n, .string ⟨#[]⟩, .slice none 0 0], .int .i64 er]) ∧ Below w.heap.size w w' := by
  have HJ : Hid (∀ U, Calls Tryz.prog 123 #[.string ⟨#[43]⟩, .int .i64 n1, .int .i64 n2] U fun e w' => e = .returned (.tuple #[.agg #[.int .i64 k, .int .i64 n, .string ⟨#[]⟩, .slice none 0 0], .int .i64 er]) ∧ Below U.heap.size U w') := fun U => h U
  have b0 : Below w.heap.size w (((w.alloc (.cells #[.int .i64 2, .int .i64 n1, .string s1, .slice a1 l1 c1] 24)).alloc (.cells #[.int .i64 2, .int .i64 n2, .string s2, .slice a2 l2 c2] 24)).alloc (.cells #[.int .i64 0, .int .i64 0, .string ⟨#[]⟩, .slice none 0 0] 24)) := (((Below.refl _ _).alloc (Nat.le_refl _) _).alloc (by simp) _).alloc (by simp; omega) _
  have q3 := (three_alloc w (.cells #[.int .i64 2, .int .i64 n1, .string s1, .slice a1 l1 c1] 24) (.cells #[.int .i64 2, .int .i64 n2, .string s2, .slice a2 l2 c2] 24) (.cells #[.int .i64 0, .int .i64 0, .string ⟨#[]⟩, .slice none 0 0] 24)).2.2
  have z0 : (((w.alloc (.cells #[.int .i64 2, .int .i64 n1, .string s1, .slice a1 l1 c1] 24)).alloc (.cells #[.int .i64 2, .int .i64 n2, .string s2, .slice a2 l2 c2] 24)).alloc (.cells #[.int .i64 0, .int .i64 0, .string ⟨#[]⟩, .slice none 0 0] 24)).heap.size = w.heap.size + 3 := by simp
  have HB0 := toHid b0
  have HQ3 := toHid q3
  have HZ0 := toHid z0
  clear b0 q3 z0
  go_enter Tryz.func94, Tryz.ntmps94
  go_wp2_with fail
  refine (HJ.out _).mono ?_
  generalize (((w.alloc (.cells #[.int .i64 2, .int .i64 n1, .string s1, .slice a1 l1 c1] 24)).alloc (.cells #[.int .i64 2, .int .i64 n2, .string s2, .slice a2 l2 c2] 24)).alloc (.cells #[.int .i64 0, .int .i64 0, .string ⟨#[]⟩, .slice none 0 0] 24)) = W at HB0 HQ3 HZ0 ⊢
  rintro e w1 ⟨rfl, k1⟩
  have hr := (k1.block (w.heap.size + 2) (by rw [HZ0.out]; omega)).trans HQ3.out
  have HK := toHid (HB0.out.trans (k1.mono HB0.out.size))
  have HR := toHid hr
  have r0 := cell_of hr 0
  have r1 := cell_of hr 1
  have r2 := cell_of hr 2
  have r3 := cell_of hr 3
  have f0 := free_of hr 0
  have f1 := free_of hr 1
  have f2 := free_of hr 2
  have f3 := free_of hr 3
  simp at r0 r1 r2 r3
  have sz2 : w.heap.size + 2 < w1.heap.size := (Array.getElem?_eq_some_iff.1 hr).1
  clear hr k1
  go_wp2_with fail
  have E := set4_here (b := w.heap.size + 1 + 1) HR.out (.int .i64 k) (.int .i64 n) (.string ⟨#[]⟩) (.slice none 0 0)
  have hbb : Below w.heap.size w ((((w1.setCell ⟨w.heap.size + 1 + 1, 0, none⟩ (.int .i64 k)).setCell ⟨w.heap.size + 1 + 1, 1, none⟩ (.int .i64 n)).setCell ⟨w.heap.size + 1 + 1, 2, none⟩ (.string ⟨#[]⟩)).setCell ⟨w.heap.size + 1 + 1, 3, none⟩ (.slice none 0 0)) := (((HK.out.setCell (p := ⟨w.heap.size + 1 + 1, 0, none⟩) (by show w.heap.size ≤ w.heap.size + 1 + 1; omega) _).setCell (p := ⟨w.heap.size + 1 + 1, 1, none⟩) (by show w.heap.size ≤ w.heap.size + 1 + 1; omega) _).setCell (p := ⟨w.heap.size + 1 + 1, 2, none⟩) (by show w.heap.size ≤ w.heap.size + 1 + 1; omega) _).setCell (p := ⟨w.heap.size + 1 + 1, 3, none⟩) (by show w.heap.size ≤ w.heap.size + 1 + 1; omega) _
  generalize ((((w1.setCell ⟨w.heap.size + 1 + 1, 0, none⟩ (.int .i64 k)).setCell ⟨w.heap.size + 1 + 1, 1, none⟩ (.int .i64 n)).setCell ⟨w.heap.size + 1 + 1, 2, none⟩ (.string ⟨#[]⟩)).setCell ⟨w.heap.size + 1 + 1, 3, none⟩ (.slice none 0 0)) = Y at E hbb ⊢
  have t0 := cell_of E 0
  have t1 := cell_of E 1
  have t2 := cell_of E 2
  have t3 := cell_of E 3
  simp at t0 t1 t2 t3
  exact bodyPost_ret (v := .tuple #[.agg #[.int .i64 k, .int .i64 n, .string ⟨#[]⟩, .slice none 0 0], .int .i64 er]) (by simp [results, Tryz.results94, go_sem, t0, t1, t2, t3]) rfl ⟨rfl, hbb⟩

set_option maxHeartbeats 2000000 in
set_option maxRecDepth 100000 in
theorem reckon_int_sub (k n er : Int) (n1 n2 : Int) (s1 s2 : ByteArray) (a1 a2 : Option Addr) (l1 c1 l2 c2 : Nat) (w : World)
    (h : ∀ U, Calls Tryz.prog 123 #[.string ⟨#[45]⟩, .int .i64 n1, .int .i64 n2] U fun e w' => e = .returned (.tuple #[.agg #[.int .i64 k, .int .i64 n, .string ⟨#[]⟩, .slice none 0 0], .int .i64 er]) ∧ Below U.heap.size U w') :
    Calls Tryz.prog 94 #[.string ⟨#[45]⟩, .agg #[.int .i64 2, .int .i64 n1, .string s1, .slice a1 l1 c1], .agg #[.int .i64 2, .int .i64 n2, .string s2, .slice a2 l2 c2]] w fun e w' => e = .returned (.tuple #[.agg #[.int .i64 k, .int .i64 n, .string ⟨#[]⟩, .slice none 0 0], .int .i64 er]) ∧ Below w.heap.size w w' := by
  have HJ : Hid (∀ U, Calls Tryz.prog 123 #[.string ⟨#[45]⟩, .int .i64 n1, .int .i64 n2] U fun e w' => e = .returned (.tuple #[.agg #[.int .i64 k, .int .i64 n, .string ⟨#[]⟩, .slice none 0 0], .int .i64 er]) ∧ Below U.heap.size U w') := fun U => h U
  have b0 : Below w.heap.size w (((w.alloc (.cells #[.int .i64 2, .int .i64 n1, .string s1, .slice a1 l1 c1] 24)).alloc (.cells #[.int .i64 2, .int .i64 n2, .string s2, .slice a2 l2 c2] 24)).alloc (.cells #[.int .i64 0, .int .i64 0, .string ⟨#[]⟩, .slice none 0 0] 24)) := (((Below.refl _ _).alloc (Nat.le_refl _) _).alloc (by simp) _).alloc (by simp; omega) _
  have q3 := (three_alloc w (.cells #[.int .i64 2, .int .i64 n1, .string s1, .slice a1 l1 c1] 24) (.cells #[.int .i64 2, .int .i64 n2, .string s2, .slice a2 l2 c2] 24) (.cells #[.int .i64 0, .int .i64 0, .string ⟨#[]⟩, .slice none 0 0] 24)).2.2
  have z0 : (((w.alloc (.cells #[.int .i64 2, .int .i64 n1, .string s1, .slice a1 l1 c1] 24)).alloc (.cells #[.int .i64 2, .int .i64 n2, .string s2, .slice a2 l2 c2] 24)).alloc (.cells #[.int .i64 0, .int .i64 0, .string ⟨#[]⟩, .slice none 0 0] 24)).heap.size = w.heap.size + 3 := by simp
  have HB0 := toHid b0
  have HQ3 := toHid q3
  have HZ0 := toHid z0
  clear b0 q3 z0
  go_enter Tryz.func94, Tryz.ntmps94
  go_wp2_with fail
  refine (HJ.out _).mono ?_
  generalize (((w.alloc (.cells #[.int .i64 2, .int .i64 n1, .string s1, .slice a1 l1 c1] 24)).alloc (.cells #[.int .i64 2, .int .i64 n2, .string s2, .slice a2 l2 c2] 24)).alloc (.cells #[.int .i64 0, .int .i64 0, .string ⟨#[]⟩, .slice none 0 0] 24)) = W at HB0 HQ3 HZ0 ⊢
  rintro e w1 ⟨rfl, k1⟩
  have hr := (k1.block (w.heap.size + 2) (by rw [HZ0.out]; omega)).trans HQ3.out
  have HK := toHid (HB0.out.trans (k1.mono HB0.out.size))
  have HR := toHid hr
  have r0 := cell_of hr 0
  have r1 := cell_of hr 1
  have r2 := cell_of hr 2
  have r3 := cell_of hr 3
  have f0 := free_of hr 0
  have f1 := free_of hr 1
  have f2 := free_of hr 2
  have f3 := free_of hr 3
  simp at r0 r1 r2 r3
  have sz2 : w.heap.size + 2 < w1.heap.size := (Array.getElem?_eq_some_iff.1 hr).1
  clear hr k1
  go_wp2_with fail
  have E := set4_here (b := w.heap.size + 1 + 1) HR.out (.int .i64 k) (.int .i64 n) (.string ⟨#[]⟩) (.slice none 0 0)
  have hbb : Below w.heap.size w ((((w1.setCell ⟨w.heap.size + 1 + 1, 0, none⟩ (.int .i64 k)).setCell ⟨w.heap.size + 1 + 1, 1, none⟩ (.int .i64 n)).setCell ⟨w.heap.size + 1 + 1, 2, none⟩ (.string ⟨#[]⟩)).setCell ⟨w.heap.size + 1 + 1, 3, none⟩ (.slice none 0 0)) := (((HK.out.setCell (p := ⟨w.heap.size + 1 + 1, 0, none⟩) (by show w.heap.size ≤ w.heap.size + 1 + 1; omega) _).setCell (p := ⟨w.heap.size + 1 + 1, 1, none⟩) (by show w.heap.size ≤ w.heap.size + 1 + 1; omega) _).setCell (p := ⟨w.heap.size + 1 + 1, 2, none⟩) (by show w.heap.size ≤ w.heap.size + 1 + 1; omega) _).setCell (p := ⟨w.heap.size + 1 + 1, 3, none⟩) (by show w.heap.size ≤ w.heap.size + 1 + 1; omega) _
  generalize ((((w1.setCell ⟨w.heap.size + 1 + 1, 0, none⟩ (.int .i64 k)).setCell ⟨w.heap.size + 1 + 1, 1, none⟩ (.int .i64 n)).setCell ⟨w.heap.size + 1 + 1, 2, none⟩ (.string ⟨#[]⟩)).setCell ⟨w.heap.size + 1 + 1, 3, none⟩ (.slice none 0 0)) = Y at E hbb ⊢
  have t0 := cell_of E 0
  have t1 := cell_of E 1
  have t2 := cell_of E 2
  have t3 := cell_of E 3
  simp at t0 t1 t2 t3
  exact bodyPost_ret (v := .tuple #[.agg #[.int .i64 k, .int .i64 n, .string ⟨#[]⟩, .slice none 0 0], .int .i64 er]) (by simp [results, Tryz.results94, go_sem, t0, t1, t2, t3]) rfl ⟨rfl, hbb⟩

set_option maxHeartbeats 2000000 in
set_option maxRecDepth 100000 in
theorem reckon_int_mul (k n er : Int) (n1 n2 : Int) (s1 s2 : ByteArray) (a1 a2 : Option Addr) (l1 c1 l2 c2 : Nat) (w : World)
    (h : ∀ U, Calls Tryz.prog 123 #[.string ⟨#[42]⟩, .int .i64 n1, .int .i64 n2] U fun e w' => e = .returned (.tuple #[.agg #[.int .i64 k, .int .i64 n, .string ⟨#[]⟩, .slice none 0 0], .int .i64 er]) ∧ Below U.heap.size U w') :
    Calls Tryz.prog 94 #[.string ⟨#[42]⟩, .agg #[.int .i64 2, .int .i64 n1, .string s1, .slice a1 l1 c1], .agg #[.int .i64 2, .int .i64 n2, .string s2, .slice a2 l2 c2]] w fun e w' => e = .returned (.tuple #[.agg #[.int .i64 k, .int .i64 n, .string ⟨#[]⟩, .slice none 0 0], .int .i64 er]) ∧ Below w.heap.size w w' := by
  have HJ : Hid (∀ U, Calls Tryz.prog 123 #[.string ⟨#[42]⟩, .int .i64 n1, .int .i64 n2] U fun e w' => e = .returned (.tuple #[.agg #[.int .i64 k, .int .i64 n, .string ⟨#[]⟩, .slice none 0 0], .int .i64 er]) ∧ Below U.heap.size U w') := fun U => h U
  have b0 : Below w.heap.size w (((w.alloc (.cells #[.int .i64 2, .int .i64 n1, .string s1, .slice a1 l1 c1] 24)).alloc (.cells #[.int .i64 2, .int .i64 n2, .string s2, .slice a2 l2 c2] 24)).alloc (.cells #[.int .i64 0, .int .i64 0, .string ⟨#[]⟩, .slice none 0 0] 24)) := (((Below.refl _ _).alloc (Nat.le_refl _) _).alloc (by simp) _).alloc (by simp; omega) _
  have q3 := (three_alloc w (.cells #[.int .i64 2, .int .i64 n1, .string s1, .slice a1 l1 c1] 24) (.cells #[.int .i64 2, .int .i64 n2, .string s2, .slice a2 l2 c2] 24) (.cells #[.int .i64 0, .int .i64 0, .string ⟨#[]⟩, .slice none 0 0] 24)).2.2
  have z0 : (((w.alloc (.cells #[.int .i64 2, .int .i64 n1, .string s1, .slice a1 l1 c1] 24)).alloc (.cells #[.int .i64 2, .int .i64 n2, .string s2, .slice a2 l2 c2] 24)).alloc (.cells #[.int .i64 0, .int .i64 0, .string ⟨#[]⟩, .slice none 0 0] 24)).heap.size = w.heap.size + 3 := by simp
  have HB0 := toHid b0
  have HQ3 := toHid q3
  have HZ0 := toHid z0
  clear b0 q3 z0
  go_enter Tryz.func94, Tryz.ntmps94
  go_wp2_with fail
  refine (HJ.out _).mono ?_
  generalize (((w.alloc (.cells #[.int .i64 2, .int .i64 n1, .string s1, .slice a1 l1 c1] 24)).alloc (.cells #[.int .i64 2, .int .i64 n2, .string s2, .slice a2 l2 c2] 24)).alloc (.cells #[.int .i64 0, .int .i64 0, .string ⟨#[]⟩, .slice none 0 0] 24)) = W at HB0 HQ3 HZ0 ⊢
  rintro e w1 ⟨rfl, k1⟩
  have hr := (k1.block (w.heap.size + 2) (by rw [HZ0.out]; omega)).trans HQ3.out
  have HK := toHid (HB0.out.trans (k1.mono HB0.out.size))
  have HR := toHid hr
  have r0 := cell_of hr 0
  have r1 := cell_of hr 1
  have r2 := cell_of hr 2
  have r3 := cell_of hr 3
  have f0 := free_of hr 0
  have f1 := free_of hr 1
  have f2 := free_of hr 2
  have f3 := free_of hr 3
  simp at r0 r1 r2 r3
  have sz2 : w.heap.size + 2 < w1.heap.size := (Array.getElem?_eq_some_iff.1 hr).1
  clear hr k1
  go_wp2_with fail
  have E := set4_here (b := w.heap.size + 1 + 1) HR.out (.int .i64 k) (.int .i64 n) (.string ⟨#[]⟩) (.slice none 0 0)
  have hbb : Below w.heap.size w ((((w1.setCell ⟨w.heap.size + 1 + 1, 0, none⟩ (.int .i64 k)).setCell ⟨w.heap.size + 1 + 1, 1, none⟩ (.int .i64 n)).setCell ⟨w.heap.size + 1 + 1, 2, none⟩ (.string ⟨#[]⟩)).setCell ⟨w.heap.size + 1 + 1, 3, none⟩ (.slice none 0 0)) := (((HK.out.setCell (p := ⟨w.heap.size + 1 + 1, 0, none⟩) (by show w.heap.size ≤ w.heap.size + 1 + 1; omega) _).setCell (p := ⟨w.heap.size + 1 + 1, 1, none⟩) (by show w.heap.size ≤ w.heap.size + 1 + 1; omega) _).setCell (p := ⟨w.heap.size + 1 + 1, 2, none⟩) (by show w.heap.size ≤ w.heap.size + 1 + 1; omega) _).setCell (p := ⟨w.heap.size + 1 + 1, 3, none⟩) (by show w.heap.size ≤ w.heap.size + 1 + 1; omega) _
  generalize ((((w1.setCell ⟨w.heap.size + 1 + 1, 0, none⟩ (.int .i64 k)).setCell ⟨w.heap.size + 1 + 1, 1, none⟩ (.int .i64 n)).setCell ⟨w.heap.size + 1 + 1, 2, none⟩ (.string ⟨#[]⟩)).setCell ⟨w.heap.size + 1 + 1, 3, none⟩ (.slice none 0 0)) = Y at E hbb ⊢
  have t0 := cell_of E 0
  have t1 := cell_of E 1
  have t2 := cell_of E 2
  have t3 := cell_of E 3
  simp at t0 t1 t2 t3
  exact bodyPost_ret (v := .tuple #[.agg #[.int .i64 k, .int .i64 n, .string ⟨#[]⟩, .slice none 0 0], .int .i64 er]) (by simp [results, Tryz.results94, go_sem, t0, t1, t2, t3]) rfl ⟨rfl, hbb⟩

set_option maxHeartbeats 2000000 in
set_option maxRecDepth 100000 in
theorem joinLists_many (a1 a2 : Option Addr) (l1 c1 l2 c2 : Nat) (w : World) (hs : 30 < l1 + l2) (hm : l1 + l2 ≤ 9223372036854775807) :
    Calls Tryz.prog 125 #[.slice a1 l1 c1, .slice a2 l2 c2] w fun e w' => e = .returned (.tuple #[.agg #[.int .i64 0, .int .i64 0, .string ⟨#[]⟩, .slice none 0 0], .int .i64 2]) ∧ Below w.heap.size w w' := by
  have hs1 : (30 : Int) < (l1 : Int) + (l2 : Int) := by omega
  go_enter Tryz.func125, Tryz.ntmps125
  go_wp2_with fail
  have E := alloc_new w (.cells #[.int .i64 0, .int .i64 0, .string ⟨#[]⟩, .slice none 0 0] 24)
  have hbb : Below w.heap.size w (w.alloc (.cells #[.int .i64 0, .int .i64 0, .string ⟨#[]⟩, .slice none 0 0] 24)) := (Below.refl _ _).alloc (Nat.le_refl _) _
  generalize w.alloc (.cells #[.int .i64 0, .int .i64 0, .string ⟨#[]⟩, .slice none 0 0] 24) = Y at E hbb ⊢
  have t0 := cell_of E 0
  have t1 := cell_of E 1
  have t2 := cell_of E 2
  have t3 := cell_of E 3
  simp at t0 t1 t2 t3
  exact bodyPost_ret (v := .tuple #[.agg #[.int .i64 0, .int .i64 0, .string ⟨#[]⟩, .slice none 0 0], .int .i64 2]) (by simp [results, Tryz.results125, go_sem, t0, t1, t2, t3]) rfl ⟨rfl, hbb⟩

set_option maxHeartbeats 2000000 in
set_option maxRecDepth 100000 in
theorem reckon_many (n1 n2 : Int) (s1 s2 : ByteArray) (a1 a2 : Option Addr) (l1 c1 l2 c2 : Nat) (w : World) (hs : 30 < l1 + l2) (hm : l1 + l2 ≤ 9223372036854775807) :
    Calls Tryz.prog 94 #[.string ⟨#[43]⟩, .agg #[.int .i64 4, .int .i64 n1, .string s1, .slice a1 l1 c1], .agg #[.int .i64 4, .int .i64 n2, .string s2, .slice a2 l2 c2]] w fun e w' => e = .returned (.tuple #[.agg #[.int .i64 0, .int .i64 0, .string ⟨#[]⟩, .slice none 0 0], .int .i64 2]) ∧ Below w.heap.size w w' := by
  have HJ : Hid (∀ U, Calls Tryz.prog 125 #[.slice a1 l1 c1, .slice a2 l2 c2] U fun e w' => e = .returned (.tuple #[.agg #[.int .i64 0, .int .i64 0, .string ⟨#[]⟩, .slice none 0 0], .int .i64 2]) ∧ Below U.heap.size U w') := fun U => joinLists_many a1 a2 l1 c1 l2 c2 U hs hm
  have b0 : Below w.heap.size w (((w.alloc (.cells #[.int .i64 4, .int .i64 n1, .string s1, .slice a1 l1 c1] 24)).alloc (.cells #[.int .i64 4, .int .i64 n2, .string s2, .slice a2 l2 c2] 24)).alloc (.cells #[.int .i64 0, .int .i64 0, .string ⟨#[]⟩, .slice none 0 0] 24)) := (((Below.refl _ _).alloc (Nat.le_refl _) _).alloc (by simp) _).alloc (by simp; omega) _
  have q3 := (three_alloc w (.cells #[.int .i64 4, .int .i64 n1, .string s1, .slice a1 l1 c1] 24) (.cells #[.int .i64 4, .int .i64 n2, .string s2, .slice a2 l2 c2] 24) (.cells #[.int .i64 0, .int .i64 0, .string ⟨#[]⟩, .slice none 0 0] 24)).2.2
  have z0 : (((w.alloc (.cells #[.int .i64 4, .int .i64 n1, .string s1, .slice a1 l1 c1] 24)).alloc (.cells #[.int .i64 4, .int .i64 n2, .string s2, .slice a2 l2 c2] 24)).alloc (.cells #[.int .i64 0, .int .i64 0, .string ⟨#[]⟩, .slice none 0 0] 24)).heap.size = w.heap.size + 3 := by simp
  have HB0 := toHid b0
  have HQ3 := toHid q3
  have HZ0 := toHid z0
  clear b0 q3 z0
  go_enter Tryz.func94, Tryz.ntmps94
  go_wp2_with fail
  refine (HJ.out _).mono ?_
  generalize (((w.alloc (.cells #[.int .i64 4, .int .i64 n1, .string s1, .slice a1 l1 c1] 24)).alloc (.cells #[.int .i64 4, .int .i64 n2, .string s2, .slice a2 l2 c2] 24)).alloc (.cells #[.int .i64 0, .int .i64 0, .string ⟨#[]⟩, .slice none 0 0] 24)) = W at HB0 HQ3 HZ0 ⊢
  rintro e w1 ⟨rfl, k1⟩
  have hr := (k1.block (w.heap.size + 2) (by rw [HZ0.out]; omega)).trans HQ3.out
  have HK := toHid (HB0.out.trans (k1.mono HB0.out.size))
  have HR := toHid hr
  have r0 := cell_of hr 0
  have r1 := cell_of hr 1
  have r2 := cell_of hr 2
  have r3 := cell_of hr 3
  have f0 := free_of hr 0
  have f1 := free_of hr 1
  have f2 := free_of hr 2
  have f3 := free_of hr 3
  simp at r0 r1 r2 r3
  have sz2 : w.heap.size + 2 < w1.heap.size := (Array.getElem?_eq_some_iff.1 hr).1
  clear hr k1
  go_wp2_with fail
  have E := set4_here (b := w.heap.size + 1 + 1) HR.out (.int .i64 0) (.int .i64 0) (.string ⟨#[]⟩) (.slice none 0 0)
  have hbb : Below w.heap.size w ((((w1.setCell ⟨w.heap.size + 1 + 1, 0, none⟩ (.int .i64 0)).setCell ⟨w.heap.size + 1 + 1, 1, none⟩ (.int .i64 0)).setCell ⟨w.heap.size + 1 + 1, 2, none⟩ (.string ⟨#[]⟩)).setCell ⟨w.heap.size + 1 + 1, 3, none⟩ (.slice none 0 0)) := (((HK.out.setCell (p := ⟨w.heap.size + 1 + 1, 0, none⟩) (by show w.heap.size ≤ w.heap.size + 1 + 1; omega) _).setCell (p := ⟨w.heap.size + 1 + 1, 1, none⟩) (by show w.heap.size ≤ w.heap.size + 1 + 1; omega) _).setCell (p := ⟨w.heap.size + 1 + 1, 2, none⟩) (by show w.heap.size ≤ w.heap.size + 1 + 1; omega) _).setCell (p := ⟨w.heap.size + 1 + 1, 3, none⟩) (by show w.heap.size ≤ w.heap.size + 1 + 1; omega) _
  generalize ((((w1.setCell ⟨w.heap.size + 1 + 1, 0, none⟩ (.int .i64 0)).setCell ⟨w.heap.size + 1 + 1, 1, none⟩ (.int .i64 0)).setCell ⟨w.heap.size + 1 + 1, 2, none⟩ (.string ⟨#[]⟩)).setCell ⟨w.heap.size + 1 + 1, 3, none⟩ (.slice none 0 0)) = Y at E hbb ⊢
  have t0 := cell_of E 0
  have t1 := cell_of E 1
  have t2 := cell_of E 2
  have t3 := cell_of E 3
  simp at t0 t1 t2 t3
  exact bodyPost_ret (v := .tuple #[.agg #[.int .i64 0, .int .i64 0, .string ⟨#[]⟩, .slice none 0 0], .int .i64 2]) (by simp [results, Tryz.results94, go_sem, t0, t1, t2, t3]) rfl ⟨rfl, hbb⟩

section
variable {P : Program} (w : World)
theorem run_append_both (t ty : TypeId) (base : Nat) (e : TypeId) (i : TypeInfo) (z : Value) (size bytes : Nat) (ht : P.underlying t = some (.slice e)) (hi : P.info? e = some i) (hz : i.zero = some z)
    (hsize : i.size = size) (hby : i.bytes = bytes) (hzs : z.cells.size = size) (hsz : 0 < size)
    (v : Value) (n : Nat) (xs : List Value) (hown : w.ownsRow base e size v n xs)
    (ax : Option Addr) (m c : Nat) (news : List Value) (hl : news.length = m * size) (hnews : ∀ j u, news[j]? = some u → ∃ ad, ax = some ad ∧ w.cell? (ad.add j) = some u) (h1 : ∀ u ∈ news, u.oneCell' = true)
    (h63 : n + m ≤ maxLen) (hbytes : (n + m) * bytes ≤ 140737488355328) (hbase : base ≤ w.heap.size) :
    ∃ v' w', (Builtin.append_ #[t, t] ty #[v, .slice ax m c]).run P w = .ok v' w' ∧
      w'.ownsRow base e size v' (n + m) (xs ++ news) ∧ w.grownBy w' v.ownBlock ∧ (v'.ownBlock = v.ownBlock ∨ v'.ownBlock = some w.heap.size) := by
  cases ax with
  | some ad =>
    obtain ⟨v', w', hr, h2, h3, _, h5⟩ := run_append_own_at (P := P) w base t ty e i z size bytes ht hi hz hsize hby hzs hsz v n xs hown ad m c news hl (fun j u hu => by
      obtain ⟨ad', e1, e2⟩ := hnews j u hu
      cases e1
      exact e2) h1 h63 hbytes hbase
    exact ⟨v', w', hr, h2, h3, h5⟩
  | none =>
    have hn : news = [] := by
      cases news with
      | nil => rfl
      | cons u us =>
        obtain ⟨_, e1, _⟩ := hnews 0 u rfl
        cases e1
    subst hn
    have hm : m = 0 := by
      rcases Nat.eq_zero_or_pos m with h | h
      · exact h
      · have := Nat.mul_pos h hsz
        simp at hl
        omega
    subst hm
    refine ⟨v, w, ?_, by simpa using hown, ⟨rfl, rfl, rfl, Nat.le_refl _, fun _ _ _ => rfl⟩, .inl rfl⟩
    rcases hown.2 with ⟨rfl, rfl⟩ | ⟨g, cap, cur, rfl, _, _, hnc, _⟩
    · simp [Builtin.append_, run_underlying ht, sizeOf, typeInfo, hi, Builtin.lenOf, Builtin.firstCells]
    · simp [Builtin.append_, run_underlying ht, sizeOf, typeInfo, hi, Builtin.lenOf, Builtin.firstCells, hnc, storeCells]
end

section
variable {P : Program} (w : World)
theorem wp_append_both {o : Oper} {a : Act} {K : Act → World → Prop} {Q : Exit → Act → World → Prop} (s x : Operand) (t : TypeId)
    (ho : o.op = .call { callee := .builtin .append, args := #[s, x], argTypes := #[t, t] })
    (base : Nat) (e : TypeId) (i : TypeInfo) (z : Value) (size bytes : Nat) (ht : P.underlying t = some (.slice e)) (hi : P.info? e = some i) (hz : i.zero = some z)
    (hsize : i.size = size) (hby : i.bytes = bytes) (hzs : z.cells.size = size) (hsz : 0 < size)
    (v : Value) (n : Nat) (xs : List Value) (hs : a.eval s = v) (hown : w.ownsRow base e size v n xs)
    (ax : Option Addr) (m c : Nat) (news : List Value) (hx : a.eval x = .slice ax m c) (hl : news.length = m * size) (hnews : ∀ j u, news[j]? = some u → ∃ ad, ax = some ad ∧ w.cell? (ad.add j) = some u) (h1 : ∀ u ∈ news, u.oneCell' = true)
    (h63 : n + m ≤ maxLen) (hbytes : (n + m) * bytes ≤ 140737488355328) (hbase : base ≤ w.heap.size)
    (h : ∀ v' w', w'.ownsRow base e size v' (n + m) (xs ++ news) → w.grownBy w' v.ownBlock → (v'.ownBlock = v.ownBlock ∨ v'.ownBlock = some w.heap.size) → K (a.put o.dst v') w') : o.wp P a w K Q := by
  obtain ⟨v', w', hr, h2, h3, h4⟩ := run_append_both (P := P) w t o.type base e i z size bytes ht hi hz hsize hby hzs hsz v n xs hown ax m c news hl hnews h1 h63 hbytes hbase
  unfold Oper.wp execOp
  simp only [ho, resolve, invoke, builtin, Sem.run_bind, Sem.run_pure, Result.andThen_ok, List.map_toArray, List.map_cons, List.map_nil, hs, hx, hr]
  exact h v' w' h2 h3 h4
end

section
variable {P : Program} (w : World)
theorem wpList_append_both {ops : Array Oper} {rest : List Oper} {o : Oper} {a : Act} {Q : Exit → Act → World → Prop} (hgd : o.guard = none) (s x : Operand) (t : TypeId)
    (ho : o.op = .call { callee := .builtin .append, args := #[s, x], argTypes := #[t, t] })
    (base : Nat) (e : TypeId) (i : TypeInfo) (z : Value) (size bytes : Nat) (ht : P.underlying t = some (.slice e)) (hi : P.info? e = some i) (hz : i.zero = some z)
    (hsize : i.size = size) (hby : i.bytes = bytes) (hzs : z.cells.size = size) (hsz : 0 < size)
    (v : Value) (n : Nat) (xs : List Value) (hs : a.eval s = v) (hown : w.ownsRow base e size v n xs)
    (ax : Option Addr) (m c : Nat) (news : List Value) (hx : a.eval x = .slice ax m c) (hl : news.length = m * size) (hnews : ∀ j u, news[j]? = some u → ∃ ad, ax = some ad ∧ w.cell? (ad.add j) = some u) (h1 : ∀ u ∈ news, u.oneCell' = true)
    (h63 : n + m ≤ maxLen) (hbytes : (n + m) * bytes ≤ 140737488355328) (hbase : base ≤ w.heap.size)
    (h : ∀ v' w', w'.ownsRow base e size v' (n + m) (xs ++ news) → w.grownBy w' v.ownBlock → (v'.ownBlock = v.ownBlock ∨ v'.ownBlock = some w.heap.size) → wpList P ops Q rest (a.put o.dst v') w') : wpList P ops Q (o :: rest) a w :=
  wpList_plain hgd fun _ hK => wp_append_both w s x t ho base e i z size bytes ht hi hz hsize hby hzs hsz v n xs hs hown ax m c news hx hl hnews h1 h63 hbytes hbase fun v' w' h2 h3 h4 => hK _ _ (h v' w' h2 h3 h4)
end
end Go.Proofs.YtbfhapmnnckkaaaGreatDoor
