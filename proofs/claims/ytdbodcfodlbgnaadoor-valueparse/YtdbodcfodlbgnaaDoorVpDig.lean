/-
  What is proved here: the number that digits make, in plain words; and the plain reading of a number by it.
-/
import Derived.Test.YtdbodcfodlbgnaaDoorVpPure
namespace Go.Proofs.YtdbodcfodlbgnaaDoor
open Go.RowKit
set_option linter.unusedVariables false

/-- The number of digits, behind a number. -/
def decV : List UInt8 → Nat → Nat
  | [], a => a
  | c :: r, a => decV r (a * 10 + (c.toNat - 48))

theorem decV_append : ∀ (l r : List UInt8) (a : Nat), decV (l ++ r) a = decV r (decV l a)
  | [], r, a => rfl
  | c :: l, r, a => decV_append l r _

theorem decV_snoc (l : List UInt8) (c : UInt8) (a : Nat) : decV (l ++ [c]) a = decV l a * 10 + (c.toNat - 48) := by
  rw [decV_append]
  rfl

theorem decV_digits (u : Nat) : decV (Lib.decDigits u) 0 = u := by
  induction u using Nat.strongRecOn with
  | _ u ih =>
    by_cases h : u < 10
    · rw [Lib.decDigits, dif_pos h]
      show 0 * 10 + ((UInt8.ofNat (48 + u)).toNat - 48) = u
      rw [digit_nat u h]
      omega
    · rw [Lib.decDigits, dif_neg h, decV_snoc, ih (u / 10) (by omega), digit_nat (u % 10) (Nat.mod_lt _ (by decide))]
      omega

theorem decV_lt : ∀ (l : List UInt8) (a : Nat), (∀ c ∈ l, c.toNat ≤ 57) → decV l a < (a + 1) * 10 ^ l.length
  | [], a, _ => by simp [decV]
  | c :: l, a, h => by
    have h1 := decV_lt l (a * 10 + (c.toNat - 48)) (fun x hx => h x (List.mem_cons_of_mem _ hx))
    have h2 := h c (List.mem_cons_self ..)
    show decV l (a * 10 + (c.toNat - 48)) < (a + 1) * 10 ^ (l.length + 1)
    have h3 : (a * 10 + (c.toNat - 48) + 1) * 10 ^ l.length ≤ ((a + 1) * 10) * 10 ^ l.length := Nat.mul_le_mul_right _ (by omega)
    rw [Nat.pow_succ, Nat.mul_comm (10 ^ l.length) 10, ← Nat.mul_assoc]
    omega

/-- The number of a word: digits, a sign ahead or none. -/
def zW (b : Bool) (ds : List UInt8) : Int := if b = true then -((decV ds 0 : Nat) : Int) else ((decV ds 0 : Nat) : Int)

/-- A word: its sign and its digits. -/
def wordL (b : Bool) (ds : List UInt8) : List UInt8 := if b = true then 45 :: ds else ds

theorem digit_neg {c : UInt8} (h : 48 ≤ c.toNat) : c ≠ 45 := fun e => by subst e; exact absurd h (by decide)

theorem zW_itoa {b : Bool} {ds : List UInt8} (hds : ∀ c ∈ ds, 48 ≤ c.toNat ∧ c.toNat ≤ 57) {n : Int} (h : Lib.itoa n = wordL b ds) : zW b ds = n := by
  unfold Lib.itoa at h
  split at h
  · rename_i hn
    cases b with
    | true =>
      have e : 45 :: Lib.decDigits n.natAbs = 45 :: ds := h
      injection e with _ e
      unfold zW
      rw [if_pos rfl, ← e, decV_digits]
      omega
    | false =>
      have e : 45 :: Lib.decDigits n.natAbs = ds := h
      exact absurd rfl (digit_neg (hds 45 (by rw [← e]; exact List.mem_cons_self ..)).1)
  · rename_i hn
    cases b with
    | true =>
      have e : Lib.decDigits n.toNat = 45 :: ds := h
      exact absurd rfl (digit_neg (digits_mem n.toNat 45 (by rw [e]; exact List.mem_cons_self ..)).1)
    | false =>
      have e : Lib.decDigits n.toNat = ds := h
      unfold zW
      rw [if_neg (by decide), ← e, decV_digits]
      omega

/-- The plain reading of a number, by the number that its digits make. -/
theorem numP_is (text : ByteArray) (p : Nat) (b : Bool) (ds : List UInt8) (hw : (text.extract p (wordE text p)).data.toList = wordL b ds) (hds : ∀ c ∈ ds, 48 ≤ c.toNat ∧ c.toNat ≤ 57) :
    numP text p = if (-9223372036854775808 ≤ zW b ds ∧ zW b ds ≤ 9223372036854775807) ∧ Lib.itoa (zW b ds) = wordL b ds then .ok (zW b ds, wordE text p) else .error p := by
  by_cases h : (-9223372036854775808 ≤ zW b ds ∧ zW b ds ≤ 9223372036854775807) ∧ Lib.itoa (zW b ds) = wordL b ds
  · rw [if_pos h]
    unfold numP
    rw [hw, ← h.2, atoi_itoa _ h.1.1 h.1.2]
    simp
  · rw [if_neg h]
    cases hx : numP text p with
    | error a => rw [numP_bad hx]
    | ok nq =>
      obtain ⟨n, q⟩ := nq
      exfalso
      obtain ⟨h1, h2, h3⟩ := numP_ok hx
      subst h1
      rw [hw] at h3
      have e := zW_itoa hds h3
      have hb := Lib.atoiAll_bounds h2
      exact h ⟨by rw [e]; exact hb, by rw [e]; exact h3⟩

/-- What the word of a number is made of. -/
theorem word_parts (text : ByteArray) (p : Nat) (hp : p ≤ text.size) (b : Bool) (hb : begins text p ⟨#[45]⟩ = b) (p1 : Nat) (hp1 : p1 = if b then p + 1 else p) :
    (text.extract p (wordE text p)).data.toList = wordL b (text.extract p1 (wordE text p)).data.toList ∧ ∀ c ∈ (text.extract p1 (wordE text p)).data.toList, 48 ≤ c.toNat ∧ c.toNat ≤ 57 := by
  obtain ⟨f1, f2, f3, f4⟩ := wordE_facts text p hp b hb p1 hp1
  generalize wordE text p = q at f1 f2 f3 f4
  constructor
  · cases b with
    | false =>
      simp at hp1
      subst hp1
      rfl
    | true =>
      simp at hp1
      subst hp1
      have hd : ∃ r, text.data.toList.drop p = 45 :: r := by
        unfold begins Lib.hasPrefix at hb
        rw [ext_drop] at hb
        cases hl : text.data.toList.drop p with
        | nil => rw [hl] at hb; cases hb
        | cons c r =>
          rw [hl] at hb
          have : (45 : UInt8) = c := by
            have h1 : ((45 : UInt8) == c && List.isPrefixOf [] r) = true := hb
            rw [Bool.and_eq_true] at h1
            exact beq_iff_eq.1 h1.1
          exact ⟨r, by rw [this]⟩
      obtain ⟨r, hr⟩ := hd
      have hr2 : text.data.toList.drop (p + 1) = r := by rw [← List.drop_drop, hr]; rfl
      have e1 := ext_mid text p (q - p)
      rw [show p + (q - p) = q from by omega, hr] at e1
      have e2 := ext_mid text (p + 1) (q - (p + 1))
      rw [show p + 1 + (q - (p + 1)) = q from by omega, hr2] at e2
      rw [e1, e2, show q - p = (q - (p + 1)) + 1 from by omega, List.take_succ_cons]
      rfl
  · intro c hc
    have e2 := ext_mid text p1 (q - p1)
    rw [show p1 + (q - p1) = q from by omega] at e2
    rw [e2] at hc
    obtain ⟨i, hi, e⟩ := List.getElem_of_mem hc
    have hi2 : i < q - p1 := by simp at hi; omega
    obtain ⟨hlt, hd⟩ := f3 (p1 + i) (by omega) (by omega)
    have := byte_at (text := text) (p := p1) rfl (p1 + i) (by omega) hlt
    rw [show p1 + i - p1 = i from by omega] at this
    rw [List.getElem_take] at e
    have h3 : (text.data.toList.drop p1)[i]? = some c := by rw [List.getElem?_eq_some_iff]; exact ⟨_, e⟩
    rw [this] at h3
    injection h3 with h3
    rw [← h3]
    exact hd
end Go.Proofs.YtdbodcfodlbgnaaDoor
