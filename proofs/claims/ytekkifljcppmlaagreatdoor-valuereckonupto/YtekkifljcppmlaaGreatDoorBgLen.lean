/-
  What is proved here: what espalierbig.length answers: how many bits a number has.
-/
import Derived.Test.YtekkifljcppmlaaGreatDoorBgMulI
namespace Go.Proofs.YtekkifljcppmlaaGreatDoor
open Go.RowKit
set_option linter.unusedVariables false

/-- How many bits a number has. -/
def Long (v n : Nat) : Prop := v < 2 ^ n ∧ (0 < n → 2 ^ (n - 1) ≤ v)

theorem long_last {ws : List Nat} {m x n : Nat} (hw : Words ws) (hm : ws.length = m + 1) (hx : ws[m]? = some x) (h : Long x n) (hx0 : x ≠ 0) : Long (vW ws) (m * 32 + n) := by
  have h1 : vW ws = vW (ws.take m) + 4294967296 ^ m * x := by
    rw [← vW_take hx, List.take_of_length_le (by omega)]
  have h2 : vW (ws.take m) < 4294967296 ^ m := by
    have := vW_lt (ws.take m) (fun y hy => hw y (List.mem_of_mem_take hy))
    rwa [List.length_take, Nat.min_eq_left (by omega)] at this
  have h3 : (4294967296 : Nat) ^ m = 2 ^ (m * 32) := by rw [Nat.mul_comm, Nat.pow_mul]
  have hn : 0 < n := by
    rcases Nat.eq_zero_or_pos n with h0 | h0
    · subst h0; have := h.1; simp at this; omega
    · exact h0
  rw [h3] at h1 h2
  obtain ⟨g1, g2⟩ := h
  have g3 := g2 hn
  refine ⟨?_, fun _ => ?_⟩
  · rw [h1, Nat.pow_add]
    have : 2 ^ (m * 32) * (x + 1) ≤ 2 ^ (m * 32) * 2 ^ n := Nat.mul_le_mul_left _ g1
    rw [Nat.mul_add, Nat.mul_one] at this
    omega
  · rw [h1, show m * 32 + n - 1 = m * 32 + (n - 1) by omega, Nat.pow_add]
    have : 2 ^ (m * 32) * 2 ^ (n - 1) ≤ 2 ^ (m * 32) * x := Nat.mul_le_mul_left _ g3
    omega

theorem half {x n t : Nat} (h : t = x / 2 ^ n) : t / 2 = x / 2 ^ (n + 1) := by
  rw [h, Nat.div_div_eq_div_mul, Nat.pow_succ]

set_option maxHeartbeats 4000000 in
theorem length_any (ws : List Nat) (a : Option Addr) (l c : Nat) (w : World) (h : WAt w ws a l) (ht : Trimmed ws) :
    Calls Tryz.prog 38 #[.slice a l c] w fun e w' => (∃ n : Nat, e = .returned (.int .i64 n) ∧ Long (vW ws) n ∧ n ≤ 100000) ∧ w' = w := by
  have hl2 := h.2.1
  by_cases h0 : l = 0
  · subst h0
    have HE := toHid (show Long (vW ws) 0 by rw [List.length_eq_zero_iff.1 h.1.symm]; exact ⟨by decide, fun h => by omega⟩)
    clear h ht
    go_enter Tryz.func38, Tryz.ntmps38
    go_wp2_with fail
    go_ret
    exact ⟨⟨0, rfl, HE.out, by omega⟩, rfl⟩
  · obtain ⟨m, rfl⟩ : ∃ m, l = m + 1 := ⟨l - 1, by omega⟩
    obtain ⟨b, off, ha, hb, hc⟩ := h.2.2.2 (by omega)
    subst ha
    obtain ⟨x, hx⟩ : ∃ x, ws[m]? = some x := ⟨ws[m]'(by have := h.1; omega), List.getElem?_eq_getElem _⟩
    have hx0 : x ≠ 0 := ht m x h.1.symm hx
    have hx32 : x < 4294967296 := h.2.2.1 x (List.mem_of_getElem? hx)
    have d0 := hc m x hx
    have fin : Hid (∀ n, Long x n → Long (vW ws) (m * 32 + n)) := fun n hn => long_last h.2.2.1 h.1.symm hx hn hx0
    clear h ht hc hx
    go_enter Tryz.func38, Tryz.ntmps38
    go_wp2_with fail
    go_loopg [3, 4] 32 (fun g s3 s4 wr => ∃ n t : Nat, n ≤ 32 ∧ 32 - n ≤ g ∧ s3 = .int .i64 n ∧ s4 = .int .u32 t ∧ t < 4294967296 ∧ wr = w ∧ t = x / 2 ^ n ∧ (0 < n → 2 ^ (n - 1) ≤ x))
    case atStart => exact ⟨0, x, by omega, by omega, rfl, rfl, hx32, rfl, by simp, fun h => by omega⟩
    case round =>
      obtain ⟨n, t, hn, hg, rfl, rfl, ht32, rfl, ht, hp⟩ := hrel
      have HT := toHid ht
      have HP := toHid hp
      clear ht hp
      by_cases ht0 : t = 0
      · subst ht0
        have HF := toHid (fin.out n ⟨by
          have h1 := HT.out
          rcases Nat.lt_or_ge x (2 ^ n) with h2 | h2
          · exact h2
          · have := Nat.div_pos h2 (Nat.two_pow_pos n)
            omega, HP.out⟩)
        clear fin
        go_wp2_with fail
        go_ret
        exact ⟨⟨m * 32 + n, ret_int (by go_num), HF.out, by omega⟩, rfl⟩
      · have ht0' : ((t : Int) != 0) = true := by simp [ht0]
        have HL := toHid (show 2 ^ n ≤ x by
          have h1 := HT.out
          rcases Nat.lt_or_ge x (2 ^ n) with h2 | h2
          · rw [Nat.div_eq_of_lt h2] at h1
            exact absurd h1 ht0
          · exact h2)
        have hn32 : n < 32 := by
          rcases Nat.lt_or_ge n 32 with h1 | h1
          · exact h1
          · have := Nat.pow_le_pow_right (n := 2) (by omega) h1
            have := HL.out
            have e : (2 : Nat) ^ 32 = 4294967296 := by decide
            omega
        clear ht0
        go_wp2_with fail
        go_roundg (32 - (n + 1))
        case measure => omega
        case rel => exact ⟨n + 1, t / 2, by omega, by omega, by go_num, by first | rfl | (congr 1; omega), by omega, rfl, half HT.out, fun _ => HL.out⟩
end Go.Proofs.YtekkifljcppmlaaGreatDoor
