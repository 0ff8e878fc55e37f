/-
  What is proved here: espalierbig's IsInt64 leaves the world as it was.
-/
import Derived.Test.YtdbodcfodlbgnaaDoorBgS
namespace Go.Proofs.YtdbodcfodlbgnaaDoor.BG
open Go.RowKit
set_option linter.unusedVariables false

set_option maxHeartbeats 4000000 in
theorem bit_same (ws : List Nat) (a : Option Addr) (l c i q r x : Nat) (w : World) (h : WAt w ws a l) (hi : i = 32 * q + r) (hr : r < 32) (hx : ws[q]? = some x) :
    Calls Tryd.prog 66 #[.slice a l c, .int .i64 i] w fun e w' => e = .returned (.int .u64 ((x / 2 ^ r % 2 : Nat))) ∧ w' = w := by
  have hl2 := h.2.1
  have hq : q < l := by have := (List.getElem?_eq_some_iff.1 hx).1; have := h.1; omega
  obtain ⟨b, off, ha, hb, hc⟩ := h.2.2.2 (by omega)
  subst ha
  have d0 := hc q x hx
  have hx32 : x < 4294967296 := h.2.2.1 x (List.mem_of_getElem? hx)
  have hi2 : i < 32000 := by omega
  have hq1 : (i : Int) / 32 = (q : Int) := by omega
  have hq2 : Int.tdiv (i : Int) 32 = (q : Int) := by rw [Int.tdiv_eq_ediv_of_nonneg (by omega)]; omega
  have hr1 : (i : Int) % 32 = (r : Int) := by omega
  have hr2 : Int.tmod (i : Int) 32 = (r : Int) := by rw [Int.tmod_eq_emod_of_nonneg (by omega)]; omega
  have hql : ¬ (l : Int) ≤ q := by omega
  have hql2 : (q : Int) < l := by omega
  obtain ⟨t, ht⟩ : ∃ t : Nat, t = x / 2 ^ r := ⟨_, rfl⟩
  have htl : t < 4294967296 := by rw [ht]; exact Nat.lt_of_le_of_lt (Nat.div_le_self _ _) hx32
  have htd : (x : Int) / 2 ^ r = (t : Int) := by rw [ht]; simp
  have htw : IntKind.u64.wrap (t : Int) = t := by rw [wrap64]; omega
  have hta : bits .and .u64 (t : Int) 1 = ((t % 2 : Nat) : Int) := by
    have := u64_and_nat t 1 (by omega) (by omega)
    rw [nat_mask1] at this
    exact this
  rw [← ht]
  obtain ⟨t2, ht2⟩ : ∃ t2 : Nat, t2 = t % 2 := ⟨_, rfl⟩
  rw [← ht2] at hta ⊢
  clear h hc hx hi ht ht2
  go_enter Tryd.func66, Tryd.ntmps66
  go_wp2_with fail
  go_ret
  exact ⟨rfl, rfl⟩

set_option maxHeartbeats 4000000 in
theorem zeros_same (ib : Nat) (neg : Bool) (x y : Nat) (a : Option Addr) (c : Nat) (w : World) (hb : w.heap[ib]? = some (.cells #[.bool neg, .slice a 2 c] 58 (0, 0))) (h : WAt w [x, y] a 2) (hv : 9223372036854775808 ≤ x + 4294967296 * y) :
    Calls Tryd.prog 51 #[.pointer (some ⟨ib, 0, none⟩)] w fun e w' => (∃ n : Nat, n ≤ 63 ∧ e = .returned (.int .u64 n) ∧ (n = 63 ↔ x + 4294967296 * y = 9223372036854775808)) ∧ w' = w := by
  have hx : x < 4294967296 := h.2.2.1 x (by simp)
  have hy : y < 4294967296 := h.2.2.1 y (by simp)
  have p1 := cell_of hb 1
  simp at p1
  have hib : ib < w.heap.size := (Array.getElem?_eq_some_iff.1 hb).1
  obtain ⟨v, hvv⟩ : ∃ v, v = x + 4294967296 * y := ⟨_, rfl⟩
  have hv64 : v < 18446744073709551616 := by omega
  have HBIT : Hid (∀ (n : Nat) (W : World), n < 64 → Below w.heap.size w W → Calls Tryd.prog 66 #[.slice a 2 c, .int .i64 n] W fun e w' => e = .returned (.int .u64 ((v / 2 ^ n % 2 : Nat))) ∧ w' = W) := by
    intro n W hn k
    by_cases h32 : n < 32
    · rw [hvv, bit_low h32]
      exact bit_same [x, y] a 2 c n 0 n x W (h.below k) (by omega) h32 rfl
    · obtain ⟨r, rfl⟩ : ∃ r, n = 32 * 1 + r := ⟨n - 32, by omega⟩
      rw [hvv, bit_high hx]
      exact bit_same [x, y] a 2 c (32 * 1 + r) 1 r y W (h.below k) rfl (by omega) rfl
  rw [← hvv] at hv ⊢
  clear h hb hvv hx hy
  go_enter Tryd.func51, Tryd.ntmps51
  go_wp2_with fail
  go_loopg [3] 64 (fun g s3 wr => ∃ n : Nat, n ≤ 63 ∧ 64 - n ≤ g ∧ s3 = .int .u64 n ∧ wr = w ∧ v % 2 ^ n = 0)
  case atStart => exact ⟨0, by omega, by omega, rfl, rfl, by simp [Nat.mod_one]⟩
  case round =>
    obtain ⟨n, hn, hg, rfl, hbw, hm⟩ := hrel
    have HBW := toHid hbw
    have HM := toHid hm
    have p2 : wr.cell? ⟨ib, 1, none⟩ = some (.slice a 2 c) := by rw [HBW.out]; exact p1
    have hibr : ib < wr.heap.size := by rw [HBW.out]; exact hib
    have HC := toHid (HBIT.out n wr (by omega) (by rw [HBW.out]; exact Below.refl _ _))
    clear hbw hm
    by_cases hbit : v / 2 ^ n % 2 = 0
    · have HM2 := toHid (mod_next HM.out hbit)
      rw [hbit] at HC
      have hn63 : n < 63 := by
        rcases Nat.lt_or_ge n 63 with h1 | h1
        · exact h1
        · obtain rfl : n = 63 := by omega
          have := HM2.out
          rw [show (2 : Nat) ^ (63 + 1) = 18446744073709551616 by rfl, Nat.mod_eq_of_lt hv64] at this
          omega
      clear hbit
      go_wp2_with fail
      refine HC.out.mono ?_
      rintro e w1 ⟨rfl, k1⟩
      have HB2 := toHid (k1.trans HBW.out)
      clear k1
      go_wp2_with fail
      go_roundg (64 - (n + 1))
      case measure => omega
      case rel => exact ⟨n + 1, by omega, by omega, by go_num, HB2.out, HM2.out⟩
    · have hb1 : v / 2 ^ n % 2 = 1 := by omega
      have HF := toHid (show n = 63 ↔ v = 9223372036854775808 by
        constructor
        · rintro rfl
          have := HM.out
          rw [show (2 : Nat) ^ 63 = 9223372036854775808 by rfl] at this
          omega
        · rintro rfl
          rcases Nat.lt_or_ge n 63 with h1 | h1
          · exfalso
            obtain ⟨k, hk⟩ : ∃ k, k + 1 + n = 63 := ⟨62 - n, by omega⟩
            rw [show (9223372036854775808 : Nat) = 2 ^ (k + 1 + n) by rw [hk], Nat.pow_add, Nat.mul_div_cancel _ (Nat.two_pow_pos n), Nat.pow_succ, Nat.mul_mod_left] at hb1
            omega
          · omega)
      rw [hb1] at HC
      clear hbit hb1
      go_wp2_with fail
      refine HC.out.mono ?_
      rintro e w1 ⟨rfl, k1⟩
      have HB2 := toHid (k1.trans HBW.out)
      clear k1
      go_wp2_with fail
      go_ret
      exact ⟨⟨n, hn, rfl, HF.out⟩, HB2.out⟩

set_option maxHeartbeats 4000000 in
theorem isInt64_same (ib : Nat) (z : Int) (w : World) (h : IntAt w ib z) :
    Calls Tryd.prog 26 #[.pointer (some ⟨ib, 0, none⟩)] w fun e w' => e = .returned (.bool (decide (-9223372036854775808 ≤ z ∧ z ≤ 9223372036854775807))) ∧ w' = w := by
  obtain ⟨neg, a, l, c, ws, hb, hw, h1, h2, h3, ht, hzv, hn⟩ := h
  have HLEN := toHid (length_any ws a l c w hw ht)
  have p0 := cell_of hb 0
  have p1 := cell_of hb 1
  simp at p0 p1
  obtain ⟨R, hR⟩ : ∃ R, R = decide (-9223372036854775808 ≤ z ∧ z ≤ 9223372036854775807) := ⟨_, rfl⟩
  rw [← hR]
  have HT : Hid (9223372036854775808 ≤ vW ws → vW ws < 18446744073709551616 → Calls Tryd.prog 51 #[.pointer (some ⟨ib, 0, none⟩)] w fun e w' => (∃ n : Nat, n ≤ 63 ∧ e = .returned (.int .u64 n) ∧ (n = 63 ↔ vW ws = 9223372036854775808)) ∧ w' = w) := by
    intro g1 g2
    obtain ⟨x, y, rfl⟩ := two_words ht hw.2.2.1 g1 g2
    have hl : l = 2 := hw.1
    subst hl
    have e : vW [x, y] = x + 4294967296 * y := by simp [vW]
    rw [e] at g1 ⊢
    exact zeros_same ib neg x y a c w hb hw g1
  clear hb hw h1 h2 h3 ht hn
  generalize vW ws = v at HLEN HT hzv
  by_cases hv : v < 9223372036854775808
  · have hRt : R = true := by rw [hR, decide_eq_true_eq, hzv]; split <;> omega
    subst hRt
    clear HT hzv hR
    go_enter Tryd.func26, Tryd.ntmps26
    go_wp2_with fail
    refine HLEN.out.mono ?_
    rintro e w1 ⟨⟨n, rfl, hL, hn⟩, rfl⟩
    have hn64 : (n : Int) < 64 := by have := long_63 hL hv; omega
    clear hL hv HLEN
    go_wp2_with fail
    go_ret
    exact ⟨rfl, rfl⟩
  · by_cases hn64 : v < 18446744073709551616 ∧ neg = true
    · obtain ⟨hv2, rfl⟩ := hn64
      have HT2 := toHid (HT.out (by omega) hv2)
      have HR := toHid (show R = decide (v = 9223372036854775808) by rw [hR, hzv]; simp; omega)
      clear HT hzv hR
      go_enter Tryd.func26, Tryd.ntmps26
      go_wp2_with fail
      refine HLEN.out.mono ?_
      rintro e w1 ⟨⟨n, rfl, hL, hn⟩, rfl⟩
      have hn64 : n = 64 := by
        have h1 := long_ge hL (by omega)
        rcases Nat.lt_or_ge 64 n with h2 | h2
        · have h3 := hL.2 (by omega)
          have h4 := Nat.pow_le_pow_right (n := 2) (by omega) (show 64 ≤ n - 1 by omega)
          rw [show (2 : Nat) ^ 64 = 18446744073709551616 by rfl] at h4
          omega
        · omega
      subst hn64
      clear hL HLEN
      go_wp2_with fail
      refine HT2.out.mono ?_
      rintro e w2 ⟨⟨m, hm, rfl, hiff⟩, k2⟩
      have HRR := toHid (show ((m : Int) == 63) = R by rw [HR.out, Bool.eq_iff_iff]; simp; omega)
      clear hiff HR HT2
      go_wp2_with fail
      go_ret
      exact ⟨by rw [← HRR.out]; rfl, rfl⟩
    · have hRf : R = false := by rw [hR, decide_eq_false_iff_not, hzv]; split <;> simp_all <;> omega
      subst hRf
      clear HT hzv hR
      go_enter Tryd.func26, Tryd.ntmps26
      go_wp2_with fail
      refine HLEN.out.mono ?_
      rintro e w1 ⟨⟨n, rfl, hL, hn⟩, rfl⟩
      have hg : ¬ (n : Int) < 64 := by have := long_ge hL (by omega); omega
      by_cases he : n = 64
      · have hnf : neg = false := by
          have := long_64 hL he
          cases neg
          · rfl
          · exact absurd ⟨this, rfl⟩ hn64
        subst hnf he
        clear hL hn64 HLEN
        go_wp2_with fail
        go_ret
        exact ⟨rfl, rfl⟩
      · have he' : ((n : Int) == 64) = false := by simp; omega
        clear hL hn64 HLEN
        go_wp2_with fail
        go_ret
        have hd : decide ((n : Int) < 64) = false := by simp; omega
        exact ⟨congrArg (fun q => Ending.returned (.bool q)) hd, rfl⟩

end Go.Proofs.YtdbodcfodlbgnaaDoor.BG
