/-
  What is proved here: the plain reading of one letter, by the bytes that stand there.
-/
import Derived.Test.YtdbodcfodlbgnaaDoorVpPure
namespace Go.Proofs.YtdbodcfodlbgnaaDoor
open Go.RowKit
set_option linter.unusedVariables false

theorem drop_at {text : ByteArray} {p : Nat} (h : p < text.size) : text.data.toList.drop p = text[p] :: text.data.toList.drop (p + 1) := by
  have h1 : p < text.data.toList.length := by rw [Array.length_toList]; exact h
  rw [List.drop_eq_getElem_cons h1]
  rfl

theorem drop_end {text : ByteArray} {p : Nat} (h : text.size ≤ p) : text.data.toList.drop p = [] := List.drop_eq_nil_of_le (by rw [Array.length_toList]; exact h)

theorem begins_one {text : ByteArray} {p : Nat} (h : p < text.size) (c : UInt8) : begins text p ⟨#[c]⟩ = (c == text[p]) := by
  rw [begins_drop (drop_at h)]
  show ((c == text[p]) && List.isPrefixOf [] _) = _
  simp

theorem begins_two {text : ByteArray} {p : Nat} (h : p < text.size) (c d : UInt8) : begins text p ⟨#[c, d]⟩ = ((c == text[p]) && begins text (p + 1) ⟨#[d]⟩) := by
  rw [begins_drop (drop_at h), begins_drop (p := p + 1) rfl]
  rfl

theorem begins_none {text : ByteArray} {p : Nat} (h : text.size ≤ p) (c : UInt8) (l : List UInt8) : begins text p ⟨(c :: l).toArray⟩ = false := by
  rw [begins_drop (drop_end h)]
  rfl

theorem decN_same {n b0 b1 b2 b3 n' b1' b2' b3' c k : Nat} (h : Lib.decodeN n b0 b1 b2 b3 = (c, k)) (hne : ¬ (c = 65533 ∧ k = 1)) (hk : k ≤ n') (h1 : 1 < k → b1' = b1) (h2 : 2 < k → b2' = b2) (h3 : 3 < k → b3' = b3) : Lib.decodeN n' b0 b1' b2' b3' = (c, k) ∧ (128 ≤ b0 → 128 ≤ c ∧ 2 ≤ k ∧ k ≤ 4 ∧ (1 < k → 128 ≤ b1) ∧ (2 < k → 128 ≤ b2) ∧ (3 < k → 128 ≤ b3)) := by
  unfold Lib.decodeN at h ⊢
  by_cases a0 : b0 < 128
  · rw [if_pos a0] at h ⊢
    exact ⟨h, fun h' => by omega⟩
  · rw [if_neg a0] at h ⊢
    by_cases a1 : b0 / 32 = 6 ∧ (1 < n ∧ b1 / 64 = 2)
    · rw [if_pos a1] at h
      split at h
      · rename_i hc
        simp only [Prod.mk.injEq] at h
        obtain ⟨hc1, hk1⟩ := h
        have e1 := h1 (by omega)
        subst e1
        rw [if_pos ⟨a1.1, by omega, a1.2.2⟩, if_pos hc]
        exact ⟨by rw [hc1, hk1], fun _ => by omega⟩
      · simp only [Prod.mk.injEq] at h
        exact absurd ⟨h.1.symm, h.2.symm⟩ hne
    · rw [if_neg a1] at h
      by_cases a2 : b0 / 16 = 14 ∧ (1 < n ∧ b1 / 64 = 2) ∧ (2 < n ∧ b2 / 64 = 2)
      · rw [if_pos a2] at h
        split at h
        · rename_i hc
          simp only [Prod.mk.injEq] at h
          obtain ⟨hc1, hk1⟩ := h
          have e1 := h1 (by omega)
          have e2 := h2 (by omega)
          subst e1
          subst e2
          rw [if_neg (by omega), if_pos ⟨a2.1, ⟨by omega, a2.2.1.2⟩, by omega, a2.2.2.2⟩, if_pos hc]
          exact ⟨by rw [hc1, hk1], fun _ => by omega⟩
        · simp only [Prod.mk.injEq] at h
          exact absurd ⟨h.1.symm, h.2.symm⟩ hne
      · rw [if_neg a2] at h
        by_cases a3 : b0 / 8 = 30 ∧ (1 < n ∧ b1 / 64 = 2) ∧ (2 < n ∧ b2 / 64 = 2) ∧ (3 < n ∧ b3 / 64 = 2)
        · rw [if_pos a3] at h
          split at h
          · rename_i hc
            simp only [Prod.mk.injEq] at h
            obtain ⟨hc1, hk1⟩ := h
            have e1 := h1 (by omega)
            have e2 := h2 (by omega)
            have e3 := h3 (by omega)
            subst e1
            subst e2
            subst e3
            rw [if_neg (by omega), if_neg (by omega), if_pos ⟨a3.1, ⟨by omega, a3.2.1.2⟩, ⟨by omega, a3.2.2.1.2⟩, by omega, a3.2.2.2.2⟩, if_pos hc]
            exact ⟨by rw [hc1, hk1], fun _ => by omega⟩
          · simp only [Prod.mk.injEq] at h
            exact absurd ⟨h.1.symm, h.2.symm⟩ hne
        · rw [if_neg a3] at h
          simp only [Prod.mk.injEq] at h
          exact absurd ⟨h.1.symm, h.2.symm⟩ hne

theorem dec_low {text : ByteArray} {p : Nat} (h : p < text.size) (hb : text[p].toNat < 128) : Lib.decodeGo (text.extract p text.size) = (text[p].toNat, 1) := by
  rw [dec_eq text p _ (drop_at h) (by simp)]
  exact Lib.decodeL_ascii _ _ hb

theorem dec_high {text : ByteArray} {p : Nat} (h : p < text.size) (hb : 128 ≤ text[p].toNat) : 128 ≤ (Lib.decodeGo (text.extract p text.size)).1 := by
  rw [dec_eq text p _ (drop_at h) (by simp)]
  obtain ⟨c, k, e⟩ : ∃ c k, Lib.decodeL (text[p] :: text.data.toList.drop (p + 1)) = (c, k) := ⟨_, _, rfl⟩
  rw [e]
  by_cases hne : c = 65533 ∧ k = 1
  · show 128 ≤ c
    omega
  · rw [Lib.decodeL_N] at e
    have hk : k ≤ (text[p] :: text.data.toList.drop (p + 1)).length := by
      have := Lib.decodeL_le (text[p] :: text.data.toList.drop (p + 1)) (by simp)
      rw [Lib.decodeL_N, e] at this
      exact this
    exact ((decN_same e hne hk (fun _ => rfl) (fun _ => rfl) (fun _ => rfl)).2 hb).1

theorem letP_feed {text : ByteArray} {p : Nat} (h : p < text.size) (hc : text[p] = 10) : letP text p = none := by
  unfold letP
  rw [begins_two h, begins_two h, begins_two h, hc, if_neg (by simp), if_neg (by simp), if_neg (by simp), dec_low h (by rw [hc]; decide), if_pos (.inr (.inl (by rw [hc]; rfl)))]

theorem letP_other {text : ByteArray} {p : Nat} (h : p < text.size) (hc : text[p] ≠ 10) (hd : text[p] ≠ 92) : letP text p = if (Lib.decodeGo (text.extract p text.size)).1 = 65533 ∧ (Lib.decodeGo (text.extract p text.size)).2 = 1 then none else some (text.extract p (p + (Lib.decodeGo (text.extract p text.size)).2), p + (Lib.decodeGo (text.extract p text.size)).2) := by
  have e0 : ((92 : UInt8) == text[p]) = false := beq_eq_false_iff_ne.2 (Ne.symm hd)
  have h1 := (dec_size h).1
  unfold letP
  rw [begins_two h, begins_two h, begins_two h, e0]
  simp only [Bool.false_and, Bool.false_eq_true, if_false]
  have h2 : (Lib.decodeGo (text.extract p text.size)).1 ≠ 92 ∧ (Lib.decodeGo (text.extract p text.size)).1 ≠ 10 := by
    by_cases hb : text[p].toNat < 128
    · rw [dec_low h hb]
      exact ⟨fun e => hd (UInt8.toNat_inj.1 e), fun e => hc (UInt8.toNat_inj.1 e)⟩
    · have := dec_high h (by omega)
      omega
  by_cases h3 : (Lib.decodeGo (text.extract p text.size)).1 = 65533 ∧ (Lib.decodeGo (text.extract p text.size)).2 = 1
  · rw [if_pos (.inr (.inr ⟨h3.1, by omega⟩)), if_pos h3]
  · rw [if_neg (by omega), if_neg h3]

theorem letP_back_end {text : ByteArray} {p : Nat} (h : p < text.size) (hc : text[p] = 92) (h2 : text.size ≤ p + 1) : letP text p = none := by
  unfold letP
  rw [begins_two h, begins_two h, begins_two h, begins_none h2 39 [], begins_none h2 92 [], begins_none h2 110 []]
  simp only [Bool.and_false, Bool.false_eq_true, if_false]
  rw [dec_low h (by rw [hc]; decide), if_pos (.inl (by rw [hc]; rfl))]

theorem letP_back {text : ByteArray} {p : Nat} (h : p < text.size) (hc : text[p] = 92) (h2 : p + 1 < text.size) : letP text p = if text[p + 1] = 39 then some (⟨#[39]⟩, p + 2) else if text[p + 1] = 92 then some (⟨#[92]⟩, p + 2) else if text[p + 1] = 110 then some (⟨#[10]⟩, p + 2) else none := by
  have e0 : ((92 : UInt8) == text[p]) = true := by rw [hc]; decide
  unfold letP
  rw [begins_two h, begins_two h, begins_two h, begins_one h2, begins_one h2, begins_one h2, e0]
  simp only [Bool.true_and, beq_iff_eq, eq_comm (b := text[p + 1])]
  rw [dec_low h (by rw [hc]; decide)]
  by_cases g1 : text[p + 1] = 39
  · rw [if_pos g1, if_pos g1]
  by_cases g2 : text[p + 1] = 92
  · rw [if_neg g1, if_neg g1, if_pos g2, if_pos g2]
  by_cases g3 : text[p + 1] = 110
  · rw [if_neg g1, if_neg g1, if_neg g2, if_neg g2, if_pos g3, if_pos g3]
  · rw [if_neg g1, if_neg g1, if_neg g2, if_neg g2, if_neg g3, if_neg g3, if_pos (.inl (by rw [hc]; rfl))]

theorem letP_end (text : ByteArray) : letP text text.size = none := by
  have h := Nat.le_refl text.size
  unfold letP
  rw [begins_none h 92 [39], begins_none h 92 [92], begins_none h 92 [110], dec_end h]
  simp
end Go.Proofs.YtdbodcfodlbgnaaDoor
