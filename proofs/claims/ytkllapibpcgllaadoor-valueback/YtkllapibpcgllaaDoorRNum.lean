/-
  What is proved here: a number, written as Print writes it, is read as that number.
-/
import Derived.Test.YtkllapibpcgllaaDoorRText2
import Derived.Lib.AtoiAllCases
namespace Go.Proofs.YtkllapibpcgllaaDoor
open Go.RowKit
set_option linter.unusedVariables false

theorem parse_append : ∀ (l r : List UInt8) (acc v : Nat), Lib.parseUint10 acc l = .ok v → Lib.parseUint10 acc (l ++ r) = Lib.parseUint10 v r
  | [], r, acc, v, h => by
    simp only [Lib.parseUint10] at h
    injection h with h
    subst h
    rfl
  | c :: l, r, acc, v, h => by
    simp only [List.cons_append, Lib.parseUint10] at h ⊢
    split at h
    · rename_i h1
      rw [if_pos h1]
      split at h
      · cases h
      · rename_i h2
        rw [if_neg h2]
        split at h
        · cases h
        · rename_i h3
          rw [if_neg h3]
          exact parse_append l r _ v h
    · cases h

theorem digit_nat (d : Nat) (h : d < 10) : (UInt8.ofNat (48 + d)).toNat = 48 + d := by
  rw [UInt8.toNat_ofNat']
  omega

theorem parse_digits (u : Nat) (hu : u ≤ 9223372036854775808) : Lib.parseUint10 0 (Lib.decDigits u) = .ok u := by
  induction u using Nat.strongRecOn with
  | _ u ih =>
    by_cases h : u < 10
    · rw [Lib.decDigits, dif_pos h]
      simp only [Lib.parseUint10, digit_nat u h]
      rw [if_pos (by omega), if_neg (by omega), if_neg (by omega)]
      congr 1
      omega
    · rw [Lib.decDigits, dif_neg h, parse_append _ _ _ _ (ih (u / 10) (by omega) (by omega))]
      simp only [Lib.parseUint10, digit_nat (u % 10) (Nat.mod_lt _ (by decide))]
      rw [if_pos (by omega), if_neg (by omega), if_neg (by omega)]
      congr 1
      omega

theorem digits_mem (u : Nat) : ∀ b ∈ Lib.decDigits u, 48 ≤ b.toNat ∧ b.toNat ≤ 57 := by
  induction u using Nat.strongRecOn with
  | _ u ih =>
    intro b hb
    by_cases h : u < 10
    · rw [Lib.decDigits, dif_pos h] at hb
      obtain rfl := List.mem_singleton.1 hb
      rw [digit_nat u h]
      omega
    · rw [Lib.decDigits, dif_neg h] at hb
      rcases List.mem_append.1 hb with hb | hb
      · exact ih (u / 10) (by omega) b hb
      · obtain rfl := List.mem_singleton.1 hb
        rw [digit_nat (u % 10) (Nat.mod_lt _ (by decide))]
        omega

theorem atoi_itoa (n : Int) (h0 : -9223372036854775808 ≤ n) (h1 : n ≤ 9223372036854775807) : Lib.atoiAll (Lib.itoa n) = .ok n := by
  unfold Lib.itoa
  by_cases hn : n < 0
  · rw [if_pos hn, Lib.atoiAll_minus]
    unfold Lib.parseMag
    rw [if_neg (digits_ne _), parse_digits _ (by omega)]
    simp only [Lib.signed]
    rw [if_neg (by omega)]
    congr 1
    omega
  · rw [if_neg hn]
    obtain ⟨c, r, hcr⟩ : ∃ c r, Lib.decDigits n.toNat = c :: r := by
      cases h : Lib.decDigits n.toNat with
      | nil => exact absurd h (digits_ne _)
      | cons c r => exact ⟨c, r, rfl⟩
    have hc := digits_mem n.toNat c (by rw [hcr]; exact List.mem_cons_self ..)
    rw [hcr, Lib.atoiAll_plain c r (by omega) (by omega), ← hcr]
    unfold Lib.parseMag
    rw [if_neg (digits_ne _), parse_digits _ (by omega)]
    simp only [Lib.signless]
    rw [if_neg (by omega)]
    congr 1
    omega

/-- What may follow a number: the end, or what is no digit. -/
def NoDigit (post : List UInt8) : Prop := ∀ c r, post = c :: r → ¬ (48 ≤ c.toNat ∧ c.toNat ≤ 57)

theorem byte_at {text : ByteArray} {p : Nat} {l : List UInt8} (h : text.data.toList.drop p = l) (i : Nat) (hi : p ≤ i) (hlt : i < text.size) : l[i - p]? = some text[i] := by
  rw [← h, List.getElem?_drop, show p + (i - p) = i from by omega]
  have : text.data.toList[i]? = some text.data.toList[i] := List.getElem?_eq_getElem (by simpa using hlt)
  rw [this]
  rfl

theorem number_read (text : ByteArray) (ht : text.size ≤ 4000) (p : Nat) (n : Int) (post : List UInt8) (hp : p ≤ text.size) (h0 : -9223372036854775808 ≤ n) (h1 : n ≤ 9223372036854775807) (hd : text.data.toList.drop p = Lib.itoa n ++ post) (hpost : NoDigit post) (B r : Nat) (w : World) (h : Rd r text p w) (hB : B ≤ r) (hP : Pow10 B w) :
    Calls Tryd.prog 57 #[.pointer (some ⟨r, 0, none⟩)] w fun e w' => e = .returned (.agg #[.int .i64 2, .int .i64 n, .string ⟨#[]⟩, .slice none 0 0]) ∧ Moved r text (p + (Lib.itoa n).length) w w' := by
  have hsz := size_of_drop hd hp
  rw [List.length_append] at hsz
  have hext : (text.extract p (p + (Lib.itoa n).length)).data.toList = Lib.itoa n := by
    rw [ext_mid, hd, List.take_append_of_le_length (Nat.le_refl _), List.take_of_length_le (Nat.le_refl _)]
  have hlen0 : 0 < (Lib.itoa n).length := List.length_pos_iff.2 (itoa_ne n)
  have hend : ¬ digitAt text (p + (Lib.itoa n).length) := by
    rintro ⟨hlt, hdg⟩
    have := byte_at hd (p + (Lib.itoa n).length) (by omega) hlt
    rw [show p + (Lib.itoa n).length - p = (Lib.itoa n).length from by omega, List.getElem?_append_right (Nat.le_refl _), Nat.sub_self] at this
    cases post with
    | nil => simp at this
    | cons c r =>
      simp at this
      exact hpost c r rfl (by rw [this]; exact hdg)
  by_cases hn : n < 0
  · have e : Lib.itoa n = 45 :: Lib.decDigits n.natAbs := by unfold Lib.itoa; rw [if_pos hn]
    refine number_any B r p (p + 1) (p + (Lib.itoa n).length) true n text w h ht hB hP hp (by rw [begins_drop hd, e]; rfl) rfl (by omega) (by omega) (fun i hi hi2 => ?_) hend (by rw [hext]; exact atoi_itoa n h0 h1) h0 h1 hext.symm
    have hlt : i < text.size := by omega
    refine ⟨hlt, ?_⟩
    have := byte_at hd i (by omega) hlt
    rw [List.getElem?_append_left (by omega), e] at this
    obtain ⟨j, hj⟩ : ∃ j, i - p = j + 1 := ⟨i - p - 1, by omega⟩
    rw [hj, List.getElem?_cons_succ] at this
    exact digits_mem _ _ (List.mem_of_getElem? this)
  · have e : Lib.itoa n = Lib.decDigits n.toNat := by unfold Lib.itoa; rw [if_neg hn]
    obtain ⟨c, rr, hcr⟩ : ∃ c rr, Lib.decDigits n.toNat = c :: rr := by
      cases h : Lib.decDigits n.toNat with
      | nil => exact absurd h (digits_ne _)
      | cons c r => exact ⟨c, r, rfl⟩
    have hc := digits_mem n.toNat c (by rw [hcr]; exact List.mem_cons_self ..)
    refine number_any B r p p (p + (Lib.itoa n).length) false n text w h ht hB hP hp (by
      rw [begins_drop hd, e, hcr]
      have : ¬ (45 : UInt8) = c := fun e => by subst e; exact absurd hc.1 (by decide)
      simp [List.isPrefixOf, this]) rfl (by omega) (by omega) (fun i hi hi2 => ?_) hend (by rw [hext]; exact atoi_itoa n h0 h1) h0 h1 hext.symm
    have hlt : i < text.size := by omega
    refine ⟨hlt, ?_⟩
    have := byte_at hd i (by omega) hlt
    rw [List.getElem?_append_left (by omega), e] at this
    exact digits_mem _ _ (List.mem_of_getElem? this)
end Go.Proofs.YtkllapibpcgllaaDoor
