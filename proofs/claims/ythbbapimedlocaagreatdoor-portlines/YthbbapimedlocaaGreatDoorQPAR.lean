/-
  What is proved here: what the texts VRText2, VRNum, PdPart, PtRow prove, in one text.
-/
import Derived.Test.YthbbapimedlocaaGreatDoorQPAQ
import Derived.Lib.AtoiAllCases
import Derived.Test.YthbbapimedlocaaGreatDoorQPAN
import Derived.Test.YthbbapimedlocaaGreatDoorQPAA
import Derived.Deep.AppendLies
namespace Go.Proofs.YthbbapimedlocaaGreatDoor
open Go.RowKit
set_option linter.unusedVariables false

theorem dec_eq (text : ByteArray) (p : Nat) (l : List UInt8) (h : text.data.toList.drop p = l) (hne : l ≠ []) : Lib.decodeGo (text.extract p text.size) = Lib.decodeL l := by
  have e : (text.extract p text.size).data.toList = l := by rw [ext_drop, h]
  unfold Lib.decodeGo Lib.decodeL
  have hs : ¬ (text.extract p text.size).size = 0 := by
    intro h0
    apply hne
    rw [← e]
    apply List.length_eq_zero_iff.1
    simpa using h0
  rw [if_neg hs]
  congr 1
  apply ByteArray.ext
  rw [← e]

/-- What stands first of a rune of more bytes decides it. -/
theorem decL_same {l l' : List UInt8} {c k : Nat} (h : Lib.decodeL l = (c, k)) (hl : l ≠ []) (hne : ¬ (c = 65533 ∧ k = 1)) (hb : 128 ≤ (l.getD 0 0).toNat) (ht : l'.take k = l.take k) (hk : k ≤ l'.length) : Lib.decodeL l' = (c, k) ∧ 128 ≤ c ∧ 2 ≤ k ∧ k ≤ l.length ∧ ∀ b ∈ l.take k, 128 ≤ b.toNat := by
  have hkl : k ≤ l.length := by have := Lib.decodeL_le l hl; rw [h] at this; exact this
  rw [Lib.decodeL_N] at h
  have hk1 : 1 ≤ k := by have := Lib.decodeL_width l; rw [Lib.decodeL_N, h] at this; exact this
  have g : ∀ j, j < k → l'.getD j 0 = l.getD j 0 := fun j hj => by
    have e1 : (l'.take k)[j]? = (l.take k)[j]? := by rw [ht]
    rw [List.getElem?_take, List.getElem?_take, if_pos hj, if_pos hj] at e1
    simp only [List.getD_eq_getElem?_getD, e1]
  have g0 : (l'.getD 0 0).toNat = (l.getD 0 0).toNat := by rw [g 0 (by omega)]
  obtain ⟨h1, h2⟩ := decN_same h hne (n' := l'.length) (b1' := (l'.getD 1 0).toNat) (b2' := (l'.getD 2 0).toNat) (b3' := (l'.getD 3 0).toNat) hk (fun hj => by rw [g 1 hj]) (fun hj => by rw [g 2 hj]) (fun hj => by rw [g 3 hj])
  obtain ⟨q1, q2, q3, q4, q5, q6⟩ := h2 hb
  refine ⟨by rw [Lib.decodeL_N, g0]; exact h1, q1, q2, hkl, fun b hbm => ?_⟩
  obtain ⟨j, hj, e⟩ := List.getElem_of_mem hbm
  have hjk : j < k := by simp at hj; omega
  have e2 : l.getD j 0 = b := by
    rw [List.getElem_take] at e
    have hjl : j < l.length := by omega
    rw [List.getD_eq_getElem?_getD, List.getElem?_eq_getElem hjl, ← e]
    rfl
  have h4 : j = 0 ∨ j = 1 ∨ j = 2 ∨ j = 3 := by omega
  rcases h4 with rfl | rfl | rfl | rfl
  · rw [← e2]; exact hb
  · rw [← e2]; exact q4 (by omega)
  · rw [← e2]; exact q5 (by omega)
  · rw [← e2]; exact q6 (by omega)

theorem escape_append (a b : List UInt8) : escape (a ++ b) = escape a ++ escape b := by simp [escape]

theorem escape_high : ∀ (l : List UInt8), (∀ b ∈ l, 128 ≤ b.toNat) → escape l = l
  | [], _ => rfl
  | b :: l, h => by
    have hb := h b (List.mem_cons_self ..)
    have e : escB b = [b] := by
      unfold escB
      have h1 : b ≠ 39 := fun e => by subst e; exact absurd hb (by decide)
      have h2 : b ≠ 92 := fun e => by subst e; exact absurd hb (by decide)
      have h3 : b ≠ 10 := fun e => by subst e; exact absurd hb (by decide)
      simp [h1, h2, h3]
    have ih := escape_high l (fun x hx => h x (List.mem_cons_of_mem _ hx))
    show escB b ++ escape l = b :: l
    rw [e, ih]
    rfl

theorem escape_cons (b : UInt8) (l : List UInt8) : escape (b :: l) = escB b ++ escape l := by simp [escape]

theorem size_of_drop {text : ByteArray} {p : Nat} {l : List UInt8} (h : text.data.toList.drop p = l) (hp : p ≤ text.size) : p + l.length = text.size := by
  have : (text.data.toList.drop p).length = l.length := by rw [h]
  rw [List.length_drop] at this
  have e : text.data.toList.length = text.size := by simp
  omega

theorem drop_more {text : ByteArray} {p : Nat} {a l : List UInt8} (h : text.data.toList.drop p = a ++ l) : text.data.toList.drop (p + a.length) = l := by
  rw [← List.drop_drop, h, List.drop_left]

/-- The letters of a text that is right UTF-8. -/
theorem letters_of (text : ByteArray) (ht : text.size ≤ 4000) : ∀ (N : Nat) (s : List UInt8) (p : Nat) (post : List UInt8), s.length ≤ N → p ≤ text.size → Lib.validD s = true → text.data.toList.drop p = escape s ++ 39 :: post → ∃ l, Letters text p l (p + (escape s).length + 1) ∧ joined l = s := by
  intro N
  induction N with
  | zero =>
    intro s p post hN hp hv hd
    have e : s = [] := List.length_eq_zero_iff.1 (by omega)
    subst e
    have hd' : text.data.toList.drop p = 39 :: post := hd
    exact ⟨[], ⟨hp, by rw [begins_drop hd']; rfl, rfl⟩, rfl⟩
  | succ N ih =>
    intro s p post hN hp hv hd
    cases s with
    | nil =>
      have hd' : text.data.toList.drop p = 39 :: post := hd
      exact ⟨[], ⟨hp, by rw [begins_drop hd']; rfl, rfl⟩, rfl⟩
    | cons b t =>
      by_cases hb : b.toNat < 128
      · rw [Lib.validD_cons b t hb] at hv
        rw [escape_cons, List.append_assoc] at hd
        have hsz := size_of_drop hd hp
        -- one byte, written as escB b; it is read as b
        have step : ∀ (x : ByteArray), x.data.toList = [b] → begins text p ⟨#[39]⟩ = false → LetterOk text p x (p + (escB b).length) → ∃ l, Letters text p l (p + (escape (b :: t)).length + 1) ∧ joined l = b :: t := by
          intro x hx h39 hl
          obtain ⟨l, hl1, hl2⟩ := ih t (p + (escB b).length) post (by simp at hN; omega) (by simp at hsz; omega) hv (drop_more hd)
          refine ⟨(x, p + (escB b).length) :: l, ⟨hp, h39, ?_, hl, ?_⟩, ?_⟩
          · show x.size ≤ 4000
            have : x.size = 1 := by have := congrArg List.length hx; simpa using this
            omega
          · rw [escape_cons, List.length_append]
            rw [show p + ((escB b).length + (escape t).length) + 1 = p + (escB b).length + (escape t).length + 1 from by omega]
            exact hl1
          · show x.data.toList ++ joined l = b :: t
            rw [hx, hl2]
            rfl
        by_cases b1 : b = 39
        · subst b1
          have hd' : text.data.toList.drop p = 92 :: 39 :: (escape t ++ 39 :: post) := hd
          exact step ⟨#[39]⟩ rfl (by rw [begins_drop hd']; rfl) (fun B r w h _ _ => letter_quote r p text w h hp ht (by rw [begins_drop hd']; rfl))
        · by_cases b2 : b = 92
          · subst b2
            have hd' : text.data.toList.drop p = 92 :: 92 :: (escape t ++ 39 :: post) := hd
            exact step ⟨#[92]⟩ rfl (by rw [begins_drop hd']; rfl) (fun B r w h _ _ => letter_back r p text w h hp ht (by rw [begins_drop hd']; rfl) (by rw [begins_drop hd']; rfl))
          · by_cases b3 : b = 10
            · subst b3
              have hd' : text.data.toList.drop p = 92 :: 110 :: (escape t ++ 39 :: post) := hd
              exact step ⟨#[10]⟩ rfl (by rw [begins_drop hd']; rfl) (fun B r w h _ _ => letter_feed r p text w h hp ht (by rw [begins_drop hd']; rfl) (by rw [begins_drop hd']; rfl) (by rw [begins_drop hd']; rfl))
            · have eb : escB b = [b] := by unfold escB; simp [b1, b2, b3]
              rw [eb] at hd step hsz
              have hd' : text.data.toList.drop p = b :: (escape t ++ 39 :: post) := hd
              have hpre : ∀ c d : UInt8, b ≠ c → ([c, d] : List UInt8).isPrefixOf (b :: (escape t ++ 39 :: post)) = false := fun c d hc => by
                simp [List.isPrefixOf, Ne.symm hc]
              have h39 : begins text p ⟨#[39]⟩ = false := by
                rw [begins_drop hd']
                simp [List.isPrefixOf, Ne.symm b1]
              have hx : (text.extract p (p + 1)).data.toList = [b] := by rw [ext_mid, hd']; rfl
              refine step (text.extract p (p + 1)) hx h39 (fun B r w h hB hT => ?_)
              have hne : (b.toNat : Nat) ≠ 92 := fun e => b2 (UInt8.toNat_inj.1 e)
              have hne2 : (b.toNat : Nat) ≠ 10 := fun e => b3 (UInt8.toNat_inj.1 e)
              exact letter_plain B r p 1 b.toNat text w h hp ht hB hT (by rw [begins_drop hd']; exact hpre 92 39 b2) (by rw [begins_drop hd']; exact hpre 92 92 b2) (by rw [begins_drop hd']; exact hpre 92 110 b2) (by rw [dec_eq text p _ hd' (by simp), Lib.decodeL_ascii b _ hb]) hne hne2 (by omega) (by simp at hsz; omega)
      · have hstep := Lib.validD_step (b :: t) (by simp)
        rw [hv] at hstep
        obtain ⟨c, k, hck⟩ : ∃ c k, Lib.decodeL (b :: t) = (c, k) := ⟨_, _, rfl⟩
        rw [hck] at hstep
        have hne : ¬ (c = 65533 ∧ k = 1) := by
          intro h
          rw [if_pos h] at hstep
          cases hstep
        rw [if_neg hne] at hstep
        have hv2 : Lib.validD ((b :: t).drop k) = true := hstep.symm
        have base := decL_same (l' := b :: t) hck (by simp) hne (by show 128 ≤ b.toNat; omega) rfl (by have := Lib.decodeL_le (b :: t) (by simp); rw [hck] at this; exact this)
        obtain ⟨_, hc, hk2, hkl, hhigh⟩ := base
        have hsplit : (b :: t) = (b :: t).take k ++ (b :: t).drop k := (List.take_append_drop k _).symm
        have hesc : escape (b :: t) = (b :: t).take k ++ escape ((b :: t).drop k) := by
          conv => lhs; rw [hsplit]
          rw [escape_append, escape_high _ hhigh]
        have htk : ((b :: t).take k).length = k := by rw [List.length_take]; omega
        rw [hesc, List.append_assoc] at hd
        have hsz := size_of_drop hd hp
        have hd2 := drop_more hd
        rw [htk] at hd2
        obtain ⟨l, hl1, hl2⟩ := ih ((b :: t).drop k) (p + k) post (by simp at hN ⊢; omega) (by simp only [List.length_append, htk] at hsz; omega) hv2 hd2
        have hx : (text.extract p (p + k)).data.toList = (b :: t).take k := by
          rw [ext_mid, hd]
          rw [List.take_append_of_le_length (by omega), List.take_of_length_le (by omega)]
        have hne0 : (b :: t).take k ++ (escape ((b :: t).drop k) ++ 39 :: post) ≠ [] := by simp
        obtain ⟨hdec, _⟩ := decL_same (l' := (b :: t).take k ++ (escape ((b :: t).drop k) ++ 39 :: post)) hck (by simp) hne (by show 128 ≤ b.toNat; omega) (by rw [List.take_append_of_le_length (by omega), List.take_of_length_le (by omega)]) (by simp only [List.length_append, htk]; omega)
        obtain ⟨k', hk'⟩ : ∃ k', k = k' + 1 := ⟨k - 1, by omega⟩
        have hhead : (b :: t).take k ++ (escape ((b :: t).drop k) ++ 39 :: post) = b :: (t.take k' ++ (escape ((b :: t).drop k) ++ 39 :: post)) := by rw [hk']; rfl
        have hdh := hd
        rw [hhead] at hdh
        have hpre : ∀ c d : UInt8, c.toNat < 128 → ([c, d] : List UInt8).isPrefixOf (b :: (t.take k' ++ (escape ((b :: t).drop k) ++ 39 :: post))) = false := fun c d hc => by
          have : ¬ c = b := fun e => by subst e; omega
          simp [List.isPrefixOf, this]
        have h39 : begins text p ⟨#[39]⟩ = false := by
          rw [begins_drop hdh]
          have : ¬ (39 : UInt8) = b := fun e => by subst e; exact hb (by decide)
          simp [List.isPrefixOf, this]
        have hpk : p + k ≤ text.size := by simp only [List.length_append, htk] at hsz; omega
        refine ⟨(text.extract p (p + k), p + k) :: l, ⟨hp, h39, ?_, ?_, ?_⟩, ?_⟩
        · show (text.extract p (p + k)).size ≤ 4000
          rw [ByteArray.size_extract]
          omega
        · intro B r w h hB hT
          have q1 : begins text p ⟨#[92, 39]⟩ = false := by rw [begins_drop hdh]; exact hpre 92 39 (by decide)
          have q2 : begins text p ⟨#[92, 92]⟩ = false := by rw [begins_drop hdh]; exact hpre 92 92 (by decide)
          have q3 : begins text p ⟨#[92, 110]⟩ = false := by rw [begins_drop hdh]; exact hpre 92 110 (by decide)
          have hdg : Lib.decodeGo (text.extract p text.size) = (c, k) := by rw [dec_eq text p _ hd hne0, hdec]
          by_cases hc3 : c = 65533
          · exact letter_sign B r p k c text w h hp ht hB hT q1 q2 q3 hdg (by omega) (by omega) hc3 hk2 hpk
          · exact letter_plain B r p k c text w h hp ht hB hT q1 q2 q3 hdg (by omega) (by omega) hc3 hpk
        · rw [hesc, List.length_append, htk]
          rw [show p + (k + (escape ((b :: t).drop k)).length) + 1 = p + k + (escape ((b :: t).drop k)).length + 1 from by omega]
          exact hl1
        · show (text.extract p (p + k)).data.toList ++ joined l = b :: t
          rw [hx, hl2]
          exact hsplit.symm

theorem parse_append : ∀ (l r : List UInt8) (acc v : Nat), Lib.parseUint10 acc l = .ok v → Lib.parseUint10 acc (l ++ r) = Lib.parseUint10 v r
  | [], r, acc, v, h => by
    simp only [Lib.parseUint10] at h
    injection h with h
    subst h
    rfl
  | c :: l, r, acc, v, h => by
    simp only [List.cons_append, Lib.parseUint10] at h ⊢
    split at h
    · rename_i h1
      rw [if_pos h1]
      split at h
      · cases h
      · rename_i h2
        rw [if_neg h2]
        split at h
        · cases h
        · rename_i h3
          rw [if_neg h3]
          exact parse_append l r _ v h
    · cases h

theorem digit_nat (d : Nat) (h : d < 10) : (UInt8.ofNat (48 + d)).toNat = 48 + d := by
  rw [UInt8.toNat_ofNat']
  omega

theorem parse_digits (u : Nat) (hu : u ≤ 9223372036854775808) : Lib.parseUint10 0 (Lib.decDigits u) = .ok u := by
  induction u using Nat.strongRecOn with
  | _ u ih =>
    by_cases h : u < 10
    · rw [Lib.decDigits, dif_pos h]
      simp only [Lib.parseUint10, digit_nat u h]
      rw [if_pos (by omega), if_neg (by omega), if_neg (by omega)]
      congr 1
      omega
    · rw [Lib.decDigits, dif_neg h, parse_append _ _ _ _ (ih (u / 10) (by omega) (by omega))]
      simp only [Lib.parseUint10, digit_nat (u % 10) (Nat.mod_lt _ (by decide))]
      rw [if_pos (by omega), if_neg (by omega), if_neg (by omega)]
      congr 1
      omega

theorem digits_mem (u : Nat) : ∀ b ∈ Lib.decDigits u, 48 ≤ b.toNat ∧ b.toNat ≤ 57 := by
  induction u using Nat.strongRecOn with
  | _ u ih =>
    intro b hb
    by_cases h : u < 10
    · rw [Lib.decDigits, dif_pos h] at hb
      obtain rfl := List.mem_singleton.1 hb
      rw [digit_nat u h]
      omega
    · rw [Lib.decDigits, dif_neg h] at hb
      rcases List.mem_append.1 hb with hb | hb
      · exact ih (u / 10) (by omega) b hb
      · obtain rfl := List.mem_singleton.1 hb
        rw [digit_nat (u % 10) (Nat.mod_lt _ (by decide))]
        omega

theorem atoi_itoa (n : Int) (h0 : -9223372036854775808 ≤ n) (h1 : n ≤ 9223372036854775807) : Lib.atoiAll (Lib.itoa n) = .ok n := by
  unfold Lib.itoa
  by_cases hn : n < 0
  · rw [if_pos hn, Lib.atoiAll_minus]
    unfold Lib.parseMag
    rw [if_neg (digits_ne _), parse_digits _ (by omega)]
    simp only [Lib.signed]
    rw [if_neg (by omega)]
    congr 1
    omega
  · rw [if_neg hn]
    obtain ⟨c, r, hcr⟩ : ∃ c r, Lib.decDigits n.toNat = c :: r := by
      cases h : Lib.decDigits n.toNat with
      | nil => exact absurd h (digits_ne _)
      | cons c r => exact ⟨c, r, rfl⟩
    have hc := digits_mem n.toNat c (by rw [hcr]; exact List.mem_cons_self ..)
    rw [hcr, Lib.atoiAll_plain c r (by omega) (by omega), ← hcr]
    unfold Lib.parseMag
    rw [if_neg (digits_ne _), parse_digits _ (by omega)]
    simp only [Lib.signless]
    rw [if_neg (by omega)]
    congr 1
    omega

/-- What may follow a number: the end, or what is no digit. -/
def NoDigit (post : List UInt8) : Prop := ∀ c r, post = c :: r → ¬ (48 ≤ c.toNat ∧ c.toNat ≤ 57)

theorem byte_at {text : ByteArray} {p : Nat} {l : List UInt8} (h : text.data.toList.drop p = l) (i : Nat) (hi : p ≤ i) (hlt : i < text.size) : l[i - p]? = some text[i] := by
  rw [← h, List.getElem?_drop, show p + (i - p) = i from by omega]
  have : text.data.toList[i]? = some text.data.toList[i] := List.getElem?_eq_getElem (by simpa using hlt)
  rw [this]
  rfl

theorem number_read (text : ByteArray) (ht : text.size ≤ 4000) (p : Nat) (n : Int) (post : List UInt8) (hp : p ≤ text.size) (h0 : -9223372036854775808 ≤ n) (h1 : n ≤ 9223372036854775807) (hd : text.data.toList.drop p = Lib.itoa n ++ post) (hpost : NoDigit post) (B r : Nat) (w : World) (h : Rd r text p w) (hB : B ≤ r) (hP : Pow10 B w) :
    Calls Tryz.prog 197 #[.pointer (some ⟨r, 0, none⟩)] w fun e w' => e = .returned (.agg #[.int .i64 2, .int .i64 n, .string ⟨#[]⟩, .slice none 0 0]) ∧ Moved r text (p + (Lib.itoa n).length) w w' := by
  have hsz := size_of_drop hd hp
  rw [List.length_append] at hsz
  have hext : (text.extract p (p + (Lib.itoa n).length)).data.toList = Lib.itoa n := by
    rw [ext_mid, hd, List.take_append_of_le_length (Nat.le_refl _), List.take_of_length_le (Nat.le_refl _)]
  have hlen0 : 0 < (Lib.itoa n).length := List.length_pos_iff.2 (itoa_ne n)
  have hend : ¬ digitAt text (p + (Lib.itoa n).length) := by
    rintro ⟨hlt, hdg⟩
    have := byte_at hd (p + (Lib.itoa n).length) (by omega) hlt
    rw [show p + (Lib.itoa n).length - p = (Lib.itoa n).length from by omega, List.getElem?_append_right (Nat.le_refl _), Nat.sub_self] at this
    cases post with
    | nil => simp at this
    | cons c r =>
      simp at this
      exact hpost c r rfl (by rw [this]; exact hdg)
  by_cases hn : n < 0
  · have e : Lib.itoa n = 45 :: Lib.decDigits n.natAbs := by unfold Lib.itoa; rw [if_pos hn]
    refine number_any B r p (p + 1) (p + (Lib.itoa n).length) true n text w h ht hB hP hp (by rw [begins_drop hd, e]; rfl) rfl (by omega) (by omega) (fun i hi hi2 => ?_) hend (by rw [hext]; exact atoi_itoa n h0 h1) h0 h1 hext.symm
    have hlt : i < text.size := by omega
    refine ⟨hlt, ?_⟩
    have := byte_at hd i (by omega) hlt
    rw [List.getElem?_append_left (by omega), e] at this
    obtain ⟨j, hj⟩ : ∃ j, i - p = j + 1 := ⟨i - p - 1, by omega⟩
    rw [hj, List.getElem?_cons_succ] at this
    exact digits_mem _ _ (List.mem_of_getElem? this)
  · have e : Lib.itoa n = Lib.decDigits n.toNat := by unfold Lib.itoa; rw [if_neg hn]
    obtain ⟨c, rr, hcr⟩ : ∃ c rr, Lib.decDigits n.toNat = c :: rr := by
      cases h : Lib.decDigits n.toNat with
      | nil => exact absurd h (digits_ne _)
      | cons c r => exact ⟨c, r, rfl⟩
    have hc := digits_mem n.toNat c (by rw [hcr]; exact List.mem_cons_self ..)
    refine number_any B r p p (p + (Lib.itoa n).length) false n text w h ht hB hP hp (by
      rw [begins_drop hd, e, hcr]
      have : ¬ (45 : UInt8) = c := fun e => by subst e; exact absurd hc.1 (by decide)
      simp [List.isPrefixOf, this]) rfl (by omega) (by omega) (fun i hi hi2 => ?_) hend (by rw [hext]; exact atoi_itoa n h0 h1) h0 h1 hext.symm
    have hlt : i < text.size := by omega
    refine ⟨hlt, ?_⟩
    have := byte_at hd i (by omega) hlt
    rw [List.getElem?_append_left (by omega), e] at this
    exact digits_mem _ _ (List.mem_of_getElem? this)

set_option linter.unusedSimpArgs false

theorem itoa_mem (n : Int) : ∀ c ∈ Lib.itoa n, c = 45 ∨ (48 ≤ c.toNat ∧ c.toNat ≤ 57) := by
  intro c hc
  unfold Lib.itoa at hc
  by_cases h : n < 0
  · rw [if_pos h] at hc
    rcases List.mem_cons.1 hc with h1 | h1
    · exact .inl h1
    · exact .inr (digs_mem _ c h1)
  · rw [if_neg h] at hc
    exact .inr (digs_mem _ c hc)

theorem itoa_no (n : Int) {c : UInt8} (h1 : c ≠ 45) (h2 : c.toNat < 48 ∨ 57 < c.toNat) : c ∉ Lib.itoa n := fun h => by
  rcases itoa_mem n c h with e | e
  · exact h1 e
  · omega

/-- A cell is written, beside what is new. -/
def Put1 (b o : Nat) (v : Value) (w w' : World) : Prop := ∃ u, Below w.heap.size w u ∧ Below u.heap.size (u.setCell ⟨b, o, none⟩ v) w'

theorem set_size (u : World) (b o : Nat) (v : Value) : (u.setCell ⟨b, o, none⟩ v).heap.size = u.heap.size := by simp [World.setCell]

theorem Put1.size {b o : Nat} {v : Value} {w w' : World} (h : Put1 b o v w w') : w.heap.size ≤ w'.heap.size := by
  obtain ⟨u, h1, h2⟩ := h
  have := h1.size
  have := h2.size
  rw [set_size] at this
  omega

theorem Put1.other {b o : Nat} {v : Value} {w w' : World} (h : Put1 b o v w w') {k : Nat} (hk : k < w.heap.size) (hb : k ≠ b) : w'.heap[k]? = w.heap[k]? := by
  obtain ⟨u, h1, h2⟩ := h
  rw [h2.block k (Nat.lt_of_lt_of_le hk h1.size), Below.heap_setCell u ⟨b, o, none⟩ v k hb, h1.block k hk]

theorem Put1.here {b o : Nat} {v : Value} {w w' : World} (h : Put1 b o v w w') {cs : Array Value} {t : TypeId} (hb : w.heap[b]? = some (.cells cs t (0, 0))) : w'.heap[b]? = some (.cells (cs.setIfInBounds o v) t (0, 0)) := by
  obtain ⟨u, h1, h2⟩ := h
  have hl := lt_blkX hb
  rw [h2.block b (Nat.lt_of_lt_of_le hl h1.size)]
  exact set_here ((h1.block b hl).trans hb) o v

theorem Put1.below {b o B : Nat} {v : Value} {w w' : World} (h : Put1 b o v w w') (hb : B ≤ b) (hB : B ≤ w.heap.size) : Below B w w' := by
  obtain ⟨u, h1, h2⟩ := h
  exact ((h1.mono hB).setCell (p := ⟨b, o, none⟩) hb v).trans (h2.mono (Nat.le_trans hB h1.size))

set_option maxHeartbeats 1000000 in
set_option maxRecDepth 100000 in
theorem word_hit (q : Nat) (p l : List UInt8) (w : World) (hq : w.cell? ⟨q, 0, none⟩ = some (.string (bt p))) :
    Calls Tryz.prog 94 #[.string (bt (p ++ l)), .pointer (some ⟨q, 0, none⟩)] w fun e w' => e = .returned (.tuple #[.string (bt l), .bool true]) ∧ Below w.heap.size w w' := by
  have hbl : q < w.heap.size := World.block_lt_of_cell? w _ hq
  have HP := toHid (prefix_hit p l w)
  generalize bt (p ++ l) = L at HP ⊢
  generalize bt p = P at hq HP
  go_enter Tryz.func94, Tryz.ntmps94
  go_wp2_with fail
  refine HP.out.mono ?_
  rintro e w1 ⟨rfl, rfl⟩
  go_wp2_with fail
  go_ret2
  exact ⟨rfl, Below.refl _ _⟩

set_option maxHeartbeats 1000000 in
set_option maxRecDepth 100000 in
theorem word_miss (q : Nat) (p l : List UInt8) (w : World) (hq : w.cell? ⟨q, 0, none⟩ = some (.string (bt p))) (h : p.isPrefixOf l = false) :
    Calls Tryz.prog 94 #[.string (bt l), .pointer (some ⟨q, 0, none⟩)] w fun e w' => e = .returned (.tuple #[.string (bt l), .bool false]) ∧ Below w.heap.size w w' := by
  have hbl : q < w.heap.size := World.block_lt_of_cell? w _ hq
  have HP := toHid (prefix_miss p l w h)
  generalize bt l = L at HP ⊢
  generalize bt p = P at hq HP
  go_enter Tryz.func94, Tryz.ntmps94
  go_wp2_with fail
  refine HP.out.mono ?_
  rintro e w1 ⟨rfl, rfl⟩
  go_wp2_with fail
  go_ret2
  exact ⟨rfl, Below.refl _ _⟩

theorem atoi_any (n : Int) (h : I64 n) (W : World) : Calls Tryz.prog 98 #[.string (bt (Lib.itoa n))] W fun e w' => e = .returned (.tuple #[.int .i64 n, .nilIface]) ∧ Below W.heap.size W w' := by
  have hl := itoa_len h
  refine (Tryz.strconv_Atoi_ok (bt (Lib.itoa n)) (by rw [bt_size]; omega) n (by rw [bt_data]; exact atoi_itoa n h.1 h.2) W).mono ?_
  rintro e w' ⟨rfl, h1 | ⟨t, h1⟩⟩
  · rw [h1]
    exact ⟨rfl, Below.refl _ _⟩
  · rw [h1]
    exact ⟨rfl, Lib.bytesWorld_below _ _ _⟩

theorem below_cellsX {w w' : World} {k : Nat} {o : Obj} (h : Below w.heap.size w w') (hk : w.heap[k]? = some o) : w'.heap[k]? = some o := (h.block k (lt_blkX hk)).trans hk

set_option maxHeartbeats 4000000 in
set_option maxRecDepth 100000 in
/-- A number, as Itoa writes it, behind a blank. -/
theorem number_hit (B0 q b o : Nat) (cs cq : Array Value) (t tq : TypeId) (v0 : Value) (n : Int) (r : List UInt8) (w : World) (hn : I64 n) (hr : Tail r) (hl : r.length ≤ 100000) (hq : w.heap[q]? = some (.cells cq tq (0, 0))) (hq0 : cq[0]? = some (.pointer (some ⟨b, o, none⟩))) (hb : w.heap[b]? = some (.cells cs t (0, 0))) (ho : cs[o]? = some v0) (hqb : q ≠ b) (hBb : B0 ≤ b) (hB0 : B0 ≤ w.heap.size) (hP : Pow10 B0 w) :
    Calls Tryz.prog 96 #[.string (bt ([32] ++ (Lib.itoa n ++ r))), .pointer (some ⟨q, 0, none⟩)] w fun e w' => e = .returned (.tuple #[.string (bt r), .bool true]) ∧ Put1 b o (.int .i64 n) w w' := by
  have hi := itoa_len hn
  have HC := toHid (cut_hit [32] (Lib.itoa n) r w (itoa_no n (by decide) (.inl (by decide))) hr (by rw [List.length_append]; omega))
  have HAT := toHid (atoi_any n hn)
  have HIT : Hid (∀ W, Below B0 w W → Calls Tryz.prog 23 #[.int .i64 n] W fun e w' => e = .returned (.string (bt (Lib.itoa n))) ∧ Below W.heap.size W w') := fun W k => itoa_any B0 n W (Nat.le_trans hB0 k.size) hn.1 hn.2 (hP.below k)
  have HQ := toHid hq
  have HBB := toHid hb
  generalize bt ([32] ++ (Lib.itoa n ++ r)) = L at HC ⊢
  generalize bt (Lib.itoa n) = D at HC HAT HIT
  generalize bt r = R at HC ⊢
  clear hq hb hP hr hl hi
  have hcell : ∀ W : World, W.heap[q]? = some (.cells cq tq (0, 0)) → W.cell? ⟨q, 0, none⟩ = some (.pointer (some ⟨b, o, none⟩)) := fun W h => by rw [cell_of h 0]; exact hq0
  have HCE := toHid hcell
  have HCB : Hid (∀ W : World, W.heap[b]? = some (.cells cs t (0, 0)) → W.cell? ⟨b, o, none⟩ = some v0 ∧ W.frozen? ⟨b, o, none⟩ = false) := fun W h => ⟨by rw [cell_of h o]; exact ho, free_of h o⟩
  have HCN : Hid (∀ W : World, W.heap[b]? = some (.cells (cs.setIfInBounds o (.int .i64 n)) t (0, 0)) → W.cell? ⟨b, o, none⟩ = some (.int .i64 n)) := fun W h => by
    rw [cell_of h o]
    have hs : o < cs.size := (Array.getElem?_eq_some_iff.1 ho).1
    simp [hs]
  clear hcell hq0
  go_enter Tryz.func96, Tryz.ntmps96
  go_wp2_with fail
  refine HC.out.mono ?_
  rintro e w1 ⟨rfl, k1⟩
  have HK1 := toHid k1
  have HQ1 := toHid (below_cellsX k1 HQ.out)
  have HB1 := toHid (below_cellsX k1 HBB.out)
  have x0 := HCE.out w1 HQ1.out
  have hql := lt_blkX HQ1.out
  have hbl := lt_blkX HB1.out
  have D0 : Below w1.heap.size w1 w1.drew := (Below.refl _ _).drew
  clear k1 HC
  go_upto_region 3 with fail
  go_cut [5, 6, 7, 8] (fun s5 s6 s7 s8 wx => s5 = .string D ∧ s6 = .string R ∧ s7 = .bool true ∧ s8 = .nilIface ∧ ∃ u, Below w1.heap.size w1 u ∧ wx = u.setCell ⟨b, o, none⟩ (.int .i64 n))
  case first =>
    go_region_law (first
      | (go_simp
         go_at_call 98
         refine (HAT.out _).mono ?_
         rintro e u2 ⟨rfl, h2⟩
         have k2 : Below w1.heap.size w1 u2 := D0.trans h2
         have y0 := HCE.out u2 (below_cellsX k2 HQ1.out)
         obtain ⟨z0, z1⟩ := HCB.out u2 (below_cellsX k2 HB1.out)
         have hql2 := lt_blkX (below_cellsX k2 HQ1.out)
         have hbl2 := lt_blkX (below_cellsX k2 HB1.out)))
    all_goals
      go_wp2_with fail
      go_meet
      exact ⟨rfl, rfl, rfl, rfl, u2, k2, rfl⟩
  case rest =>
    obtain ⟨rfl, rfl, rfl, rfl, u, ku, rfl⟩ := hcut
    have hqu := below_cellsX ku HQ1.out
    have hbu := below_cellsX ku HB1.out
    have HKU := toHid ku
    have hq3 : (u.setCell ⟨b, o, none⟩ (.int .i64 n)).heap[q]? = some (.cells cq tq (0, 0)) := (Below.heap_setCell u ⟨b, o, none⟩ (.int .i64 n) q hqb).trans hqu
    have hb3 := set_here hbu o (.int .i64 n)
    have x3 := HCE.out _ hq3
    have y3 := HCN.out _ hb3
    have hql3 := lt_blkX hq3
    have hbl3 := lt_blkX hb3
    have HI3 := toHid (HIT.out _ (((HK1.out.trans (HKU.out.mono HK1.out.size)).mono hB0).setCell (p := ⟨b, o, none⟩) hBb (.int .i64 n)))
    clear x0 hql hbl D0 hqu hbu ku hq3 hb3
    have HKW : Hid (Below w.heap.size w u) := HK1.out.trans (HKU.out.mono HK1.out.size)
    have hus : (u.setCell ⟨b, o, none⟩ (.int .i64 n)).heap.size = u.heap.size := set_size _ _ _ _
    have HUS := toHid hus
    clear hus
    have HFIN : Hid (∀ w', Below (u.setCell ⟨b, o, none⟩ (.int .i64 n)).heap.size (u.setCell ⟨b, o, none⟩ (.int .i64 n)) w' → Put1 b o (.int .i64 n) w w') := fun w' k => ⟨u, HKW.out, by rw [HUS.out] at k; exact k⟩
    generalize u.setCell ⟨b, o, none⟩ (.int .i64 n) = W3 at x3 y3 hql3 hbl3 HI3 HFIN ⊢
    go_wp2_with fail
    refine HI3.out.mono ?_
    rintro e w4 ⟨rfl, k4⟩
    have HK4 := toHid k4
    clear k4 x3 y3
    go_wp2_with fail
    go_ret2
    exact ⟨rfl, HFIN.out _ HK4.out⟩

set_option maxHeartbeats 4000000 in
set_option maxRecDepth 100000 in
/-- A type, behind a blank and a colon. -/
theorem kind_hit (q b o : Nat) (cs cq : Array Value) (t tq : TypeId) (v0 : Value) (a r : List UInt8) (w : World) (ha : (32 : UInt8) ∉ a) (hr : Tail r) (hl : (a ++ r).length ≤ 1000000) (hq : w.heap[q]? = some (.cells cq tq (0, 0))) (hq0 : cq[0]? = some (.pointer (some ⟨b, o, none⟩))) (hb : w.heap[b]? = some (.cells cs t (0, 0))) (ho : cs[o]? = some v0) :
    Calls Tryz.prog 102 #[.string (bt ([32, 58] ++ (a ++ r))), .pointer (some ⟨q, 0, none⟩)] w fun e w' => e = .returned (.tuple #[.string (bt r), .bool true]) ∧ Put1 b o (.string (bt a)) w w' := by
  have HC : Hid (∀ W, Calls Tryz.prog 97 #[.string (bt ([32, 58] ++ (a ++ r))), .string (bt [32, 58])] W fun e w' => e = .returned (.tuple #[.string (bt a), .string (bt r), .bool true]) ∧ Below W.heap.size W w') := fun W => cut_hit [32, 58] a r W ha hr hl
  have HQ := toHid hq
  have HBB := toHid hb
  generalize bt ([32, 58] ++ (a ++ r)) = L at HC ⊢
  generalize bt a = D at HC ⊢
  generalize bt r = R at HC ⊢
  have HCE : Hid (∀ W : World, W.heap[q]? = some (.cells cq tq (0, 0)) → W.cell? ⟨q, 0, none⟩ = some (.pointer (some ⟨b, o, none⟩))) := fun W h => by rw [cell_of h 0]; exact hq0
  have HCB : Hid (∀ W : World, W.heap[b]? = some (.cells cs t (0, 0)) → W.cell? ⟨b, o, none⟩ = some v0 ∧ W.frozen? ⟨b, o, none⟩ = false) := fun W h => ⟨by rw [cell_of h o]; exact ho, free_of h o⟩
  have x0 := HCE.out w hq
  have hql := lt_blkX hq
  have hbl := lt_blkX hb
  have D0 : Below w.heap.size w w.drew := (Below.refl _ _).drew
  clear hq hb hr hl ha hq0 ho
  go_enter Tryz.func102, Tryz.ntmps102
  go_upto_region 1 with fail
  go_region_law (first
    | (go_simp
       go_at_call 97
       refine (HC.out _).mono ?_
       rintro e u2 ⟨rfl, h2⟩
       have k2 : Below w.heap.size w u2 := D0.trans h2
       have y0 := HCE.out u2 (below_cellsX k2 HQ.out)
       obtain ⟨z0, z1⟩ := HCB.out u2 (below_cellsX k2 HBB.out)
       have hql2 := lt_blkX (below_cellsX k2 HQ.out)
       have hbl2 := lt_blkX (below_cellsX k2 HBB.out)))
  all_goals
    go_wp2_with fail
    go_ret2
    exact ⟨rfl, u2, k2, Below.refl _ _⟩

set_option linter.unusedSimpArgs false

theorem row_keptC {B n : Nat} {e : TypeId} {size : Nat} {v : Value} {xs : List Value} {w w' : World} (h : w.ownsRow B e size v n xs) (hk : ∀ k, B ≤ k → k < w.heap.size → w'.heap[k]? = w.heap[k]?) : w'.ownsRow B e size v n xs := by
  refine ⟨h.1, ?_⟩
  rcases h.2 with h0 | ⟨g, cap, cur, e1, e2, e3, e4⟩
  · exact .inl h0
  · exact .inr ⟨g, cap, cur, e1, e2, by rw [hk g e2 (Array.getElem?_eq_some_iff.1 e3).1]; exact e3, e4⟩

theorem row_blockC {B n : Nat} {e : TypeId} {size : Nat} {v : Value} {xs : List Value} {w : World} (h : w.ownsRow B e size v n xs) (k : Nat) (hk : v.ownBlock = some k) : B ≤ k := by
  rcases h.2 with ⟨rfl, _⟩ | ⟨g, cap, cur, rfl, e2, _⟩
  · simp [Value.ownBlock] at hk
  · simp [Value.ownBlock] at hk
    omega

theorem ownsRow_allocC {B n : Nat} {e : TypeId} {size : Nat} {v : Value} {xs : List Value} {w : World} (h : w.ownsRow B e size v n xs) (o : Obj) : (w.alloc o).ownsRow B e size v n xs := row_keptC h (fun k _ hk => Below.heap_alloc _ _ _ hk)

theorem one_newC (w : World) (x : Value) (t : TypeId) : ∀ j u, [x][j]? = some u → (w.alloc (.cells #[x] t)).cell? ((⟨w.heap.size, 0, none⟩ : Addr).add j) = some u :=
  World.news_of_block (cs := #[x]) (alloc_new w _)

theorem info_strC0 : (Tryz.prog.info? 9).map (fun i => (i.zero, i.size, i.bytes)) = some (some (.string ⟨#[]⟩), 1, 16) := by kernel_rfl
theorem info_strC : ∃ i, Tryz.prog.info? 9 = some i ∧ i.zero = some (.string ⟨#[]⟩) ∧ i.size = 1 ∧ i.bytes = 16 := by
  obtain ⟨i, h, e⟩ := Option.map_eq_some_iff.1 info_strC0
  simp only [Prod.mk.injEq] at e
  exact ⟨i, h, e⟩

/-- A row of texts, as cells. -/
def strB (ls : List ByteArray) : List Value := ls.map fun l => .string l

/-- A row that was just built is one's own. -/
theorem own_built (w : World) (x y : Value) (t : TypeId) : (w.alloc (.cells #[x, y] t)).ownsRow w.heap.size t 1 (.slice (some ⟨w.heap.size, 0, none⟩) 2 2) 2 [x, y] :=
  ⟨rfl, .inr ⟨w.heap.size, 2, #[x, y], rfl, Nat.le_refl _, alloc_new w _, Nat.le_refl _, by unfold maxLen; omega, rfl, rfl⟩⟩

/-- A row of one's own that isn't empty: where its texts lie. -/
theorem own_cells {w : World} {B : Nat} {t : TypeId} {v : Value} {n : Nat} {L : List ByteArray} (h : w.ownsRow B t 1 v n (strB L)) (h0 : n ≠ 0) : ∃ g c, v = .slice (some ⟨g, 0, none⟩) n c ∧ g < w.heap.size ∧ n ≤ c ∧ ∀ (j : Nat) x, L[j]? = some x → w.cell? ⟨g, j, none⟩ = some (.string x) := by
  rcases h.2 with ⟨_, hz⟩ | ⟨g, cap, cur, e1, e2, e3, e4, e5⟩
  · exact absurd hz h0
  · refine ⟨g, cap, e1, (Array.getElem?_eq_some_iff.1 e3).1, e4, fun j x hx => ?_⟩
    have h1 := h.cells (g := g) (by rw [e1]; rfl) j (.string x) (by simp [strB, hx])
    have e : ((⟨g, 0, none⟩ : Addr).add j) = ⟨g, j, none⟩ := by by_cases hj : j = 0 <;> simp [Addr.add, hj]
    rw [e] at h1
    exact h1
end Go.Proofs.YthbbapimedlocaaGreatDoor
