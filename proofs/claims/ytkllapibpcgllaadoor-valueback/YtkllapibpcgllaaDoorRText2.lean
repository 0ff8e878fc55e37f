/-
  What is proved here: a text that is right UTF-8, written as Print writes it, is read as that text, letter by letter.
-/
import Derived.Test.YtkllapibpcgllaaDoorRText
namespace Go.Proofs.YtkllapibpcgllaaDoor
open Go.RowKit
set_option linter.unusedVariables false

theorem dec_eq (text : ByteArray) (p : Nat) (l : List UInt8) (h : text.data.toList.drop p = l) (hne : l ≠ []) : Lib.decodeGo (text.extract p text.size) = Lib.decodeL l := by
  have e : (text.extract p text.size).data.toList = l := by rw [ext_drop, h]
  unfold Lib.decodeGo Lib.decodeL
  have hs : ¬ (text.extract p text.size).size = 0 := by
    intro h0
    apply hne
    rw [← e]
    apply List.length_eq_zero_iff.1
    simpa using h0
  rw [if_neg hs]
  congr 1
  apply ByteArray.ext
  rw [← e]

/-- What stands first of a rune of more bytes decides it. -/
theorem decL_same {l l' : List UInt8} {c k : Nat} (h : Lib.decodeL l = (c, k)) (hl : l ≠ []) (hne : ¬ (c = 65533 ∧ k = 1)) (hb : 128 ≤ (l.getD 0 0).toNat) (ht : l'.take k = l.take k) (hk : k ≤ l'.length) : Lib.decodeL l' = (c, k) ∧ 128 ≤ c ∧ 2 ≤ k ∧ k ≤ l.length ∧ ∀ b ∈ l.take k, 128 ≤ b.toNat := by
  have hkl : k ≤ l.length := by have := Lib.decodeL_le l hl; rw [h] at this; exact this
  rw [Lib.decodeL_N] at h
  have hk1 : 1 ≤ k := by have := Lib.decodeL_width l; rw [Lib.decodeL_N, h] at this; exact this
  have g : ∀ j, j < k → l'.getD j 0 = l.getD j 0 := fun j hj => by
    have e1 : (l'.take k)[j]? = (l.take k)[j]? := by rw [ht]
    rw [List.getElem?_take, List.getElem?_take, if_pos hj, if_pos hj] at e1
    simp only [List.getD_eq_getElem?_getD, e1]
  have g0 : (l'.getD 0 0).toNat = (l.getD 0 0).toNat := by rw [g 0 (by omega)]
  obtain ⟨h1, h2⟩ := decN_same h hne (n' := l'.length) (b1' := (l'.getD 1 0).toNat) (b2' := (l'.getD 2 0).toNat) (b3' := (l'.getD 3 0).toNat) hk (fun hj => by rw [g 1 hj]) (fun hj => by rw [g 2 hj]) (fun hj => by rw [g 3 hj])
  obtain ⟨q1, q2, q3, q4, q5, q6⟩ := h2 hb
  refine ⟨by rw [Lib.decodeL_N, g0]; exact h1, q1, q2, hkl, fun b hbm => ?_⟩
  obtain ⟨j, hj, e⟩ := List.getElem_of_mem hbm
  have hjk : j < k := by simp at hj; omega
  have e2 : l.getD j 0 = b := by
    rw [List.getElem_take] at e
    have hjl : j < l.length := by omega
    rw [List.getD_eq_getElem?_getD, List.getElem?_eq_getElem hjl, ← e]
    rfl
  have h4 : j = 0 ∨ j = 1 ∨ j = 2 ∨ j = 3 := by omega
  rcases h4 with rfl | rfl | rfl | rfl
  · rw [← e2]; exact hb
  · rw [← e2]; exact q4 (by omega)
  · rw [← e2]; exact q5 (by omega)
  · rw [← e2]; exact q6 (by omega)

theorem escape_append (a b : List UInt8) : escape (a ++ b) = escape a ++ escape b := by simp [escape]

theorem escape_high : ∀ (l : List UInt8), (∀ b ∈ l, 128 ≤ b.toNat) → escape l = l
  | [], _ => rfl
  | b :: l, h => by
    have hb := h b (List.mem_cons_self ..)
    have e : escB b = [b] := by
      unfold escB
      have h1 : b ≠ 39 := fun e => by subst e; exact absurd hb (by decide)
      have h2 : b ≠ 92 := fun e => by subst e; exact absurd hb (by decide)
      have h3 : b ≠ 10 := fun e => by subst e; exact absurd hb (by decide)
      simp [h1, h2, h3]
    have ih := escape_high l (fun x hx => h x (List.mem_cons_of_mem _ hx))
    show escB b ++ escape l = b :: l
    rw [e, ih]
    rfl

theorem escape_cons (b : UInt8) (l : List UInt8) : escape (b :: l) = escB b ++ escape l := by simp [escape]

theorem size_of_drop {text : ByteArray} {p : Nat} {l : List UInt8} (h : text.data.toList.drop p = l) (hp : p ≤ text.size) : p + l.length = text.size := by
  have : (text.data.toList.drop p).length = l.length := by rw [h]
  rw [List.length_drop] at this
  have e : text.data.toList.length = text.size := by simp
  omega

theorem drop_more {text : ByteArray} {p : Nat} {a l : List UInt8} (h : text.data.toList.drop p = a ++ l) : text.data.toList.drop (p + a.length) = l := by
  rw [← List.drop_drop, h, List.drop_left]

/-- The letters of a text that is right UTF-8. -/
theorem letters_of (text : ByteArray) (ht : text.size ≤ 4000) : ∀ (N : Nat) (s : List UInt8) (p : Nat) (post : List UInt8), s.length ≤ N → p ≤ text.size → Lib.validD s = true → text.data.toList.drop p = escape s ++ 39 :: post → ∃ l, Letters text p l (p + (escape s).length + 1) ∧ joined l = s := by
  intro N
  induction N with
  | zero =>
    intro s p post hN hp hv hd
    have e : s = [] := List.length_eq_zero_iff.1 (by omega)
    subst e
    have hd' : text.data.toList.drop p = 39 :: post := hd
    exact ⟨[], ⟨hp, by rw [begins_drop hd']; rfl, rfl⟩, rfl⟩
  | succ N ih =>
    intro s p post hN hp hv hd
    cases s with
    | nil =>
      have hd' : text.data.toList.drop p = 39 :: post := hd
      exact ⟨[], ⟨hp, by rw [begins_drop hd']; rfl, rfl⟩, rfl⟩
    | cons b t =>
      by_cases hb : b.toNat < 128
      · rw [Lib.validD_cons b t hb] at hv
        rw [escape_cons, List.append_assoc] at hd
        have hsz := size_of_drop hd hp
        -- one byte, written as escB b; it is read as b
        have step : ∀ (x : ByteArray), x.data.toList = [b] → begins text p ⟨#[39]⟩ = false → LetterOk text p x (p + (escB b).length) → ∃ l, Letters text p l (p + (escape (b :: t)).length + 1) ∧ joined l = b :: t := by
          intro x hx h39 hl
          obtain ⟨l, hl1, hl2⟩ := ih t (p + (escB b).length) post (by simp at hN; omega) (by simp at hsz; omega) hv (drop_more hd)
          refine ⟨(x, p + (escB b).length) :: l, ⟨hp, h39, ?_, hl, ?_⟩, ?_⟩
          · show x.size ≤ 4000
            have : x.size = 1 := by have := congrArg List.length hx; simpa using this
            omega
          · rw [escape_cons, List.length_append]
            rw [show p + ((escB b).length + (escape t).length) + 1 = p + (escB b).length + (escape t).length + 1 from by omega]
            exact hl1
          · show x.data.toList ++ joined l = b :: t
            rw [hx, hl2]
            rfl
        by_cases b1 : b = 39
        · subst b1
          have hd' : text.data.toList.drop p = 92 :: 39 :: (escape t ++ 39 :: post) := hd
          exact step ⟨#[39]⟩ rfl (by rw [begins_drop hd']; rfl) (fun B r w h _ _ => letter_quote r p text w h hp ht (by rw [begins_drop hd']; rfl))
        · by_cases b2 : b = 92
          · subst b2
            have hd' : text.data.toList.drop p = 92 :: 92 :: (escape t ++ 39 :: post) := hd
            exact step ⟨#[92]⟩ rfl (by rw [begins_drop hd']; rfl) (fun B r w h _ _ => letter_back r p text w h hp ht (by rw [begins_drop hd']; rfl) (by rw [begins_drop hd']; rfl))
          · by_cases b3 : b = 10
            · subst b3
              have hd' : text.data.toList.drop p = 92 :: 110 :: (escape t ++ 39 :: post) := hd
              exact step ⟨#[10]⟩ rfl (by rw [begins_drop hd']; rfl) (fun B r w h _ _ => letter_feed r p text w h hp ht (by rw [begins_drop hd']; rfl) (by rw [begins_drop hd']; rfl) (by rw [begins_drop hd']; rfl))
            · have eb : escB b = [b] := by unfold escB; simp [b1, b2, b3]
              rw [eb] at hd step hsz
              have hd' : text.data.toList.drop p = b :: (escape t ++ 39 :: post) := hd
              have hpre : ∀ c d : UInt8, b ≠ c → ([c, d] : List UInt8).isPrefixOf (b :: (escape t ++ 39 :: post)) = false := fun c d hc => by
                simp [List.isPrefixOf, Ne.symm hc]
              have h39 : begins text p ⟨#[39]⟩ = false := by
                rw [begins_drop hd']
                simp [List.isPrefixOf, Ne.symm b1]
              have hx : (text.extract p (p + 1)).data.toList = [b] := by rw [ext_mid, hd']; rfl
              refine step (text.extract p (p + 1)) hx h39 (fun B r w h hB hT => ?_)
              have hne : (b.toNat : Nat) ≠ 92 := fun e => b2 (UInt8.toNat_inj.1 e)
              have hne2 : (b.toNat : Nat) ≠ 10 := fun e => b3 (UInt8.toNat_inj.1 e)
              exact letter_plain B r p 1 b.toNat text w h hp ht hB hT (by rw [begins_drop hd']; exact hpre 92 39 b2) (by rw [begins_drop hd']; exact hpre 92 92 b2) (by rw [begins_drop hd']; exact hpre 92 110 b2) (by rw [dec_eq text p _ hd' (by simp), Lib.decodeL_ascii b _ hb]) hne hne2 (by omega) (by simp at hsz; omega)
      · have hstep := Lib.validD_step (b :: t) (by simp)
        rw [hv] at hstep
        obtain ⟨c, k, hck⟩ : ∃ c k, Lib.decodeL (b :: t) = (c, k) := ⟨_, _, rfl⟩
        rw [hck] at hstep
        have hne : ¬ (c = 65533 ∧ k = 1) := by
          intro h
          rw [if_pos h] at hstep
          cases hstep
        rw [if_neg hne] at hstep
        have hv2 : Lib.validD ((b :: t).drop k) = true := hstep.symm
        have base := decL_same (l' := b :: t) hck (by simp) hne (by show 128 ≤ b.toNat; omega) rfl (by have := Lib.decodeL_le (b :: t) (by simp); rw [hck] at this; exact this)
        obtain ⟨_, hc, hk2, hkl, hhigh⟩ := base
        have hsplit : (b :: t) = (b :: t).take k ++ (b :: t).drop k := (List.take_append_drop k _).symm
        have hesc : escape (b :: t) = (b :: t).take k ++ escape ((b :: t).drop k) := by
          conv => lhs; rw [hsplit]
          rw [escape_append, escape_high _ hhigh]
        have htk : ((b :: t).take k).length = k := by rw [List.length_take]; omega
        rw [hesc, List.append_assoc] at hd
        have hsz := size_of_drop hd hp
        have hd2 := drop_more hd
        rw [htk] at hd2
        obtain ⟨l, hl1, hl2⟩ := ih ((b :: t).drop k) (p + k) post (by simp at hN ⊢; omega) (by simp only [List.length_append, htk] at hsz; omega) hv2 hd2
        have hx : (text.extract p (p + k)).data.toList = (b :: t).take k := by
          rw [ext_mid, hd]
          rw [List.take_append_of_le_length (by omega), List.take_of_length_le (by omega)]
        have hne0 : (b :: t).take k ++ (escape ((b :: t).drop k) ++ 39 :: post) ≠ [] := by simp
        obtain ⟨hdec, _⟩ := decL_same (l' := (b :: t).take k ++ (escape ((b :: t).drop k) ++ 39 :: post)) hck (by simp) hne (by show 128 ≤ b.toNat; omega) (by rw [List.take_append_of_le_length (by omega), List.take_of_length_le (by omega)]) (by simp only [List.length_append, htk]; omega)
        obtain ⟨k', hk'⟩ : ∃ k', k = k' + 1 := ⟨k - 1, by omega⟩
        have hhead : (b :: t).take k ++ (escape ((b :: t).drop k) ++ 39 :: post) = b :: (t.take k' ++ (escape ((b :: t).drop k) ++ 39 :: post)) := by rw [hk']; rfl
        have hdh := hd
        rw [hhead] at hdh
        have hpre : ∀ c d : UInt8, c.toNat < 128 → ([c, d] : List UInt8).isPrefixOf (b :: (t.take k' ++ (escape ((b :: t).drop k) ++ 39 :: post))) = false := fun c d hc => by
          have : ¬ c = b := fun e => by subst e; omega
          simp [List.isPrefixOf, this]
        have h39 : begins text p ⟨#[39]⟩ = false := by
          rw [begins_drop hdh]
          have : ¬ (39 : UInt8) = b := fun e => by subst e; exact hb (by decide)
          simp [List.isPrefixOf, this]
        have hpk : p + k ≤ text.size := by simp only [List.length_append, htk] at hsz; omega
        refine ⟨(text.extract p (p + k), p + k) :: l, ⟨hp, h39, ?_, ?_, ?_⟩, ?_⟩
        · show (text.extract p (p + k)).size ≤ 4000
          rw [ByteArray.size_extract]
          omega
        · intro B r w h hB hT
          have q1 : begins text p ⟨#[92, 39]⟩ = false := by rw [begins_drop hdh]; exact hpre 92 39 (by decide)
          have q2 : begins text p ⟨#[92, 92]⟩ = false := by rw [begins_drop hdh]; exact hpre 92 92 (by decide)
          have q3 : begins text p ⟨#[92, 110]⟩ = false := by rw [begins_drop hdh]; exact hpre 92 110 (by decide)
          have hdg : Lib.decodeGo (text.extract p text.size) = (c, k) := by rw [dec_eq text p _ hd hne0, hdec]
          by_cases hc3 : c = 65533
          · exact letter_sign B r p k c text w h hp ht hB hT q1 q2 q3 hdg (by omega) (by omega) hc3 hk2 hpk
          · exact letter_plain B r p k c text w h hp ht hB hT q1 q2 q3 hdg (by omega) (by omega) hc3 hpk
        · rw [hesc, List.length_append, htk]
          rw [show p + (k + (escape ((b :: t).drop k)).length) + 1 = p + k + (escape ((b :: t).drop k)).length + 1 from by omega]
          exact hl1
        · show (text.extract p (p + k)).data.toList ++ joined l = b :: t
          rw [hx, hl2]
          exact hsplit.symm
end Go.Proofs.YtkllapibpcgllaaDoor
