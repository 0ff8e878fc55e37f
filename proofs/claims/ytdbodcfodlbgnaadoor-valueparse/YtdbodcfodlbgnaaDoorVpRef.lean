/-
  What is proved here: espalierref.readValue at any place of any text: what the plain reading tells.
-/
import Derived.Test.YtdbodcfodlbgnaaDoorVpRv2
import Derived.Test.YtdbodcfodlbgnaaDoorVpRvAN
import Derived.Test.YtdbodcfodlbgnaaDoorVpRvAP
import Derived.Test.YtdbodcfodlbgnaaDoorVpRvBN
import Derived.Test.YtdbodcfodlbgnaaDoorVpRvBP
import Derived.Test.YtdbodcfodlbgnaaDoorVpRvCN
import Derived.Test.YtdbodcfodlbgnaaDoorVpRvCP
import Derived.Test.YtdbodcfodlbgnaaDoorVpRv5
import Derived.Test.YtdbodcfodlbgnaaDoorBgSame
namespace Go.Proofs.YtdbodcfodlbgnaaDoor
open Go.RowKit
set_option linter.unusedVariables false

theorem begins_head {text : ByteArray} {p : Nat} {c : UInt8} {cs : List UInt8} (h : begins text p ⟨(c :: cs).toArray⟩ = true) : ∃ r, text.data.toList.drop p = c :: r := by
  unfold begins Lib.hasPrefix at h
  rw [ext_drop] at h
  cases hl : text.data.toList.drop p with
  | nil => rw [hl] at h; cases h
  | cons d r =>
    rw [hl] at h
    have h1 : ((c == d) && List.isPrefixOf cs r) = true := h
    rw [Bool.and_eq_true] at h1
    have : c = d := beq_iff_eq.1 h1.1
    exact ⟨r, by rw [this]⟩

theorem begins_two_heads {text : ByteArray} {p : Nat} {c d : UInt8} {cs ds : List UInt8} (hne : c ≠ d) (h : begins text p ⟨(c :: cs).toArray⟩ = true) : begins text p ⟨(d :: ds).toArray⟩ = false := by
  cases hb : begins text p ⟨(d :: ds).toArray⟩ with
  | false => rfl
  | true =>
    obtain ⟨r, h1⟩ := begins_head h
    obtain ⟨r2, h2⟩ := begins_head hb
    rw [h1] at h2
    injection h2 with h2
    exact absurd h2 hne

theorem word_fits {text : ByteArray} {p d : Nat} : ∀ i, i < 3 → begins text p (wkey i) = true → valF d text p = .ok (.node (wkind i) (wnum i) ⟨#[]⟩ [], p + (wkey i).size) := by
  intro i hi h
  match i, hi, h with
  | 0, _, h =>
    have b1 : begins text p ⟨#[110, 117, 108, 108]⟩ = true := h
    unfold valF
    rw [if_pos b1]
    rfl
  | 1, _, h =>
    have b2 : begins text p ⟨#[116, 114, 117, 101]⟩ = true := h
    have b1 : begins text p ⟨#[110, 117, 108, 108]⟩ = false := begins_two_heads (c := 116) (cs := [114, 117, 101]) (d := 110) (ds := [117, 108, 108]) (by decide) b2
    unfold valF
    rw [if_neg (by simp [b1]), if_pos b2]
    rfl
  | 2, _, h =>
    have b3 : begins text p ⟨#[102, 97, 108, 115, 101]⟩ = true := h
    have b1 : begins text p ⟨#[110, 117, 108, 108]⟩ = false := begins_two_heads (c := 102) (cs := [97, 108, 115, 101]) (d := 110) (ds := [117, 108, 108]) (by decide) b3
    have b2 : begins text p ⟨#[116, 114, 117, 101]⟩ = false := begins_two_heads (c := 102) (cs := [97, 108, 115, 101]) (d := 116) (ds := [114, 117, 101]) (by decide) b3
    unfold valF
    rw [if_neg (by simp [b1]), if_neg (by simp [b2]), if_pos b3]
    rfl

theorem sgn_zW (b : Bool) (ds : List UInt8) : BG.sgn b (decV ds 0) = zW b ds := rfl

/-- SetString of the word of a number. -/
theorem set_word (b : Bool) (ds : List UInt8) (word : ByteArray) (hw : word.data.toList = wordL b ds) (hds : ∀ c ∈ ds, 48 ≤ c.toNat ∧ c.toNat ≤ 57) (hne : ds ≠ []) (hsz : word.size ≤ 4000) (W : World) :
    Calls Tryd.prog 25 #[.pointer (some ⟨W.heap.size, 0, none⟩), .string word, .int .i64 10] (W.alloc (.cells #[.bool false, .slice none 0 0] 58)) fun e w' => e = .returned (.tuple #[.pointer (some ⟨W.heap.size, 0, none⟩), .bool true]) ∧ BG.IntAt w' W.heap.size (zW b ds) ∧ (∀ j, j < W.heap.size → w'.heap[j]? = W.heap[j]?) ∧ Below W.heap.size W w' := by
  have hz := alloc_new W (.cells #[.bool false, .slice none 0 0] 58)
  have hlen : word.size = (wordL b ds).length := by rw [← hw]; exact Array.length_toList.symm
  have hdl := List.length_pos_iff.2 hne
  have h0 : 0 < word.size := by
    rw [hlen]
    unfold wordL
    split
    · simp
    · exact hdl
  have hfst : (wordL b ds)[0]? = some word[0] := by
    rw [← hw, List.getElem?_eq_getElem (by rw [Array.length_toList]; exact h0)]
    rfl
  have fin : ∀ (sg : Bool), (∀ e w', (e = Ending.returned (.tuple #[.pointer (some ⟨W.heap.size, 0, none⟩), .bool true]) ∧ BG.IntAt w' W.heap.size (BG.sgn sg (decV ds 0)) ∧ (∀ j, j < (W.alloc (.cells #[.bool false, .slice none 0 0] 58)).heap.size → j ≠ W.heap.size → w'.heap[j]? = (W.alloc (.cells #[.bool false, .slice none 0 0] 58)).heap[j]?) ∧ Below W.heap.size (W.alloc (.cells #[.bool false, .slice none 0 0] 58)) w') → (e = .returned (.tuple #[.pointer (some ⟨W.heap.size, 0, none⟩), .bool true]) ∧ BG.IntAt w' W.heap.size (zW sg ds) ∧ (∀ j, j < W.heap.size → w'.heap[j]? = W.heap[j]?) ∧ Below W.heap.size W w')) := by
    rintro sg e w' ⟨h1, h2, h3, h4⟩
    exact ⟨h1, h2, fun j hj => (h3 j (by simp; omega) (by omega)).trans (Below.heap_alloc _ _ _ hj), ((Below.refl _ _).alloc (Nat.le_refl _) _).trans h4⟩
  cases b with
  | true =>
    have hc : word[0] = 45 := by
      have : (wordL true ds)[0]? = some 45 := rfl
      rw [this] at hfst
      injection hfst with hfst
      exact hfst.symm
    have hT : (word.extract 1 word.size).data.toList = ds := by
      rw [ext_drop, hw]
      rfl
    have hTs : (word.extract 1 word.size).size = ds.length := by rw [← hT]; exact Array.length_toList.symm
    exact (BG.set_neg W.heap.size false (.slice none 0 0) word _ ds _ hz (fun x => by simp) hsz h0 (by rw [hc]; rfl) rfl (by omega) hT hds).mono (fin true)
  | false =>
    have hc : 48 ≤ word[0].toNat := by
      have h1 : ds[0]? = some word[0] := hfst
      exact (hds _ (List.mem_of_getElem? h1)).1
    exact (BG.set_pos W.heap.size false (.slice none 0 0) word word ds _ hz (fun x => by simp) hsz h0 (by omega) (by omega) rfl h0 hw hds).mono (fin false)

theorem set_empty (b : Bool) (word : ByteArray) (hw : word.data.toList = wordL b []) (W : World) :
    Calls Tryd.prog 25 #[.pointer (some ⟨W.heap.size, 0, none⟩), .string word, .int .i64 10] (W.alloc (.cells #[.bool false, .slice none 0 0] 58)) fun e w' => e = .returned (.tuple #[.pointer none, .bool false]) ∧ w' = W.alloc (.cells #[.bool false, .slice none 0 0] 58) := by
  have hwb : word = ⟨(wordL b []).toArray⟩ := str_of hw
  cases b with
  | true =>
    subst hwb
    exact BG.set_minus _ _ _ rfl rfl
  | false =>
    subst hwb
    exact BG.set_none _ _

/-- readValue where a number should stand. -/
theorem rv_num (B p : Nat) (deep : Int) (text : ByteArray) (w : World) (hp : p ≤ text.size) (ht : text.size ≤ 4000) (hB : B ≤ w.heap.size) (hT : Tabs B w) (hnw : ∀ i, i < 3 → begins text p (wkey i) = false) (hp39 : begins text p ⟨#[39]⟩ = false) (hp91 : begins text p ⟨#[91]⟩ = false) :
    Calls Tryd.prog 15 #[.string text, .int .i64 p, .int .i64 deep] w fun e w' => RvEnd (match numP text p with | .error a => .error a | .ok (n, q) => .ok (.node 2 n ⟨#[]⟩ [], q)) w w' e ∧ Below w.heap.size w w' := by
  obtain ⟨b, hb⟩ : ∃ b, begins text p ⟨#[45]⟩ = b := ⟨_, rfl⟩
  obtain ⟨f1, f2, f3, f4⟩ := wordE_facts text p hp b hb _ rfl
  obtain ⟨g1, g2⟩ := word_parts text p hp b hb _ rfl
  have hnum := numP_is text p b _ g1 g2
  obtain ⟨q, hq⟩ : ∃ q, p + q = wordE text p := ⟨wordE text p - p, by
    have : p ≤ (if b then p + 1 else p) := by split <;> omega
    omega⟩
  rw [← hq] at f1 f2 f3 f4 g1 g2 hnum
  generalize (text.extract (if b then p + 1 else p) (p + q)).data.toList = ds at g1 g2 hnum
  have hwsz : (text.extract p (p + q)).size ≤ 4000 := by rw [ByteArray.size_extract]; omega
  have bad : ∀ (e : Ending) (w' : World), numP text p = .error p → (e = .returned (.tuple #[.agg #[.int .i64 0, .int .i64 0, .string ⟨#[]⟩, .slice none 0 0], .int .i64 0, .int .i64 p]) ∧ Below w.heap.size w w') → RvEnd (match numP text p with | .error a => .error a | .ok (n, q) => .ok (.node 2 n ⟨#[]⟩ [], q)) w w' e ∧ Below w.heap.size w w' := fun e w' h1 h2 => by
    rw [h1]
    exact ⟨⟨0, 0, ⟨#[]⟩, none, 0, 0, h2.1⟩, h2.2⟩
  have hst : ∀ (W : World) (ib : Nat), BG.IntAt W ib (zW b ds) → ∀ (hr : -9223372036854775808 ≤ zW b ds ∧ zW b ds ≤ 9223372036854775807), Calls Tryd.prog 27 #[.pointer (some ⟨ib, 0, none⟩)] W fun e w' => e = .returned (.string ⟨(Lib.itoa (zW b ds)).toArray⟩) ∧ Below W.heap.size W w' := fun W ib h hr => BG.string_any ib _ W h hr
  by_cases hne : ds = []
  · subst hne
    have hbad : numP text p = .error p := by
      rw [hnum, if_neg]
      rintro ⟨_, h2⟩
      have : Lib.itoa (zW b []) = [48] := by
        have e0 : zW b [] = 0 := by cases b <;> rfl
        rw [e0]
        unfold Lib.itoa
        rw [if_neg (by decide), Lib.decDigits, dif_pos (by decide)]
        rfl
      rw [this] at h2
      cases b
      · cases h2
      · exact absurd h2 (by decide)
    have hs := fun W => set_empty b (text.extract p (p + q)) g1 W
    cases b with
    | true => exact (rv_nodig_neg B p deep text w hp ht hB hT hnw hp39 hp91 hb q (by simp at f1; omega) f2 (fun i h1 h2 => f3 (p + i) (by simp; omega) (by omega)) f4 hs).mono (fun e w' h => bad e w' hbad h)
    | false => exact (rv_nodig_pos B p deep text w hp ht hB hT hnw hp39 hp91 hb q (by omega) f2 (fun i h1 h2 => f3 (p + i) (by simp) (by omega)) f4 hs).mono (fun e w' h => bad e w' hbad h)
  have hs := fun W => set_word b ds (text.extract p (p + q)) g1 g2 hne hwsz W
  by_cases hr : -9223372036854775808 ≤ zW b ds ∧ zW b ds ≤ 9223372036854775807
  · have hi1 : ∀ (W : World) (ib : Nat), BG.IntAt W ib (zW b ds) → Calls Tryd.prog 26 #[.pointer (some ⟨ib, 0, none⟩)] W fun e w' => e = .returned (.bool true) ∧ Below W.heap.size W w' := fun W ib h => by
      have := BG.isInt64_any ib _ W h
      rw [decide_eq_true hr] at this
      exact this
    by_cases hit : Lib.itoa (zW b ds) = wordL b ds
    · have hgood : numP text p = .ok (zW b ds, p + q) := by rw [hnum, if_pos ⟨hr, hit⟩]
      have hww : (⟨(Lib.itoa (zW b ds)).toArray⟩ : ByteArray) = text.extract p (p + q) := by rw [hit, ← g1]
      have hstr : ∀ (W : World) (ib : Nat), BG.IntAt W ib (zW b ds) → Calls Tryd.prog 27 #[.pointer (some ⟨ib, 0, none⟩)] W fun e w' => e = .returned (.string (text.extract p (p + q))) ∧ Below W.heap.size W w' := fun W ib h => by rw [← hww]; exact hst W ib h hr
      have hi64 : ∀ (W : World) (ib : Nat), BG.IntAt W ib (zW b ds) → Calls Tryd.prog 28 #[.pointer (some ⟨ib, 0, none⟩)] W fun e w' => e = .returned (.int .i64 (zW b ds)) ∧ w' = W := fun W ib h => BG.int64_any ib _ W h hr
      have good : ∀ (e : Ending) (w' : World), (e = .returned (.tuple #[.agg #[.int .i64 2, .int .i64 (zW b ds), .string ⟨#[]⟩, .slice none 0 0], .int .i64 ((p : Int) + (q : Int)), .int .i64 (-1)]) ∧ Below w.heap.size w w') → RvEnd (match numP text p with | .error a => .error a | .ok (n, q) => .ok (.node 2 n ⟨#[]⟩ [], q)) w w' e ∧ Below w.heap.size w w' := fun e w' h2 => by
        rw [hgood]
        exact ⟨⟨⟨2, zW b ds, ⟨#[]⟩, [], none, 0, 0⟩, rfl, by rw [h2.1, Int.natCast_add], ⟨Nat.zero_le _, Nat.le_refl _, by unfold LieA; rfl⟩⟩, h2.2⟩
      cases b with
      | true => exact (rv_good_neg B p deep text w hp ht hB hT hnw hp39 hp91 hb q (by simp at f1; omega) f2 (fun i h1 h2 => f3 (p + i) (by simp; omega) (by omega)) f4 _ hs hi1 hstr hi64).mono good
      | false => exact (rv_good_pos B p deep text w hp ht hB hT hnw hp39 hp91 hb q (by omega) f2 (fun i h1 h2 => f3 (p + i) (by simp) (by omega)) f4 _ hs hi1 hstr hi64).mono good
    · have hbad : numP text p = .error p := by rw [hnum, if_neg (fun h => hit h.2)]
      have hne2 : (⟨(Lib.itoa (zW b ds)).toArray⟩ : ByteArray) ≠ text.extract p (p + q) := fun e => hit (by rw [← g1, ← e])
      cases b with
      | true => exact (rv_other_neg B p deep text w hp ht hB hT hnw hp39 hp91 hb q (by simp at f1; omega) f2 (fun i h1 h2 => f3 (p + i) (by simp; omega) (by omega)) f4 _ hs hi1 _ (fun W ib h => hst W ib h hr) hne2).mono (fun e w' h => bad e w' hbad h)
      | false => exact (rv_other_pos B p deep text w hp ht hB hT hnw hp39 hp91 hb q (by omega) f2 (fun i h1 h2 => f3 (p + i) (by simp) (by omega)) f4 _ hs hi1 _ (fun W ib h => hst W ib h hr) hne2).mono (fun e w' h => bad e w' hbad h)
  · have hbad : numP text p = .error p := by rw [hnum, if_neg (fun h => hr h.1)]
    have hi0 : ∀ (W : World) (ib : Nat), BG.IntAt W ib (zW b ds) → Calls Tryd.prog 26 #[.pointer (some ⟨ib, 0, none⟩)] W fun e w' => e = .returned (.bool false) ∧ w' = W := fun W ib h => by
      have := BG.isInt64_same ib _ W h
      rw [decide_eq_false hr] at this
      exact this
    cases b with
    | true => exact (rv_far_neg B p deep text w hp ht hB hT hnw hp39 hp91 hb q (by simp at f1; omega) f2 (fun i h1 h2 => f3 (p + i) (by simp; omega) (by omega)) f4 _ hs hi0).mono (fun e w' h => bad e w' hbad h)
    | false => exact (rv_far_pos B p deep text w hp ht hB hT hnw hp39 hp91 hb q (by omega) f2 (fun i h1 h2 => f3 (p + i) (by simp) (by omega)) f4 _ hs hi0).mono (fun e w' h => bad e w' hbad h)

theorem rv_any {B : Nat} {text : ByteArray} (ht : text.size ≤ 4000) : ∀ (d p : Nat) (w : World), d ≤ 40 → p ≤ text.size → B ≤ w.heap.size → Tabs B w → Calls Tryd.prog 15 #[.string text, .int .i64 p, .int .i64 ((41 - d : Nat) : Int)] w fun e w' => RvEnd (valF d text p) w w' e ∧ Below w.heap.size w w' := by
  intro d
  induction d with
  | zero =>
    intro p w hd hp hB hT
    by_cases hsome : ∃ i, i < 3 ∧ begins text p (wkey i) = true
    · exact rv_words B p _ text w hp ht hB hT _ hsome word_fits
    have hnw : ∀ i, i < 3 → begins text p (wkey i) = false := fun i hi => by
      cases h : begins text p (wkey i) with
      | false => rfl
      | true => exact absurd ⟨i, hi, h⟩ hsome
    have b1 : begins text p ⟨#[110, 117, 108, 108]⟩ = false := hnw 0 (by decide)
    have b2 : begins text p ⟨#[116, 114, 117, 101]⟩ = false := hnw 1 (by decide)
    have b3 : begins text p ⟨#[102, 97, 108, 115, 101]⟩ = false := hnw 2 (by decide)
    cases b4 : begins text p ⟨#[39]⟩ with
    | true =>
      have hp1 : p + 1 ≤ text.size := begins_le hp b4
      have e0 : valF 0 text p = match textF (text.size + 1) text (p + 1) [] with | .error a => .error a | .ok (s, q) => .ok (.node 3 0 ⟨s.toArray⟩ [], q) := by
        conv => lhs; unfold valF
        rw [if_neg (by simp [b1]), if_neg (by simp [b2]), if_neg (by simp [b3]), if_pos b4]
        cases textF (text.size + 1) text (p + 1) [] with
        | error a => rfl
        | ok x => cases x; rfl
      rw [e0]
      have hrt : ∀ W, Below w.heap.size w W → Calls Tryd.prog 24 #[.string text, .int .i64 ((p : Int) + 1)] W fun e w' => RtEnd (textF (text.size + 1) text (p + 1) []) e ∧ Below W.heap.size W w' := fun W hW => by
        have := readText_any B (p + 1) text W hp1 ht (by have := hW.size; omega) (hT.below (hW.mono hB))
        rw [Int.natCast_add] at this
        exact this
      cases hx : textF (text.size + 1) text (p + 1) [] with
      | error a =>
        rw [hx] at hrt
        refine (rv_text B p _ text w hp ht hB hT hnw b4 ⟨#[]⟩ 0 (a : Int) hrt).mono ?_
        rintro e w' ⟨rfl, hb⟩
        exact ⟨⟨_, _, _, _, _, _, rfl⟩, hb⟩
      | ok sq =>
        obtain ⟨s, q⟩ := sq
        rw [hx] at hrt
        have hs := textF_le _ _ _ _ _ hp1 hx
        refine (rv_text B p _ text w hp ht hB hT hnw b4 ⟨s.toArray⟩ (q : Int) (-1) hrt).mono ?_
        rintro e w' ⟨rfl, hb⟩
        exact ⟨⟨⟨3, 0, ⟨s.toArray⟩, [], none, 0, 0⟩, rfl, rfl, ⟨by show s.toArray.size ≤ _; rw [List.size_toArray]; simp at hs; omega, Nat.le_refl _, by unfold LieA; rfl⟩⟩, hb⟩
    | false =>
    cases b5 : begins text p ⟨#[91]⟩ with
    | true =>
      have e0 : valF 0 text p = .error p := by unfold valF; rw [if_neg (by simp [b1]), if_neg (by simp [b2]), if_neg (by simp [b3]), if_neg (by simp [b4]), if_pos b5]
      rw [e0]
      refine (rv_deep B p _ text w hp ht hB hT hnw b4 b5 (by omega)).mono ?_
      rintro e w' ⟨rfl, hb⟩
      exact ⟨⟨_, _, _, _, _, _, rfl⟩, hb⟩
    | false =>
      have e0 : valF 0 text p = match numP text p with | .error a => .error a | .ok (n, q) => .ok (.node 2 n ⟨#[]⟩ [], q) := by
        conv => lhs; unfold valF
        rw [if_neg (by simp [b1]), if_neg (by simp [b2]), if_neg (by simp [b3]), if_neg (by simp [b4]), if_neg (by simp [b5])]
        cases numP text p with
        | error a => rfl
        | ok x => cases x; rfl
      rw [e0]
      exact rv_num B p _ text w hp ht hB hT hnw b4 b5
  | succ d ih =>
    intro p w hd hp hB hT
    by_cases hsome : ∃ i, i < 3 ∧ begins text p (wkey i) = true
    · exact rv_words B p _ text w hp ht hB hT _ hsome word_fits
    have hnw : ∀ i, i < 3 → begins text p (wkey i) = false := fun i hi => by
      cases h : begins text p (wkey i) with
      | false => rfl
      | true => exact absurd ⟨i, hi, h⟩ hsome
    have b1 : begins text p ⟨#[110, 117, 108, 108]⟩ = false := hnw 0 (by decide)
    have b2 : begins text p ⟨#[116, 114, 117, 101]⟩ = false := hnw 1 (by decide)
    have b3 : begins text p ⟨#[102, 97, 108, 115, 101]⟩ = false := hnw 2 (by decide)
    cases b4 : begins text p ⟨#[39]⟩ with
    | true =>
      have hp1 : p + 1 ≤ text.size := begins_le hp b4
      have e0 : valF (d + 1) text p = match textF (text.size + 1) text (p + 1) [] with | .error a => .error a | .ok (s, q) => .ok (.node 3 0 ⟨s.toArray⟩ [], q) := by
        conv => lhs; unfold valF
        rw [if_neg (by simp [b1]), if_neg (by simp [b2]), if_neg (by simp [b3]), if_pos b4]
        cases textF (text.size + 1) text (p + 1) [] with
        | error a => rfl
        | ok x => cases x; rfl
      rw [e0]
      have hrt : ∀ W, Below w.heap.size w W → Calls Tryd.prog 24 #[.string text, .int .i64 ((p : Int) + 1)] W fun e w' => RtEnd (textF (text.size + 1) text (p + 1) []) e ∧ Below W.heap.size W w' := fun W hW => by
        have := readText_any B (p + 1) text W hp1 ht (by have := hW.size; omega) (hT.below (hW.mono hB))
        rw [Int.natCast_add] at this
        exact this
      cases hx : textF (text.size + 1) text (p + 1) [] with
      | error a =>
        rw [hx] at hrt
        refine (rv_text B p _ text w hp ht hB hT hnw b4 ⟨#[]⟩ 0 (a : Int) hrt).mono ?_
        rintro e w' ⟨rfl, hb⟩
        exact ⟨⟨_, _, _, _, _, _, rfl⟩, hb⟩
      | ok sq =>
        obtain ⟨s, q⟩ := sq
        rw [hx] at hrt
        have hs := textF_le _ _ _ _ _ hp1 hx
        refine (rv_text B p _ text w hp ht hB hT hnw b4 ⟨s.toArray⟩ (q : Int) (-1) hrt).mono ?_
        rintro e w' ⟨rfl, hb⟩
        exact ⟨⟨⟨3, 0, ⟨s.toArray⟩, [], none, 0, 0⟩, rfl, rfl, ⟨by show s.toArray.size ≤ _; rw [List.size_toArray]; simp at hs; omega, Nat.le_refl _, by unfold LieA; rfl⟩⟩, hb⟩
    | false =>
    cases b5 : begins text p ⟨#[91]⟩ with
    | true =>
      have hp1 : p + 1 ≤ text.size := begins_le hp b5
      have hde : ((41 - d : Nat) : Int) = ((41 - (d + 1) : Nat) : Int) + 1 := by omega
      cases b6 : begins text (p + 1) ⟨#[93]⟩ with
      | true =>
        have h2 : p + 1 + 1 ≤ text.size := begins_le hp1 b6
        have hc : text[p + 1] = 93 := by
          rw [begins_one (by omega)] at b6
          exact (beq_iff_eq.1 b6).symm
        have e0 : valF (d + 1) text p = .ok (.node 4 0 ⟨#[]⟩ [], p + 2) := by
          unfold valF
          rw [if_neg (by simp [b1]), if_neg (by simp [b2]), if_neg (by simp [b3]), if_neg (by simp [b4]), if_pos b5]
          simp only [b6, if_true]
        rw [e0]
        refine (rv_none B p _ text w hp ht hB hT hnw b4 b5 (by omega) (by omega) hc).mono ?_
        rintro e w' ⟨rfl, hb⟩
        exact ⟨⟨⟨4, 0, ⟨#[]⟩, [], none, 0, 0⟩, rfl, rfl, ⟨Nat.zero_le _, Nat.le_refl _, by unfold LieA; rfl⟩⟩, hb⟩
      | false =>
        have e0 : valF (d + 1) text p = listF (valF d text) text (text.size + 1) (p + 1) [] := by
          conv => lhs; unfold valF
          rw [if_neg (by simp [b1]), if_neg (by simp [b2]), if_neg (by simp [b3]), if_neg (by simp [b4]), if_pos b5]
          simp only [b6, Bool.false_eq_true, if_false]
        rw [e0]
        have hgo : ∀ (W : World) (p' : Nat), Below w.heap.size w W → p' ≤ text.size → Calls Tryd.prog 15 #[.string text, .int .i64 p', .int .i64 (((41 - (d + 1) : Nat) : Int) + 1)] W fun e w' => RvEnd (valF d text p') W w' e ∧ Below W.heap.size W w' := fun W p' hW hp' => by
          rw [← hde]
          exact ih p' W (by omega) hp' (by have := hW.size; omega) (hT.below (hW.mono hB))
        by_cases h1 : p + 1 < text.size
        · exact rv_list B p _ text w hp ht hB hT hnw b4 b5 (by omega) (by omega) hp1 h1 (byte_no (c := 93) rfl (fun e => by rw [begins_one h1, e] at b6; simp at b6)) (valF d text) (fun p t q h1 h2 => valF_le d p t q h1 h2) hgo
        · exact rv_list_end B p _ text w hp ht hB hT hnw b4 b5 (by omega) (by omega) hp1 (by omega) (valF d text) (fun p t q h1 h2 => valF_le d p t q h1 h2) hgo
    | false =>
      have e0 : valF (d + 1) text p = match numP text p with | .error a => .error a | .ok (n, q) => .ok (.node 2 n ⟨#[]⟩ [], q) := by
        conv => lhs; unfold valF
        rw [if_neg (by simp [b1]), if_neg (by simp [b2]), if_neg (by simp [b3]), if_neg (by simp [b4]), if_neg (by simp [b5])]
        cases numP text p with
        | error a => rfl
        | ok x => cases x; rfl
      rw [e0]
      exact rv_num B p _ text w hp ht hB hT hnw b4 b5
end Go.Proofs.YtdbodcfodlbgnaaDoor
