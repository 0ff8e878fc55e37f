/-
  What is proved here: see the remark of the text Closed (the parts of it that this seat needs).
-/
import Derived.Test.YtonjeaoagpelmaaGreatDoorWParse
import Derived.Test.YtonjeaoagpelmaaGreatDoorShelf
namespace Go.Proofs.YtonjeaoagpelmaaGreatDoor
open Go.RowKit
set_option linter.unusedVariables false

/-- The closed fact's text. -/
def closedText : ByteArray := ⟨#[91, 45, 55, 44, 39, 105, 116, 92, 39, 115, 39, 44, 110, 117, 108, 108, 93]⟩

/-- Its values. -/
def closedItems : List Item := [⟨2, -7, ⟨#[]⟩, 3⟩, ⟨3, 0, ⟨#[105, 116, 39, 115]⟩, 11⟩, ⟨0, 0, ⟨#[]⟩, 16⟩]

theorem digit_no (i : Nat) (h : ∀ h : i < closedText.size, ¬ (48 ≤ closedText[i].toNat ∧ closedText[i].toNat ≤ 57)) : ¬ digitAt closedText i := by
  rintro ⟨h1, h2⟩
  exact h h1 h2

theorem item1 : ScalarOk closedText 1 1 ⟨2, -7, ⟨#[]⟩, 3⟩ := by
  intro B r w h hB hT hP
  refine value_num B r 1 closedText 1 w h (by decide) (by decide) hB hT hP (by decide +kernel) (by decide +kernel) (by decide +kernel) (by decide +kernel) (by decide +kernel) 3 (-7) ?_
  intro B r w h hB hP
  refine number_any B r 1 2 3 true (-7) closedText w h (by decide) hB hP (by decide) (by decide +kernel) rfl (by decide) (by decide) ?_ ?_ (by decide +kernel) (by decide) (by decide) (by decide +kernel)
  · intro i h1 h2
    have : i = 2 := by omega
    subst this
    exact ⟨by decide, by decide, by decide⟩
  · exact digit_no 3 (fun _ => show ¬ (48 ≤ (44 : UInt8).toNat ∧ (44 : UInt8).toNat ≤ 57) by decide)

theorem item3 : ScalarOk closedText 12 1 ⟨0, 0, ⟨#[]⟩, 16⟩ := by
  intro B r w h hB hT hP
  exact value_null B r 12 closedText 1 w h (by decide) (by decide) hB hT hP (by decide +kernel)

theorem item2 : ScalarOk closedText 4 1 ⟨3, 0, ⟨#[105, 116, 39, 115]⟩, 11⟩ := by
  intro B r w h hB hT hP
  have plain : ∀ (p : Nat) (c : Nat), p + 1 ≤ closedText.size → begins closedText p ⟨#[92, 39]⟩ = false → begins closedText p ⟨#[92, 92]⟩ = false → begins closedText p ⟨#[92, 110]⟩ = false → Lib.decodeGo (closedText.extract p closedText.size) = (c, 1) → c ≠ 92 → c ≠ 10 → c ≠ 65533 → LetterOk closedText p (closedText.extract p (p + 1)) (p + 1) := by
    intro p c hp h1 h2 h3 hd c1 c2 c3 B r w h hB hT
    exact letter_plain B r p 1 c closedText w h (by omega) (by decide) hB hT h1 h2 h3 hd c1 c2 c3 hp
  have hq : LetterOk closedText 7 ⟨#[39]⟩ 9 := by
    intro B r w h hB hT
    exact letter_quote r 7 closedText w h (by decide) (by decide) (by decide +kernel)
  have hl : Letters closedText 5 [(closedText.extract 5 6, 6), (closedText.extract 6 7, 7), (⟨#[39]⟩, 9), (closedText.extract 9 10, 10)] 11 := by
    refine ⟨by decide, by decide +kernel, by decide +kernel, plain 5 105 (by decide) (by decide +kernel) (by decide +kernel) (by decide +kernel) (by decide +kernel) (by decide) (by decide) (by decide), ?_⟩
    refine ⟨by decide, by decide +kernel, by decide +kernel, plain 6 116 (by decide) (by decide +kernel) (by decide +kernel) (by decide +kernel) (by decide +kernel) (by decide) (by decide) (by decide), ?_⟩
    refine ⟨by decide, by decide +kernel, by decide +kernel, hq, ?_⟩
    refine ⟨by decide, by decide +kernel, by decide +kernel, plain 9 115 (by decide) (by decide +kernel) (by decide +kernel) (by decide +kernel) (by decide +kernel) (by decide) (by decide) (by decide), ?_⟩
    exact ⟨by decide, by decide +kernel, rfl⟩
  have hj : joined [(closedText.extract 5 6, 6), (closedText.extract 6 7, 7), (⟨#[39]⟩, 9), (closedText.extract 9 10, 10)] = [105, 116, 39, 115] := by decide +kernel
  have := value_text B r 4 closedText 1 w h (by decide) (by decide) hB hT hP (by decide +kernel) (by decide +kernel) (by decide +kernel) (by decide +kernel) 11 _ hl ?_
  · rw [hj] at this
    exact this
  · rintro d ⟨t, ht⟩
    have e : (joined (d ++ t)).length = 4 := by rw [ht, hj]; rfl
    have : joined (d ++ t) = joined d ++ joined t := by simp [joined]
    rw [this, List.length_append] at e
    omega

theorem closed_items : Items closedText 1 1 closedItems closedText.size := by
  refine ⟨item1, by decide, .inr ⟨by decide +kernel, by decide +kernel, ?_⟩⟩
  refine ⟨item2, by decide, .inr ⟨by decide +kernel, by decide +kernel, ?_⟩⟩
  exact ⟨item3, by decide, .inl ⟨rfl, by decide +kernel, rfl⟩⟩

theorem closed_check (B : Nat) : ∀ i, i < closedItems.length → ∀ W, B ≤ W.heap.size → Tabs B W → Calls Tryz.prog 20 #[(valsOf closedItems).at i, .int .i64 1] W fun e w'' => e = .returned (.int .i64 0) ∧ Below W.heap.size W w'' := by
  intro i hi W hB hT
  have h3 : i = 0 ∨ i = 1 ∨ i = 2 := by
    have : closedItems.length = 3 := rfl
    omega
  rcases h3 with rfl | rfl | rfl
  · exact within_plain 2 (-7) ⟨#[]⟩ none 0 0 1 0 W (by decide) (by decide) (fun w' _ => checkPlain_int (-7) w')
  · refine within_text 0 ⟨#[105, 116, 39, 115]⟩ none 0 0 1 0 W fun w1 k1 => ?_
    have := checkText_any 0 ⟨#[105, 116, 39, 115]⟩ none 0 0 true w1 (by decide) (by decide) (fun w' k' => ?_)
    · have hz : ((if (⟨#[105, 116, 39, 115]⟩ : ByteArray).size > 4000 then 2 else if true = true ∧ (0 : Int) = 0 ∧ (0 : Nat) = 0 then 0 else 6 : Int)) = 0 := by decide
      rw [hz] at this
      exact this
    · have hT' := hT.below ((k1.mono hB).trans (k'.mono (Nat.le_trans hB k1.size)))
      have hv : Lib.validD (⟨#[105, 116, 39, 115]⟩ : ByteArray).data.toList = true := by decide +kernel
      have c := Tryz.utf8_ValidString ⟨#[105, 116, 39, 115]⟩ w' (by decide) hT'.now
      rw [hv] at c
      exact c
  · exact within_plain 0 0 ⟨#[]⟩ none 0 0 1 0 W (by decide) (by decide) (fun w' _ => checkPlain_null w')

theorem parse_closed (B : Nat) (w : World) (hB : B ≤ w.heap.size) (hT : Tabs B w) (hP : Pow10 B w) :
    Calls Tryz.prog 14 #[.string closedText] w fun e w' => ∃ g cap, e = .returned (.tuple #[.agg #[.int .i64 4, .int .i64 0, .string ⟨#[]⟩, .slice (some ⟨g, 0, none⟩) 3 cap], .int .i64 0, .int .i64 0]) ∧ w'.ownsRow w.heap.size 24 4 (.slice (some ⟨g, 0, none⟩) 3 cap) 3 (rowOf closedItems) ∧ Below w.heap.size w w' :=
  parse_list B closedText closedItems w hB (by decide) hT hP
    (fun W hBW hTW hPW => readAll_list B closedText closedItems W hBW (by decide) (by decide) hTW hPW (by decide +kernel) (by decide +kernel) (by decide +kernel) (by decide +kernel) (by decide +kernel) closed_items (by decide) (by decide +kernel))
    (by decide) (closed_check B)

end Go.Proofs.YtonjeaoagpelmaaGreatDoor
