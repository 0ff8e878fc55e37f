/-
  What is proved here: what graph.letter, digit and Name answer of any text: whether it is a name, said as a plain function.
-/
import Derived.Test.YtlhagimfbdkdfaaDoorPM
namespace Go.Proofs.YtlhagimfbdkdfaaDoor
open Go.RowKit
set_option linter.unusedVariables false

def letN (n : Int) : Bool := (decide (97 ≤ n) && decide (n ≤ 122)) || (decide (65 ≤ n) && decide (n ≤ 90)) || n == 95
def digN (n : Int) : Bool := decide (48 ≤ n) && decide (n ≤ 57)

/-- From a place on: letters, and digits behind the first. -/
def nmFrom : Nat → List UInt8 → Bool
  | _, [] => true
  | i, c :: r => (letN c.toNat || (i != 0 && digN c.toNat)) && nmFrom (i + 1) r

/-- A name. -/
def nm (s : ByteArray) : Bool := decide (0 < s.size) && decide (s.size ≤ 12) && nmFrom 0 s.data.toList

theorem ret_bool {a b : Bool} (h : a = b) : Ending.returned (.bool a) = .returned (.bool b) := by rw [h]

theorem letter_any (n : Int) (w : World) : Calls Tryd.prog 70 #[.int .u8 n] w fun e w' => e = .returned (.bool (letN n)) ∧ w' = w := by
  obtain ⟨z, hz⟩ : ∃ z, z = letN n := ⟨_, rfl⟩
  rw [← hz]
  have HZ := toHid hz
  clear hz
  go_enter Tryd.func70, Tryd.ntmps70
  go_wp2
  all_goals (go_ret; refine ⟨ret_bool ?_, rfl⟩; rw [HZ.out, letN, Bool.eq_iff_iff]; simp at *; try omega)

theorem digit_any (n : Int) (w : World) : Calls Tryd.prog 71 #[.int .u8 n] w fun e w' => e = .returned (.bool (digN n)) ∧ w' = w := by
  obtain ⟨z, hz⟩ : ∃ z, z = digN n := ⟨_, rfl⟩
  rw [← hz]
  have HZ := toHid hz
  clear hz
  go_enter Tryd.func71, Tryd.ntmps71
  go_wp2
  all_goals (go_ret; refine ⟨ret_bool ?_, rfl⟩; rw [HZ.out, digN, Bool.eq_iff_iff]; simp at *; try omega)

theorem size_pos {s : ByteArray} (h : s ≠ ⟨#[]⟩) : 0 < s.size := by
  rcases s with ⟨⟨l⟩⟩
  cases l with
  | nil => exact absurd rfl h
  | cons a l => exact Nat.succ_pos _

theorem drop_byte (s : ByteArray) (i : Nat) (h : i < s.size) : s.data.toList.drop i = s[i] :: s.data.toList.drop (i + 1) := by
  have h2 : i < s.data.toList.length := by simpa using h
  rw [List.drop_eq_getElem_cons h2]
  rfl

set_option maxHeartbeats 2000000 in
set_option maxRecDepth 100000 in
theorem name_any (s : ByteArray) (w : World) (hs : s.size ≤ 9223372036854775807) : Calls Tryd.prog 49 #[.string s] w fun e w' => e = .returned (.bool (nm s)) ∧ Below w.heap.size w w' := by
  obtain ⟨R, hR⟩ : ∃ R, R = nm s := ⟨_, rfl⟩
  rw [← hR]
  have HR := toHid hR
  clear hR
  by_cases h0 : s = ⟨#[]⟩
  · subst h0
    have H3 := toHid (show R = false by rw [HR.out]; rfl)
    clear HR
    go_enter Tryd.func49, Tryd.ntmps49
    go_wp2
    go_ret
    exact ⟨ret_bool (by rw [H3.out]), Below.refl _ _⟩
  · have he := isEmpty_no h0
    have hp : 0 < s.size := size_pos h0
    clear h0
    by_cases h12 : 12 < s.size
    · have h12' : (12 : Int) < s.size := by omega
      have H3 := toHid (show R = false by rw [HR.out, nm, decide_eq_false (p := s.size ≤ 12) (by omega)]; simp)
      clear HR h12
      go_enter Tryd.func49, Tryd.ntmps49
      go_wp2
      go_ret
      exact ⟨ret_bool (by rw [H3.out]), Below.refl _ _⟩
    · have h12' : ¬ (12 : Int) < s.size := by omega
      have H3 := toHid (show R = nmFrom 0 (s.data.toList.drop 0) by rw [HR.out, nm, decide_eq_true (p := s.size ≤ 12) (by omega), decide_eq_true hp]; simp)
      clear HR
      have Hh := toHid h12
      clear h12
      go_enter Tryd.func49, Tryd.ntmps49
      go_wp2_with fail
      go_loopg [13] s.size (fun g s13 wr => ∃ i : Nat, i ≤ s.size ∧ s.size - i ≤ g ∧ s13 = .int .i64 i ∧ Below w.heap.size w wr ∧ R = nmFrom i (s.data.toList.drop i))
      case atStart => exact ⟨0, Nat.zero_le _, by omega, rfl, Below.refl _ _, H3.out⟩
      case round =>
        clear H3
        obtain ⟨i, hi, hg, rfl, hbw, hfe⟩ := hrel
        have HF := toHid hfe
        clear hfe
        by_cases hlt : i < s.size
        · have hd := toHid (drop_byte s i hlt)
          cases hl : letN (s[i].toNat : Int) with
          | true =>
            go_wp2_with (go_at_call 70; refine (letter_any _ _).mono ?_; rintro e w' ⟨rfl, rfl⟩)
            go_roundg (s.size - (i + 1))
            case measure => omega
            case rel => exact ⟨i + 1, by omega, by omega, by go_num, hbw, by rw [HF.out, hd.out, nmFrom, hl]; simp⟩
          | false =>
            by_cases hi0 : i = 0
            · subst hi0
              have H3 := toHid (show R = false by rw [HF.out, hd.out, nmFrom, hl]; simp)
              clear HF hd
              go_wp2_with (go_at_call 70; refine (letter_any _ _).mono ?_; rintro e w' ⟨rfl, rfl⟩)
              go_ret
              exact ⟨ret_bool (by rw [H3.out]), hbw⟩
            · have hi0' : ((i : Int) == 0) = false := by simpa using hi0
              cases hdg : digN (s[i].toNat : Int) with
              | true =>
                have H3 := toHid (show R = nmFrom (i + 1) (s.data.toList.drop (i + 1)) by rw [HF.out, hd.out, nmFrom, hl, hdg]; simp [hi0])
                clear hi0 HF hd
                go_wp2_with (first | (go_at_call 70; refine (letter_any _ _).mono ?_; rintro e w' ⟨rfl, rfl⟩) | (go_at_call 71; refine (digit_any _ _).mono ?_; rintro e w' ⟨rfl, rfl⟩))
                go_roundg (s.size - (i + 1))
                case measure => omega
                case rel => exact ⟨i + 1, by omega, by omega, by go_num, hbw, H3.out⟩
              | false =>
                have H3 := toHid (show R = false by rw [HF.out, hd.out, nmFrom, hl, hdg]; simp)
                clear hi0 HF hd
                go_wp2_with (first | (go_at_call 70; refine (letter_any _ _).mono ?_; rintro e w' ⟨rfl, rfl⟩) | (go_at_call 71; refine (digit_any _ _).mono ?_; rintro e w' ⟨rfl, rfl⟩))
                go_ret
                exact ⟨ret_bool (by rw [H3.out]), hbw⟩
        · have H3 := toHid (show R = true by rw [HF.out, List.drop_eq_nil_of_le (by simp; omega)]; rfl)
          clear HF
          go_wp2_with fail
          go_ret
          exact ⟨ret_bool (by rw [H3.out]), hbw⟩
end Go.Proofs.YtlhagimfbdkdfaaDoor
