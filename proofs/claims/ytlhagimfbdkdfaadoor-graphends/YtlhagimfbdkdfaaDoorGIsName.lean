/-
  What is proved here: what espalierref.IsName answers of any text: whether it is a name, the same plain function as graph.Name's.
-/
import Derived.Test.YtlhagimfbdkdfaaDoorGProps
import Derived.Test.YtlhagimfbdkdfaaDoorShelfT
namespace Go.Proofs.YtlhagimfbdkdfaaDoor
open Go.RowKit
set_option linter.unusedVariables false

/-- The letters, digits and the line below. -/
def nameSet : ByteArray := ⟨#[97, 98, 99, 100, 101, 102, 103, 104, 105, 106, 107, 108, 109, 110, 111, 112, 113, 114, 115, 116, 117, 118, 119, 120, 121, 122, 65, 66, 67, 68, 69, 70, 71, 72, 73, 74, 75, 76, 77, 78, 79, 80, 81, 82, 83, 84, 85, 86, 87, 88, 89, 90, 48, 49, 50, 51, 52, 53, 54, 55, 56, 57, 95]⟩

theorem inSet_all : (List.range 256).all (fun n => nameSet.data.toList.contains (UInt8.ofNat n) == (letN (n : Nat) || digN (n : Nat))) = true := by kernel_rfl

theorem inSet (c : UInt8) : nameSet.data.toList.contains c = (letN c.toNat || digN c.toNat) := by
  have h := List.all_eq_true.1 inSet_all c.toNat (List.mem_range.2 c.toNat_lt)
  have e : UInt8.ofNat c.toNat = c := by simp
  rw [e] at h
  simpa using h

theorem dw_nil (p : UInt8 → Bool) : ∀ l : List UInt8, l.dropWhile p = [] ↔ ∀ x ∈ l, p x = true
  | [] => by simp
  | c :: r => by
    have ih := dw_nil p r
    by_cases h : p c = true
    · rw [List.dropWhile_cons, if_pos h, ih]
      simp [h]
    · rw [List.dropWhile_cons, if_neg h]
      simp [h]

theorem dw_head (p : UInt8 → Bool) : ∀ (l : List UInt8) (y : UInt8) (ys : List UInt8), l.dropWhile p = y :: ys → p y = false
  | [], y, ys, h => by simp at h
  | c :: r, y, ys, h => by
    by_cases hc : p c = true
    · rw [List.dropWhile_cons, if_pos hc] at h
      exact dw_head p r y ys h
    · rw [List.dropWhile_cons, if_neg hc] at h
      injection h with h1 h2
      subst h1
      simpa using hc

theorem trim_nil (l cs : List UInt8) : Lib.trimS l cs = [] ↔ ∀ b ∈ l, cs.contains b = true := by
  unfold Lib.trimS Lib.trimLeftS Lib.trimRightS
  rw [dw_nil]
  constructor
  · intro h
    cases hd : l.reverse.dropWhile (cs.contains ·) with
    | nil =>
      rw [dw_nil] at hd
      exact fun b hb => hd b (List.mem_reverse.2 hb)
    | cons y ys =>
      exfalso
      have h1 := h y (by rw [hd]; simp)
      have h2 := dw_head _ _ _ _ hd
      rw [h1] at h2
      exact absurd h2 (by decide)
  · intro h b hb
    have : l.reverse.dropWhile (cs.contains ·) = [] := by
      rw [dw_nil]
      exact fun b hb => h b (List.mem_reverse.1 hb)
    rw [this] at hb
    simp at hb

theorem nmFrom_all : ∀ (l : List UInt8) (i : Nat), i ≠ 0 → (nmFrom i l = true ↔ ∀ b ∈ l, (letN b.toNat || digN b.toNat) = true)
  | [], i, _ => by simp [nmFrom]
  | c :: r, i, h => by
    have ih := nmFrom_all r (i + 1) (by omega)
    have hi : (i != 0) = true := by simpa using h
    unfold nmFrom
    rw [hi, Bool.true_and, Bool.and_eq_true, ih]
    simp

/-- A text that doesn't open with a digit. -/
theorem nmFrom_trim (c : UInt8) (r : List UInt8) (h : digN c.toNat = false) : nmFrom 0 (c :: r) = (Lib.trimS (c :: r) nameSet.data.toList).isEmpty := by
  rw [Bool.eq_iff_iff, List.isEmpty_iff, trim_nil]
  have := nmFrom_all r 1 (by decide)
  unfold nmFrom
  simp only [inSet]
  rw [Bool.and_eq_true, this]
  simp [h]

theorem empty_toList (l : List UInt8) : (⟨l.toArray⟩ : ByteArray).toList.isEmpty = l.isEmpty := by
  rw [ByteArray.toList_eq]

set_option maxHeartbeats 2000000 in
set_option maxRecDepth 100000 in
theorem isName_any (s : ByteArray) (w : World) (hs : s.size ≤ 9223372036854775807) : Calls Tryd.prog 18 #[.string s] w fun e w' => e = .returned (.bool (nm s)) ∧ Below w.heap.size w w' := by
  obtain ⟨R, hR⟩ : ∃ R, R = nm s := ⟨_, rfl⟩
  rw [← hR]
  have HR := toHid hR
  clear hR
  by_cases h0 : s = ⟨#[]⟩
  · subst h0
    have H3 := toHid (show R = false by rw [HR.out]; rfl)
    clear HR
    go_enter Tryd.func18, Tryd.ntmps18
    go_wp2
    go_ret
    exact ⟨ret_bool (by rw [H3.out]), Below.refl _ _⟩
  · have he := isEmpty_no h0
    have hp : 0 < s.size := size_pos h0
    clear h0
    by_cases h12 : 12 < s.size
    · have h12' : (12 : Int) < s.size := by omega
      have H3 := toHid (show R = false by rw [HR.out, nm, decide_eq_false (p := s.size ≤ 12) (by omega)]; simp)
      clear HR h12
      go_enter Tryd.func18, Tryd.ntmps18
      go_wp2
      go_ret
      exact ⟨ret_bool (by rw [H3.out]), Below.refl _ _⟩
    · have h12' : ¬ (12 : Int) < s.size := by omega
      have hd := drop_byte s 0 hp
      rw [List.drop_zero] at hd
      have HD := toHid hd
      have H3 := toHid (show R = nmFrom 0 s.data.toList by rw [HR.out, nm, decide_eq_true (p := s.size ≤ 12) (by omega), decide_eq_true hp]; simp)
      have Hh := toHid h12
      clear HR hd h12
      have hdg : (48 : Int) ≤ (s[0].toNat : Int) ∧ (s[0].toNat : Int) ≤ 57 ∨ ¬ (48 : Int) ≤ (s[0].toNat : Int) ∨ (48 : Int) ≤ (s[0].toNat : Int) ∧ ¬ (s[0].toNat : Int) ≤ 57 := by omega
      have two : (48 : Int) ≤ (s[0].toNat : Int) ∧ (s[0].toNat : Int) ≤ 57 → R = false := fun h => by
        rw [H3.out, HD.out]
        have : letN (s[0].toNat : Int) = false := by
          simp only [letN, Bool.or_eq_false_iff, Bool.and_eq_false_iff, decide_eq_false_iff_not, beq_eq_false_iff_ne]
          omega
        simp [nmFrom, this]
      have three : ¬ ((48 : Int) ≤ (s[0].toNat : Int) ∧ (s[0].toNat : Int) ≤ 57) → R = (⟨(Lib.trimS s.data.toList nameSet.data.toList).toArray⟩ : ByteArray).toList.isEmpty := fun h => by
        rw [empty_toList, H3.out, HD.out]
        refine nmFrom_trim _ _ ?_
        simp only [digN, Bool.and_eq_false_iff, decide_eq_false_iff_not]
        omega
      have H4 := toHid two
      have H5 := toHid three
      have HT : Hid (∀ W, Calls Tryd.prog 30 #[.string s, .string nameSet] W fun e w' => e = .returned (.string ⟨(Lib.trimS s.data.toList nameSet.data.toList).toArray⟩) ∧ Below W.heap.size W w') := fun W => Tryd.strings_Trim s nameSet W hs (by decide) (ascii_of_all (by decide))
      clear two three H3 HD
      rcases hdg with ⟨h1, h2⟩ | h1 | ⟨h1, h2⟩
      · have H6 := toHid (H4.out ⟨h1, h2⟩)
        clear H4 H5
        go_enter Tryd.func18, Tryd.ntmps18
        go_wp2_with fail
        go_ret
        exact ⟨ret_bool (by rw [H6.out]), Below.refl _ _⟩
      · have H6 := toHid (H5.out (fun h => h1 h.1))
        clear H4 H5
        generalize Lib.trimS s.data.toList nameSet.data.toList = tr at HT H6
        go_enter Tryd.func18, Tryd.ntmps18
        go_wp2_with fail
        refine (HT.out _).mono ?_
        rintro e w1 ⟨rfl, k1⟩
        go_wp2_with fail
        go_ret
        exact ⟨ret_bool (by rw [H6.out, empty_toList]), k1⟩
      · have H6 := toHid (H5.out (fun h => h2 h.2))
        clear H4 H5
        generalize Lib.trimS s.data.toList nameSet.data.toList = tr at HT H6
        go_enter Tryd.func18, Tryd.ntmps18
        go_wp2_with fail
        refine (HT.out _).mono ?_
        rintro e w1 ⟨rfl, k1⟩
        go_wp2_with fail
        go_ret
        exact ⟨ret_bool (by rw [H6.out, empty_toList]), k1⟩
end Go.Proofs.YtlhagimfbdkdfaaDoor
