/-
  What is proved here: see the remark of the text Check (the parts of it that this seat needs).
-/
import Derived.Test.YtonjeaoagpelmaaGreatDoorWParsed
namespace Go.Proofs.YtonjeaoagpelmaaGreatDoor
open Go.RowKit
set_option linter.unusedVariables false

set_option maxHeartbeats 1000000 in
theorem within_list (n : Int) (s : ByteArray) (a : Option Addr) (l c : Nat) (lists z : Int) (w : World)
    (h : ∀ w', Below w.heap.size w w' → Calls Tryz.prog 34 #[.agg #[.int .i64 4, .int .i64 n, .string s, .slice a l c], .int .i64 lists] w' fun e w'' => e = .returned (.int .i64 z) ∧ Below w'.heap.size w' w'') :
    Calls Tryz.prog 20 #[.agg #[.int .i64 4, .int .i64 n, .string s, .slice a l c], .int .i64 lists] w fun e w' => e = .returned (.int .i64 z) ∧ Below w.heap.size w w' := by
  have HV := toHid h
  clear h
  go_enter Tryz.func20, Tryz.ntmps20
  go_wp2_with fail
  refine (HV.out _ ((Below.refl _ _).alloc (Nat.le_refl _) _)).mono ?_
  rintro e w' ⟨rfl, hb'⟩
  go_wp2_with fail
  go_ret
  exact ⟨rfl, ((Below.refl _ _).alloc (Nat.le_refl _) _).trans (hb'.mono (by simp))⟩

set_option maxHeartbeats 1000000 in
theorem within_text (n : Int) (s : ByteArray) (a : Option Addr) (l c : Nat) (lists z : Int) (w : World)
    (h : ∀ w', Below w.heap.size w w' → Calls Tryz.prog 35 #[.agg #[.int .i64 3, .int .i64 n, .string s, .slice a l c]] w' fun e w'' => e = .returned (.int .i64 z) ∧ Below w'.heap.size w' w'') :
    Calls Tryz.prog 20 #[.agg #[.int .i64 3, .int .i64 n, .string s, .slice a l c], .int .i64 lists] w fun e w' => e = .returned (.int .i64 z) ∧ Below w.heap.size w w' := by
  have HV := toHid h
  clear h
  go_enter Tryz.func20, Tryz.ntmps20
  go_wp2_with fail
  refine (HV.out _ ((Below.refl _ _).alloc (Nat.le_refl _) _)).mono ?_
  rintro e w' ⟨rfl, hb'⟩
  go_wp2_with fail
  go_ret
  exact ⟨rfl, ((Below.refl _ _).alloc (Nat.le_refl _) _).trans (hb'.mono (by simp))⟩

set_option maxHeartbeats 1000000 in
theorem within_plain (k n : Int) (s : ByteArray) (a : Option Addr) (l c : Nat) (lists z : Int) (w : World) (h4 : (k == 4) = false) (h3 : (k == 3) = false)
    (h : ∀ w', Below w.heap.size w w' → Calls Tryz.prog 36 #[.agg #[.int .i64 k, .int .i64 n, .string s, .slice a l c]] w' fun e w'' => e = .returned (.int .i64 z) ∧ Below w'.heap.size w' w'') :
    Calls Tryz.prog 20 #[.agg #[.int .i64 k, .int .i64 n, .string s, .slice a l c], .int .i64 lists] w fun e w' => e = .returned (.int .i64 z) ∧ Below w.heap.size w w' := by
  have HV := toHid h
  clear h
  go_enter Tryz.func20, Tryz.ntmps20
  go_wp2_with fail
  refine (HV.out _ ((Below.refl _ _).alloc (Nat.le_refl _) _)).mono ?_
  rintro e w' ⟨rfl, hb'⟩
  go_wp2_with fail
  go_ret
  exact ⟨rfl, ((Below.refl _ _).alloc (Nat.le_refl _) _).trans (hb'.mono (by simp))⟩

set_option maxHeartbeats 1000000 in
theorem check_of (v0 v1 : Int) (s : ByteArray) (a : Option Addr) (l c : Nat) (z : Int) (w : World)
    (h : ∀ w', Below w.heap.size w w' → Calls Tryz.prog 20 #[.agg #[.int .i64 v0, .int .i64 v1, .string s, .slice a l c], .int .i64 0] w' fun e w'' => e = .returned (.int .i64 z) ∧ Below w'.heap.size w' w'') :
    Calls Tryz.prog 8 #[.agg #[.int .i64 v0, .int .i64 v1, .string s, .slice a l c]] w fun e w' => e = .returned (.int .i64 z) ∧ Below w.heap.size w w' := by
  have HV := toHid h
  clear h
  go_enter Tryz.func8, Tryz.ntmps8
  go_wp2_with fail
  refine (HV.out _ ((Below.refl _ _).alloc (Nat.le_refl _) _)).mono ?_
  rintro e w' ⟨rfl, hb'⟩
  go_wp2_with fail
  go_ret
  exact ⟨rfl, ((Below.refl _ _).alloc (Nat.le_refl _) _).trans (hb'.mono (by simp))⟩

set_option maxHeartbeats 1000000 in
/-- A value that is neither a list nor a text. -/
theorem checkPlain_any (k n : Int) (s : ByteArray) (a : Option Addr) (l c : Nat) (z : Int) (w : World)
    (hz0 : (k = 0 ∧ n = 0 ∨ k = 1 ∧ (n = 0 ∨ n = 1) ∨ k = 2) → s = ⟨#[]⟩ → l = 0 → z = 0)
    (hz1 : ¬ (k = 0 ∧ n = 0 ∨ k = 1 ∧ (n = 0 ∨ n = 1) ∨ k = 2) → z = 6) (hz2 : s ≠ ⟨#[]⟩ → z = 6) (hz3 : l ≠ 0 → z = 6) (hl : l ≤ 9223372036854775807) :
    Calls Tryz.prog 36 #[.agg #[.int .i64 k, .int .i64 n, .string s, .slice a l c]] w fun e w' => e = .returned (.int .i64 z) ∧ Below w.heap.size w w' := by
  have hB : ∀ o, Below w.heap.size w (w.alloc o) := fun o => (Below.refl _ _).alloc (Nat.le_refl _) _
  by_cases hk : (k = 0 ∧ n = 0 ∨ k = 1 ∧ (n = 0 ∨ n = 1) ∨ k = 2)
  · by_cases hs : s = ⟨#[]⟩
    · by_cases hl0 : l = 0
      · have H := toHid (hz0 hk hs hl0)
        clear hz0 hz1 hz2 hz3
        subst hs
        subst hl0
        rcases hk with ⟨rfl, rfl⟩ | ⟨rfl, rfl | rfl⟩ | rfl
        all_goals
          go_enter Tryz.func36, Tryz.ntmps36
          go_wp2
          go_ret
          exact ⟨ret_int (by rw [H.out]), hB _⟩
      · have H := toHid (hz3 hl0)
        have hl1 : (0 : Int) < l := by omega
        clear hz0 hz1 hz2 hz3 hl0
        subst hs
        rcases hk with ⟨rfl, rfl⟩ | ⟨rfl, rfl | rfl⟩ | rfl
        all_goals
          go_enter Tryz.func36, Tryz.ntmps36
          go_wp2
          go_ret
          exact ⟨ret_int (by rw [H.out]), hB _⟩
    · have H := toHid (hz2 hs)
      have hs' := isEmpty_no hs
      clear hz0 hz1 hz2 hz3 hs
      rcases hk with ⟨rfl, rfl⟩ | ⟨rfl, rfl | rfl⟩ | rfl
      all_goals
        go_enter Tryz.func36, Tryz.ntmps36
        go_wp2
        go_ret
        exact ⟨ret_int (by rw [H.out]), hB _⟩
  · have H := toHid (hz1 hk)
    clear hz0 hz1 hz2 hz3
    by_cases k0 : k = 0
    · subst k0
      have n0 : (n == 0) = false := by simp; omega
      clear hk
      go_enter Tryz.func36, Tryz.ntmps36
      go_wp2
      go_ret
      exact ⟨ret_int (by rw [H.out]), hB _⟩
    · by_cases k1 : k = 1
      · subst k1
        have n0 : (n == 0) = false := by simp; omega
        have n1 : (n == 1) = false := by simp; omega
        clear hk
        go_enter Tryz.func36, Tryz.ntmps36
        go_wp2
        go_ret
        exact ⟨ret_int (by rw [H.out]), hB _⟩
      · have e0 : (k == 0) = false := by simpa using k0
        have e1 : (k == 1) = false := by simpa using k1
        have e2 : (k == 2) = false := by simp; omega
        clear hk k0 k1
        go_enter Tryz.func36, Tryz.ntmps36
        go_wp2
        go_ret
        exact ⟨ret_int (by rw [H.out]), hB _⟩

end Go.Proofs.YtonjeaoagpelmaaGreatDoor
