/-
  What is proved here: what cmp.Compare of two texts and cmp.Or of three numbers answer, and what value.orderPlain answers: the order by kind, then by number, then by text; what was there is as it was.
-/
import Derived.Test.YtkllapibpcgllabDoorOrder
import Derived.Deep.RegionHeld3
import Derived.Deep.DeepFit
namespace Go.Proofs.YtkllapibpcgllabDoor
open Go.RowKit
set_option linter.unusedVariables false

/-- The order of two texts, byte by byte. -/
def cmpS (a b : ByteArray) : Int := if Op.bytesLess a.toList b.toList then -1 else if a.toList == b.toList then 0 else 1

/-- The order of two numbers. -/
def cmpI (a b : Int) : Int := if a < b then -1 else if b < a then 1 else 0

/-- By kind, number and text. -/
def cmpP (k n : Int) (s : ByteArray) (k' n' : Int) (s' : ByteArray) : Int := if cmpI k k' = 0 then (if cmpI n n' = 0 then cmpS s s' else cmpI n n') else cmpI k k'

set_option maxHeartbeats 1000000 in
theorem nan_str (s : ByteArray) (w : World) : Calls Tryd.prog 32 #[.string s] w fun e w' => e = .returned (.bool false) ∧ w' = w := by
  go_enter Tryd.func32, Tryd.ntmps32
  go_wp2
  go_ret
  exact ⟨by simp, rfl⟩

set_option maxHeartbeats 2000000 in
theorem compare_str (a b : ByteArray) (w : World) : Calls Tryd.prog 22 #[.string a, .string b] w fun e w' => e = .returned (.int .i64 (cmpS a b)) ∧ w' = w := by
  obtain ⟨z, hz⟩ : ∃ z, z = cmpS a b := ⟨_, rfl⟩
  rw [← hz]
  have HZ := toHid hz
  clear hz
  cases h1 : Op.bytesLess a.toList b.toList with
  | true =>
    have H3 := toHid (show z = -1 by rw [HZ.out]; simp [cmpS, h1])
    clear HZ
    go_enter Tryd.func22, Tryd.ntmps22
    go_wp2_with (go_at_call 32; refine (nan_str _ _).mono ?_; rintro e w' ⟨rfl, rfl⟩)
    go_ret
    exact ⟨ret_int (by rw [H3.out]), rfl⟩
  | false =>
    cases h2 : (a.toList == b.toList) with
    | true =>
      have H3 := toHid (show z = 0 by rw [HZ.out]; simp only [cmpS, h1, h2]; rfl)
      clear HZ
      go_enter Tryd.func22, Tryd.ntmps22
      go_wp2_with (go_at_call 32; refine (nan_str _ _).mono ?_; rintro e w' ⟨rfl, rfl⟩)
      go_ret
      exact ⟨ret_int (by rw [H3.out]), rfl⟩
    | false =>
      have H3 := toHid (show z = 1 by rw [HZ.out]; simp only [cmpS, h1, h2]; rfl)
      clear HZ
      go_enter Tryd.func22, Tryd.ntmps22
      go_wp2_with (go_at_call 32; refine (nan_str _ _).mono ?_; rintro e w' ⟨rfl, rfl⟩)
      go_ret
      exact ⟨ret_int (by rw [H3.out]), rfl⟩

theorem compare_int (a b : Int) (w : World) : Calls Tryd.prog 16 #[.int .i64 a, .int .i64 b] w fun e w' => e = .returned (.int .i64 (cmpI a b)) ∧ w' = w := by
  refine (Tryd.cmp_Compare_int a b w).mono ?_
  rintro e w' ⟨rfl, rfl⟩
  refine ⟨ret_int ?_, rfl⟩
  unfold Lib.compareInt cmpI
  repeat' split <;> first | rfl | omega

set_option maxHeartbeats 2000000 in
set_option maxRecDepth 100000 in
theorem or_three (x y z r : Int) (hr : r = if x = 0 then (if y = 0 then z else y) else x) (b : Nat) (w : World) (h0 : w.cell? ⟨b, 0, none⟩ = some (.int .i64 x)) (h1 : w.cell? ⟨b, 1, none⟩ = some (.int .i64 y)) (h2 : w.cell? ⟨b, 2, none⟩ = some (.int .i64 z)) :
    Calls Tryd.prog 21 #[.slice (some ⟨b, 0, none⟩) 3 3] w fun e w' => e = .returned (.int .i64 r) ∧ w' = w := by
  have HR := toHid hr
  clear hr
  have cell : Hid (∀ k, k < 3 → w.cell? ⟨b, k, none⟩ = some (.int .i64 (if k = 0 then x else if k = 1 then y else z))) := fun k hk => by
    have h3 : k = 0 ∨ k = 1 ∨ k = 2 := by omega
    rcases h3 with rfl | rfl | rfl
    · exact h0
    · exact h1
    · exact h2
  clear h0 h1 h2
  go_enter Tryd.func21, Tryd.ntmps21
  go_wp2_with fail
  go_loopg [8] 3 (fun g s8 wr => ∃ k : Nat, k ≤ 3 ∧ 3 - k ≤ g ∧ s8 = .int .i64 k ∧ wr = w ∧ (0 < k → x = 0) ∧ (1 < k → y = 0) ∧ (2 < k → z = 0))
  case atStart => exact ⟨0, by omega, by omega, rfl, rfl, by omega, by omega, by omega⟩
  case round =>
    obtain ⟨k, hk, hg, rfl, rfl, q0, q1, q2⟩ := hrel
    have Q0 := toHid q0
    have Q1 := toHid q1
    have Q2 := toHid q2
    clear q0 q1 q2
    by_cases hlt : k < 3
    · have hc := cell.out k hlt
      obtain ⟨v, hv⟩ : ∃ v, v = (if k = 0 then x else if k = 1 then y else z) := ⟨_, rfl⟩
      rw [← hv] at hc
      have HV := toHid hv
      clear hv
      by_cases he : v = 0
      · have he' : (v != 0) = false := by simp [he]
        have H2 := toHid he
        clear he
        go_wp2_with fail
        go_roundg (3 - (k + 1))
        case measure => omega
        case rel =>
          have hv0 : (if k = 0 then x else if k = 1 then y else z) = 0 := by rw [← HV.out]; exact H2.out
          have h3 : k = 0 ∨ k = 1 ∨ k = 2 := by omega
          refine ⟨k + 1, by omega, by omega, by go_num, rfl, fun _ => ?_, fun hk1 => ?_, fun hk2 => ?_⟩
          · rcases h3 with rfl | rfl | rfl
            · simpa using hv0
            · exact Q0.out (by omega)
            · exact Q0.out (by omega)
          · rcases h3 with rfl | rfl | rfl
            · omega
            · simpa using hv0
            · exact Q1.out (by omega)
          · rcases h3 with rfl | rfl | rfl
            · omega
            · omega
            · simpa using hv0
      · have he' : (v != 0) = true := by simp [he]
        have H2 := toHid he
        clear he
        go_wp2_with fail
        go_ret
        refine ⟨ret_int ?_, rfl⟩
        have hv0 := H2.out
        rw [HV.out] at hv0 ⊢
        rw [HR.out]
        have h3 : k = 0 ∨ k = 1 ∨ k = 2 := by omega
        rcases h3 with rfl | rfl | rfl
        · simp at hv0 ⊢
          simp [hv0]
        · have a0 := Q0.out (by omega)
          simp at hv0 ⊢
          simp [a0, hv0]
        · have a0 := Q0.out (by omega)
          have a1 := Q1.out (by omega)
          simp [a0, a1]
    · have hk3 : k = 3 := by omega
      have HK := toHid hk3
      clear cell
      go_wp2_with fail
      go_ret
      refine ⟨ret_int ?_, rfl⟩
      have e := HK.out
      rw [HR.out, Q0.out (by omega), Q1.out (by omega), Q2.out (by omega)]
      simp

set_option maxHeartbeats 4000000 in
set_option maxRecDepth 100000 in
theorem orderPlain_any (k n : Int) (s : ByteArray) (a : Option Addr) (l c : Nat) (k' n' : Int) (s' : ByteArray) (a' : Option Addr) (l' c' : Nat) (w : World) :
    Calls Tryd.prog 15 #[.agg #[.int .i64 k, .int .i64 n, .string s, .slice a l c], .agg #[.int .i64 k', .int .i64 n', .string s', .slice a' l' c']] w fun e w' => e = .returned (.int .i64 (cmpP k n s k' n' s')) ∧ Below w.heap.size w w' := by
  obtain ⟨z, hz⟩ : ∃ z, z = cmpP k n s k' n' s' := ⟨_, rfl⟩
  rw [← hz]
  obtain ⟨r1, hx1⟩ : ∃ x, cmpI k k' = x := ⟨_, rfl⟩
  obtain ⟨r2, hx2⟩ : ∃ x, cmpI n n' = x := ⟨_, rfl⟩
  obtain ⟨r3, hx3⟩ : ∃ x, cmpS s s' = x := ⟨_, rfl⟩
  have HZ : Hid (z = if r1 = 0 then (if r2 = 0 then r3 else r2) else r1) := by show z = _; rw [hz, cmpP, hx1, hx2, hx3]
  have c1 : Hid (∀ W, Calls Tryd.prog 16 #[.int .i64 k, .int .i64 k'] W fun e w' => e = .returned (.int .i64 r1) ∧ w' = W) := fun W => by rw [← hx1]; exact compare_int k k' W
  have c2 : Hid (∀ W, Calls Tryd.prog 16 #[.int .i64 n, .int .i64 n'] W fun e w' => e = .returned (.int .i64 r2) ∧ w' = W) := fun W => by rw [← hx2]; exact compare_int n n' W
  have c3 : Hid (∀ W, Calls Tryd.prog 22 #[.string s, .string s'] W fun e w' => e = .returned (.int .i64 r3) ∧ w' = W) := fun W => by rw [← hx3]; exact compare_str s s' W
  clear hz hx1 hx2 hx3
  go_enter Tryd.func15, Tryd.ntmps15
  go_wp2_with fail
  have hx := alloc_new w (.cells #[.int .i64 k, .int .i64 n, .string s, .slice a l c] 24)
  have hy := alloc_two w (.cells #[.int .i64 k, .int .i64 n, .string s, .slice a l c] 24) (.cells #[.int .i64 k', .int .i64 n', .string s', .slice a' l' c'] 24)
  have hxx : ∀ o, ((w.alloc (.cells #[.int .i64 k, .int .i64 n, .string s, .slice a l c] 24)).alloc (.cells #[.int .i64 k', .int .i64 n', .string s', .slice a' l' c'] 24)).cell? ⟨w.heap.size, o, none⟩ = (w.alloc (.cells #[.int .i64 k, .int .i64 n, .string s, .slice a l c] 24)).cell? ⟨w.heap.size, o, none⟩ := fun o => cell_past _ _ _ _ (by simp)
  have x0 : (_ : World).cell? _ = some (.int .i64 k) := (hxx 0).trans (cell_of hx 0)
  have x1 : (_ : World).cell? _ = some (.int .i64 n) := (hxx 1).trans (cell_of hx 1)
  have x2 : (_ : World).cell? _ = some (.string s) := (hxx 2).trans (cell_of hx 2)
  have y0 : (_ : World).cell? _ = some (.int .i64 k') := cell_of hy 0
  have y1 : (_ : World).cell? _ = some (.int .i64 n') := cell_of hy 1
  have y2 : (_ : World).cell? _ = some (.string s') := cell_of hy 2
  have b0 : Below w.heap.size w ((w.alloc (.cells #[.int .i64 k, .int .i64 n, .string s, .slice a l c] 24)).alloc (.cells #[.int .i64 k', .int .i64 n', .string s', .slice a' l' c'] 24)) := ((Below.refl _ _).alloc (Nat.le_refl _) _).alloc (by simp) _
  clear hx hy hxx
  generalize (w.alloc (.cells #[.int .i64 k, .int .i64 n, .string s, .slice a l c] 24)).alloc (.cells #[.int .i64 k', .int .i64 n', .string s', .slice a' l' c'] 24) = W at x0 x1 x2 y0 y1 y2 b0 ⊢
  have c4 : Hid (Calls Tryd.prog 21 #[.slice (some ⟨W.heap.size, 0, none⟩) 3 3] (W.alloc (.cells #[.int .i64 r1, .int .i64 r2, .int .i64 r3] 3)).drew fun e w' => e = .returned (.int .i64 z) ∧ w' = (W.alloc (.cells #[.int .i64 r1, .int .i64 r2, .int .i64 r3] 3)).drew) := by
    have hx := alloc_new W (.cells #[.int .i64 r1, .int .i64 r2, .int .i64 r3] 3)
    exact or_three r1 r2 r3 z HZ.out W.heap.size _ (cell_of hx 0) (cell_of hx 1) (cell_of hx 2)
  have bW : Below w.heap.size w (W.alloc (.cells #[.int .i64 r1, .int .i64 r2, .int .i64 r3] 3)).drew := (b0.alloc b0.size _).drew
  go_region_held3 (fun w' => w'.cell? ⟨w.heap.size, 0, none⟩ = some (.int .i64 k) ∧ w'.cell? ⟨w.heap.size, 1, none⟩ = some (.int .i64 n) ∧ w'.cell? ⟨w.heap.size, 2, none⟩ = some (.string s) ∧ w'.cell? ⟨w.heap.size + 1, 0, none⟩ = some (.int .i64 k') ∧ w'.cell? ⟨w.heap.size + 1, 1, none⟩ = some (.int .i64 n') ∧ w'.cell? ⟨w.heap.size + 1, 2, none⟩ = some (.string s'))
    (first
      | exact ⟨x0, x1, x2, y0, y1, y2⟩
      | go_keep)
    (first
      | (go_at_call 16; go_fit (c1.out _); rintro e w' ⟨rfl, rfl⟩)
      | (go_at_call 16; go_fit (c2.out _); rintro e w' ⟨rfl, rfl⟩)
      | (go_at_call 22; go_fit (c3.out _); rintro e w' ⟨rfl, rfl⟩)
      | (go_at_call 21; go_fit c4.out; rintro e w' ⟨rfl, rfl⟩))
  all_goals
    go_wp2_with fail
    go_ret
    exact ⟨rfl, bW⟩
end Go.Proofs.YtkllapibpcgllabDoor
