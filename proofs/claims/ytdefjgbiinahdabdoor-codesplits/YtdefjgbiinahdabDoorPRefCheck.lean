/-
  What is proved here: see the remark of the text RefCheck (the parts of it that this seat needs).
-/
import Derived.Test.YtdefjgbiinahdabDoorPOrder
namespace Go.Proofs.YtdefjgbiinahdabDoor
open Go.RowKit
set_option linter.unusedVariables false

set_option maxHeartbeats 2000000 in
theorem checkList_many (k n : Int) (s : ByteArray) (a : Option Addr) (l c : Nat) (lists : Int) (w : World) (hl : l ≤ 9223372036854775807) (h : 30 < l ∨ 6 ≤ lists) :
    Calls Tryd.prog 21 #[.agg #[.int .i64 k, .int .i64 n, .string s, .slice a l c], .int .i64 lists] w fun e w' => e = .returned (.int .i64 2) ∧ Below w.heap.size w w' := by
  by_cases h1 : 30 < l
  · have h1' : (30 : Int) < (l : Int) := by omega
    clear h h1
    go_enter Tryd.func21, Tryd.ntmps21
    go_wp2_with fail
    go_ret
    exact ⟨rfl, (Below.refl _ _).alloc (Nat.le_refl _) _⟩
  · have h1' : ¬ (30 : Int) < (l : Int) := by omega
    have h2 : (6 : Int) ≤ lists := by omega
    clear h h1
    go_enter Tryd.func21, Tryd.ntmps21
    go_wp2_with fail
    go_ret
    exact ⟨rfl, (Below.refl _ _).alloc (Nat.le_refl _) _⟩

set_option maxHeartbeats 2000000 in
set_option maxRecDepth 100000 in
theorem checkList_empty (k n : Int) (s : ByteArray) (a : Option Addr) (c : Nat) (lists z : Int) (w : World) (hl : lists < 6)
    (hz0 : n = 0 → s = ⟨#[]⟩ → z = 0) (hz1 : n ≠ 0 → z = 6) (hz2 : s ≠ ⟨#[]⟩ → z = 6) :
    Calls Tryd.prog 21 #[.agg #[.int .i64 k, .int .i64 n, .string s, .slice a 0 c], .int .i64 lists] w fun e w' => e = .returned (.int .i64 z) ∧ Below w.heap.size w w' := by
  have hB : ∀ o, Below w.heap.size w (w.alloc o) := fun o => (Below.refl _ _).alloc (Nat.le_refl _) _
  have HZ0 := toHid hz0
  have HZ1 := toHid hz1
  have HZ2 := toHid hz2
  clear hz0 hz1 hz2
  go_enter Tryd.func21, Tryd.ntmps21
  go_wp2_with fail
  go_loopg [19] 0 (fun g s19 wr => s19 = .int .i64 0 ∧ wr = w.alloc (.cells #[.int .i64 k, .int .i64 n, .string s, .slice a 0 c] 24))
  case atStart => exact ⟨rfl, rfl⟩
  case round =>
    obtain ⟨rfl, rfl⟩ := hrel
    by_cases hn : n = 0
    · subst hn
      by_cases hs : s = ⟨#[]⟩
      · subst hs
        have H3 := toHid (HZ0.out rfl rfl)
        clear HZ0 HZ1 HZ2
        go_wp2_with fail
        go_ret
        exact ⟨ret_int (by rw [H3.out]), hB _⟩
      · have H3 := toHid (HZ2.out hs)
        have hs' := isEmpty_no hs
        clear hs HZ0 HZ1 HZ2
        go_wp2_with fail
        go_ret
        exact ⟨ret_int (by rw [H3.out]), hB _⟩
    · have H3 := toHid (HZ1.out hn)
      clear HZ0 HZ1 HZ2
      go_wp2_with fail
      go_ret
      exact ⟨ret_int (by rw [H3.out]), hB _⟩

end Go.Proofs.YtdefjgbiinahdabDoor
