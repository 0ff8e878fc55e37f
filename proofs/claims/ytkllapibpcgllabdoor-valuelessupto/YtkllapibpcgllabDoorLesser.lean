/-
  What is proved here: what value.truth and value.Less answer of any two values that lie in memory.
-/
import Derived.Test.YtkllapibpcgllabDoorWalk
namespace Go.Proofs.YtkllapibpcgllabDoor
open Go.RowKit
set_option linter.unusedVariables false

theorem below2 {w w1 w2 : World} (h : Below w.heap.size w w1) (k : Below w1.heap.size w1 w2) : Below w.heap.size w w2 := h.trans (k.mono h.size)

set_option maxHeartbeats 1000000 in
theorem truth_any (h : Bool) (w : World) : Calls Tryd.prog 7 #[.bool h] w fun e w' => e = .returned (.agg #[.int .i64 1, .int .i64 (if h then 1 else 0), .string ⟨#[]⟩, .slice none 0 0]) ∧ Below w.heap.size w w' := by
  cases h with
  | true =>
    go_enter Tryd.func7, Tryd.ntmps7
    go_wp2_with fail
    exact bodyPost_ret (v := .agg #[.int .i64 1, .int .i64 1, .string ⟨#[]⟩, .slice none 0 0]) (by simp [results, Tryd.results7, go_sem]) rfl ⟨rfl, (Below.refl _ _).alloc (Nat.le_refl _) _⟩
  | false =>
    go_enter Tryd.func7, Tryd.ntmps7
    go_wp2_with fail
    exact bodyPost_ret (v := .agg #[.int .i64 1, .int .i64 0, .string ⟨#[]⟩, .slice none 0 0]) (by simp [results, Tryd.results7, go_sem]) rfl ⟨rfl, (Below.refl _ _).alloc (Nat.le_refl _) _⟩

set_option maxHeartbeats 2000000 in
set_option maxRecDepth 100000 in
theorem less_null (k n : Int) (s : ByteArray) (a : Option Addr) (l c : Nat) (k' n' : Int) (s' : ByteArray) (a' : Option Addr) (l' c' : Nat) (w : World) (h : k ≠ k' ∨ (k ≠ 2 ∧ k ≠ 3)) :
    Calls Tryd.prog 4 #[.agg #[.int .i64 k, .int .i64 n, .string s, .slice a l c], .agg #[.int .i64 k', .int .i64 n', .string s', .slice a' l' c']] w fun e w' => e = .returned (.agg #[.int .i64 0, .int .i64 0, .string ⟨#[]⟩, .slice none 0 0]) ∧ Below w.heap.size w w' := by
  go_enter Tryd.func4, Tryd.ntmps4
  go_upto_region 1 with fail
  go_cut [19] (fun s19 wx => s19 = .bool true ∧ wx = ((w.alloc (.cells #[.int .i64 k, .int .i64 n, .string s, .slice a l c] 24)).alloc (.cells #[.int .i64 k', .int .i64 n', .string s', .slice a' l' c'] 24)).alloc (.cells #[.int .i64 0, .int .i64 0, .string ⟨#[]⟩, .slice none 0 0] 24))
  case first =>
    by_cases e1 : k = k'
    · subst e1
      have h2 : (k != 2) = true := by simp; omega
      have h3 : (k != 3) = true := by simp; omega
      clear h
      go_wp2_with fail
      go_meet
      exact ⟨rfl, rfl⟩
    · have h2 : (k != k') = true := by simp [e1]
      clear h
      go_wp2_with fail
      go_meet
      exact ⟨rfl, rfl⟩
  case rest =>
    obtain ⟨rfl, rfl⟩ := hcut
    go_wp2_with fail
    exact bodyPost_ret (v := .agg #[.int .i64 0, .int .i64 0, .string ⟨#[]⟩, .slice none 0 0]) (by simp [results, Tryd.results4, go_sem]) rfl ⟨rfl, (((Below.refl _ _).alloc (Nat.le_refl _) _).alloc (by simp) _).alloc (by simp; omega) _⟩

/-- Three boxes, the third of them. -/
theorem alloc_three (w : World) (o1 o2 o3 : Obj) : (((w.alloc o1).alloc o2).alloc o3).heap[w.heap.size + 1 + 1]? = some o3 := by
  have := alloc_new ((w.alloc o1).alloc o2) o3
  rw [show ((w.alloc o1).alloc o2).heap.size = w.heap.size + 1 + 1 from by simp] at this
  exact this

set_option maxHeartbeats 4000000 in
set_option maxRecDepth 100000 in
theorem less_ord (k n : Int) (s : ByteArray) (a : Option Addr) (l c : Nat) (n' : Int) (s' : ByteArray) (a' : Option Addr) (l' c' : Nat) (z : Int) (w : World) (h : k = 2 ∨ k = 3)
    (hO : ∀ W, Below w.heap.size w W → Calls Tryd.prog 8 #[.agg #[.int .i64 k, .int .i64 n, .string s, .slice a l c], .agg #[.int .i64 k, .int .i64 n', .string s', .slice a' l' c']] W fun e w' => e = .returned (.int .i64 z) ∧ Below W.heap.size W w') :
    Calls Tryd.prog 4 #[.agg #[.int .i64 k, .int .i64 n, .string s, .slice a l c], .agg #[.int .i64 k, .int .i64 n', .string s', .slice a' l' c']] w fun e w' => e = .returned (.agg #[.int .i64 1, .int .i64 (if z < 0 then 1 else 0), .string ⟨#[]⟩, .slice none 0 0]) ∧ Below w.heap.size w w' := by
  have HO := toHid hO
  obtain ⟨y, hy⟩ : ∃ y : Int, y = (if z < 0 then 1 else 0) := ⟨_, rfl⟩
  rw [← hy]
  have cT : Hid (∀ W, Calls Tryd.prog 7 #[.bool (decide (z < 0))] W fun e w' => e = .returned (.agg #[.int .i64 1, .int .i64 y, .string ⟨#[]⟩, .slice none 0 0]) ∧ Below W.heap.size W w') := fun W => by
    have := truth_any (decide (z < 0)) W
    simp only [decide_eq_true_eq, ← hy] at this
    exact this
  clear hO hy
  go_enter Tryd.func4, Tryd.ntmps4
  go_upto_region 1 with fail
  go_cut [19] (fun s19 wx => s19 = .bool false ∧ wx = ((w.alloc (.cells #[.int .i64 k, .int .i64 n, .string s, .slice a l c] 24)).alloc (.cells #[.int .i64 k, .int .i64 n', .string s', .slice a' l' c'] 24)).alloc (.cells #[.int .i64 0, .int .i64 0, .string ⟨#[]⟩, .slice none 0 0] 24))
  case first =>
    rcases h with rfl | rfl
    · go_wp2_with fail
      go_meet
      exact ⟨rfl, rfl⟩
    · go_wp2_with fail
      go_meet
      exact ⟨rfl, rfl⟩
  case rest =>
    obtain ⟨rfl, rfl⟩ := hcut
    have b0 : Below w.heap.size w (((w.alloc (.cells #[.int .i64 k, .int .i64 n, .string s, .slice a l c] 24)).alloc (.cells #[.int .i64 k, .int .i64 n', .string s', .slice a' l' c'] 24)).alloc (.cells #[.int .i64 0, .int .i64 0, .string ⟨#[]⟩, .slice none 0 0] 24)) := (((Below.refl _ _).alloc (Nat.le_refl _) _).alloc (by simp) _).alloc (by simp; omega) _
    have hbox := alloc_three w (.cells #[.int .i64 k, .int .i64 n, .string s, .slice a l c] 24) (.cells #[.int .i64 k, .int .i64 n', .string s', .slice a' l' c'] 24) (.cells #[.int .i64 0, .int .i64 0, .string ⟨#[]⟩, .slice none 0 0] 24)
    have hsz : (((w.alloc (.cells #[.int .i64 k, .int .i64 n, .string s, .slice a l c] 24)).alloc (.cells #[.int .i64 k, .int .i64 n', .string s', .slice a' l' c'] 24)).alloc (.cells #[.int .i64 0, .int .i64 0, .string ⟨#[]⟩, .slice none 0 0] 24)).heap.size = w.heap.size + 1 + 1 + 1 := by simp
    go_wp2_with fail
    refine (HO.out _ b0).mono ?_
    rintro e w1 ⟨rfl, k1⟩
    have c1 := (below2 b0 k1)
    have hb1 := (k1.block (w.heap.size + 1 + 1) (by omega)).trans hbox
    have hs1 := k1.size
    go_wp2_with fail
    refine (cT.out _).mono ?_
    rintro e w2 ⟨rfl, k2⟩
    have c2 := (below2 c1 k2)
    have hb2 := (k2.block (w.heap.size + 1 + 1) (by omega)).trans hb1
    have x0 := cell_of hb2 0
    have x1 := cell_of hb2 1
    have x2 := cell_of hb2 2
    have x3 := cell_of hb2 3
    have y0 := free_of hb2 0
    have y1 := free_of hb2 1
    have y2 := free_of hb2 2
    have y3 := free_of hb2 3
    simp at x0 x1 x2 x3
    have HB := toHid hb2
    clear hb2 hb1 hbox hsz
    go_wp2_with fail
    have zz := put4_here HB.out (.int .i64 1) (.int .i64 y) (.string ⟨#[]⟩) (.slice none 0 0)
    have zb := put4_below w2 (w.heap.size + 1 + 1) (.int .i64 1) (.int .i64 y) (.string ⟨#[]⟩) (.slice none 0 0)
    have t0 := cell_of zz 0
    have t1 := cell_of zz 1
    have t2 := cell_of zz 2
    have t3 := cell_of zz 3
    have eP : (((w2.setCell ⟨w.heap.size + 1 + 1, 0, none⟩ (.int .i64 1)).setCell ⟨w.heap.size + 1 + 1, 1, none⟩ (.int .i64 y)).setCell ⟨w.heap.size + 1 + 1, 2, none⟩ (.string ⟨#[]⟩)).setCell ⟨w.heap.size + 1 + 1, 3, none⟩ (.slice none 0 0) = put4 w2 (w.heap.size + 1 + 1) (.int .i64 1) (.int .i64 y) (.string ⟨#[]⟩) (.slice none 0 0) := rfl
    rw [eP]
    clear eP
    generalize put4 w2 (w.heap.size + 1 + 1) (.int .i64 1) (.int .i64 y) (.string ⟨#[]⟩) (.slice none 0 0) = W9 at zz zb t0 t1 t2 t3 ⊢
    simp at t0 t1 t2 t3
    exact bodyPost_ret (v := .agg #[.int .i64 1, .int .i64 y, .string ⟨#[]⟩, .slice none 0 0]) (by simp [results, Tryd.results4, go_sem, t0, t1, t2, t3]) rfl ⟨rfl, c2.trans (zb.mono (by omega))⟩
end Go.Proofs.YtkllapibpcgllabDoor
