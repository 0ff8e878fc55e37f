/-
  What is proved here: slices.Equal of two slices of ints that hold the same numbers answers true, and the function Names answers true, whatever the world in which it is called; nothing that was there is changed.
-/
import Derived.Test.YtfmbopecefapjaaRows
import Derived.WalkKit
import Derived.ProofKit
import Derived.Shelf.RegionOpenPlain
import Derived.Deep.LoopGhost
import Derived.Deep.Draws
namespace Go.Proofs.Ytfmbopecefapjaa
open Go.RowKit Go.Shelf

set_option maxHeartbeats 2000000 in
set_option maxRecDepth 100000 in
theorem equal_same (b1 b2 n c d : Nat) (xs : List Int) (w : World) (hx : n ≤ xs.length) (hbig : n ≤ 9223372036854775807) (hc1 : ∀ j, j < n → w.cell? ⟨b1, j, none⟩ = some (.int .i64 (xs.getD j 0))) (hc2 : ∀ j, j < n → w.cell? ⟨b2, j, none⟩ = some (.int .i64 (xs.getD j 0))) :
    Calls Try.prog 4 #[.slice (some ⟨b1, 0, none⟩) n c, .slice (some ⟨b2, 0, none⟩) n d] w fun e w' => e = .returned (.bool true) ∧ ∃ q, w' = w.drewN q := by
  go_enter Try.func4, Try.ntmps4
  go_wp2
  go_loopg [13] n (fun g s13 wr => ∃ k q : Nat, k ≤ n ∧ n - k ≤ g ∧ s13 = .int .i64 k ∧ wr = w.drewN q)
  case atStart => exact ⟨0, 0, Nat.zero_le _, by omega, rfl, rfl⟩
  case round =>
    obtain ⟨k, q, hk, hg, rfl, rfl⟩ := hrel
    by_cases hlt : k < n
    · have g1 := hc1 k hlt
      have g2 := hc2 k hlt
      clear hc1 hc2
      generalize xs.getD k 0 = x at g1 g2
      go_wp2_with fail
      go_region
      go_wp2
      go_roundg (n - (k + 1))
      case measure => omega
      case rel => exact ⟨k + 1, q + 1, by omega, by omega, by go_num, rfl⟩
    · have : k = n := by omega
      subst this
      clear hc1 hc2
      go_wp2
      go_ret
      exact ⟨rfl, q, rfl⟩


theorem errs_cell (w : World) (k : Nat) (h : k < 13) :
    (w.alloc (Obj.cells #[Value.int IntKind.i64 0, Value.int IntKind.i64 1, Value.int IntKind.i64 2, Value.int IntKind.i64 3, Value.int IntKind.i64 4, Value.int IntKind.i64 5, Value.int IntKind.i64 6, Value.int IntKind.i64 7, Value.int IntKind.i64 8, Value.int IntKind.i64 9, Value.int IntKind.i64 10, Value.int IntKind.i64 11, Value.int IntKind.i64 12] 22)).cell? ⟨w.heap.size, k, none⟩ = some (.int .i64 k) := by
  rw [World.cell?_alloc_new]
  have : k = 0 ∨ k = 1 ∨ k = 2 ∨ k = 3 ∨ k = 4 ∨ k = 5 ∨ k = 6 ∨ k = 7 ∨ k = 8 ∨ k = 9 ∨ k = 10 ∨ k = 11 ∨ k = 12 := by omega
  rcases this with rfl | rfl | rfl | rfl | rfl | rfl | rfl | rfl | rfl | rfl | rfl | rfl | rfl <;> rfl

theorem ints_new (w : World) (l : List Int) (t : TypeId) (n j : Nat) (hn : n = w.heap.size) (hj : j < l.length) :
    (w.alloc (.cells (l.map (Value.int .i64)).toArray t)).cell? ⟨n, j, none⟩ = some (.int .i64 (l.getD j 0)) := by
  subst hn
  rw [World.cell?_alloc_new]
  simp [hj]

theorem cell_past (w : World) (o : Obj) (n j : Nat) (h : n < w.heap.size) : (w.alloc o).cell? ⟨n, j, none⟩ = w.cell? ⟨n, j, none⟩ := by
  exact World.cell?_alloc_lt w o (a := ⟨n, j, none⟩) h

theorem cell_drawn (w : World) (q n j : Nat) : (w.drewN q).cell? ⟨n, j, none⟩ = w.cell? ⟨n, j, none⟩ := rfl

def limits : List Int := [4000, 6, 30, 40, 60, 6, 4, 12, 20, 4, 5, 2000, 6, 4, 40, 8000, 60]
def kinds : List Int := [0, 1, 2, 3, 4, 1, 2, 3, 4, 5, 6, 7, 1, 2, 3, 4, 1, 2, 3, 4, 5, 6, 1, 2, 3]

theorem drewN_grown {w w' : World} (h : Grown w w') (q : Nat) : Grown w (w'.drewN q) := h

set_option maxHeartbeats 2000000 in
set_option maxRecDepth 100000 in
theorem names_true (w : World) :
    Calls Try.prog 3 #[] w fun e w' => e = .returned (.bool true) ∧ Grown w w' := by
  go_enter Try.func3, Try.ntmps3
  go_wp2_with fail
  go_loopg [9] 13 (fun g s9 wr => ∃ k : Nat, k ≤ 13 ∧ 13 - k ≤ g ∧ s9 = .int .i64 k ∧ wr = (w.alloc (Obj.cells #[Value.int IntKind.i64 0, Value.int IntKind.i64 1, Value.int IntKind.i64 2, Value.int IntKind.i64 3, Value.int IntKind.i64 4, Value.int IntKind.i64 5, Value.int IntKind.i64 6, Value.int IntKind.i64 7, Value.int IntKind.i64 8, Value.int IntKind.i64 9, Value.int IntKind.i64 10, Value.int IntKind.i64 11, Value.int IntKind.i64 12] 22)))
  case atStart => exact ⟨0, Nat.zero_le _, by omega, rfl, rfl⟩
  case round =>
    obtain ⟨k, hk, hg, rfl, rfl⟩ := hrel
    by_cases hlt : k < 13
    · have hc := errs_cell w k hlt
      go_wp2_with fail
      go_roundg (13 - (k + 1))
      case measure => omega
      case rel => exact ⟨k + 1, by omega, by omega, by go_num, rfl⟩
    · have : k = 13 := by omega
      subst this
      go_wp2_with fail
      refine (equal_same _ _ 17 _ _ limits _ (by decide) (by omega) ?_ ?_).mono ?_
      · intro j hj
        exact (cell_past _ _ _ _ (by simp)).trans ((cell_past _ _ _ _ (by simp)).trans (ints_new _ limits 3 _ j (by simp) hj))
      · intro j hj
        exact ints_new _ limits 3 _ j (by simp) hj
      rintro e w' ⟨rfl, q, rfl⟩
      go_wp2_with fail
      refine (equal_same _ _ 25 _ _ kinds _ (by decide) (by omega) ?_ ?_).mono ?_
      · intro j hj
        exact (cell_past _ _ _ _ (by simp)).trans ((cell_drawn _ _ _ _).trans ((cell_past _ _ _ _ (by simp)).trans (ints_new _ kinds 3 _ j (by simp) hj)))
      · intro j hj
        exact ints_new _ kinds 3 _ j (by simp) hj
      rintro e w' ⟨rfl, q2, rfl⟩
      go_wp2_with fail
      go_ret
      exact ⟨rfl, by repeat (first | exact Grown.refl _ | apply drewN_grown | apply Grown.alloc)⟩
end Go.Proofs.Ytfmbopecefapjaa
