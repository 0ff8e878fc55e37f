/-
  What is proved here: the law ValueCheck answers true of every value that lies in memory, wherever the tables that Go's library reads lie as they were laid; what was there is as it was.
-/
import Derived.Test.YtkllapibpcgllaaDoorBoth
import Derived.Deep.RegionHeld3
namespace Go.Proofs.YtkllapibpcgllaaDoor
open Go.RowKit
set_option linter.unusedVariables false

set_option maxHeartbeats 4000000 in
set_option maxRecDepth 100000 in
theorem law_check (B : Nat) (k n : Int) (s : ByteArray) (a : Option Addr) (l c : Nat) (w : World) (hB : B ≤ w.heap.size) (hT : Tabs B w) (hP : Pow10 B w) (hf : Fine w 6 s a l) :
    Calls Tryd.prog 3 #[.agg #[.int .i64 k, .int .i64 n, .string s, .slice a l c]] w fun e w' => e = .returned (.bool true) ∧ Below w.heap.size w w' := by
  obtain ⟨er, hb⟩ := both_all B w hB hT 6 0 rfl k n s a l c hf.bounds.2 hf
  have hC : Hid (∀ W, Below w.heap.size w W → Calls Tryd.prog 9 #[.agg #[.int .i64 k, .int .i64 n, .string s, .slice a l c]] W fun e w' => e = .returned (.int .i64 er) ∧ Below W.heap.size W w') := fun W kW => check_of k n s a l c er W fun w2 k2 => (hb w2 (below_two kW k2)).1
  have hR : Hid (∀ W, Below w.heap.size w W → Calls Tryd.prog 10 #[.agg #[.int .i64 k, .int .i64 n, .string s, .slice a l c], .int .i64 1] W fun e w' => e = .returned (.int .i64 er) ∧ Below W.heap.size W w') := fun W kW => (hb W kW).2
  have hV : Hid (∀ W, Below w.heap.size w W → Calls Tryd.prog 8 #[] W fun e w' => e = .returned (.bool true) ∧ Below W.heap.size W w') := fun W kW => valued_true B W (by have := kW.size; omega) (hT.below (kW.mono hB)) (hP.below (kW.mono hB))
  clear hb hT hP hf
  go_enter Tryd.func3, Tryd.ntmps3
  go_wp2_with fail
  have hx := alloc_new w (.cells #[.int .i64 k, .int .i64 n, .string s, .slice a l c] 24)
  have x0 : (w.alloc (.cells #[.int .i64 k, .int .i64 n, .string s, .slice a l c] 24)).cell? ⟨w.heap.size, 0, none⟩ = some (.int .i64 k) := cell_of hx 0
  have x1 : (w.alloc (.cells #[.int .i64 k, .int .i64 n, .string s, .slice a l c] 24)).cell? ⟨w.heap.size, 1, none⟩ = some (.int .i64 n) := cell_of hx 1
  have x2 : (w.alloc (.cells #[.int .i64 k, .int .i64 n, .string s, .slice a l c] 24)).cell? ⟨w.heap.size, 2, none⟩ = some (.string s) := cell_of hx 2
  have x3 : (w.alloc (.cells #[.int .i64 k, .int .i64 n, .string s, .slice a l c] 24)).cell? ⟨w.heap.size, 3, none⟩ = some (.slice a l c) := cell_of hx 3
  have b0 : Below w.heap.size w (w.alloc (.cells #[.int .i64 k, .int .i64 n, .string s, .slice a l c] 24)) := (Below.refl _ _).alloc (Nat.le_refl _) _
  have s7 : w.heap.size < (w.alloc (.cells #[.int .i64 k, .int .i64 n, .string s, .slice a l c] 24)).heap.size := by simp
  clear hx
  generalize w.alloc (.cells #[.int .i64 k, .int .i64 n, .string s, .slice a l c] 24) = W at x0 x1 x2 x3 b0 s7 ⊢
  have D0 : Below W.heap.size W W.drew := (Below.refl _ _).drew
  have hm : ∃ m, m = w.heap.size := ⟨_, rfl⟩
  go_region_held3 (fun w' => w'.cell? ⟨w.heap.size, 0, none⟩ = some (.int .i64 k) ∧ w'.cell? ⟨w.heap.size, 1, none⟩ = some (.int .i64 n) ∧ w'.cell? ⟨w.heap.size, 2, none⟩ = some (.string s) ∧ w'.cell? ⟨w.heap.size, 3, none⟩ = some (.slice a l c))
    (first
      | exact S3
      | exact S2
      | exact S1
      | exact ⟨x0, x1, x2, x3⟩
      | go_keep)
    (first
      | (go_at_call 8; refine (hV.out _ (below_two b0 D0)).mono ?_; rintro e u1 ⟨rfl, h1⟩; have k1 : Below W.heap.size W u1 := D0.trans h1; have S1 : u1.cell? ⟨w.heap.size, 0, none⟩ = some (.int .i64 k) ∧ u1.cell? ⟨w.heap.size, 1, none⟩ = some (.int .i64 n) ∧ u1.cell? ⟨w.heap.size, 2, none⟩ = some (.string s) ∧ u1.cell? ⟨w.heap.size, 3, none⟩ = some (.slice a l c) := ⟨(k1.cell (p := ⟨w.heap.size, 0, none⟩) s7).trans x0, (k1.cell (p := ⟨w.heap.size, 1, none⟩) s7).trans x1, (k1.cell (p := ⟨w.heap.size, 2, none⟩) s7).trans x2, (k1.cell (p := ⟨w.heap.size, 3, none⟩) s7).trans x3⟩)
      | (go_at_call 9; refine (hC.out _ (below_two b0 k1)).mono ?_; rintro e u2 ⟨rfl, h2⟩; have k2 : Below W.heap.size W u2 := below_two k1 h2; have S2 : u2.cell? ⟨w.heap.size, 0, none⟩ = some (.int .i64 k) ∧ u2.cell? ⟨w.heap.size, 1, none⟩ = some (.int .i64 n) ∧ u2.cell? ⟨w.heap.size, 2, none⟩ = some (.string s) ∧ u2.cell? ⟨w.heap.size, 3, none⟩ = some (.slice a l c) := ⟨(k2.cell (p := ⟨w.heap.size, 0, none⟩) s7).trans x0, (k2.cell (p := ⟨w.heap.size, 1, none⟩) s7).trans x1, (k2.cell (p := ⟨w.heap.size, 2, none⟩) s7).trans x2, (k2.cell (p := ⟨w.heap.size, 3, none⟩) s7).trans x3⟩)
      | (go_at_call 10; refine (hR.out _ (below_two b0 k2)).mono ?_; rintro e u3 ⟨rfl, h3⟩; have k3 : Below W.heap.size W u3 := below_two k2 h3; have S3 : u3.cell? ⟨w.heap.size, 0, none⟩ = some (.int .i64 k) ∧ u3.cell? ⟨w.heap.size, 1, none⟩ = some (.int .i64 n) ∧ u3.cell? ⟨w.heap.size, 2, none⟩ = some (.string s) ∧ u3.cell? ⟨w.heap.size, 3, none⟩ = some (.slice a l c) := ⟨(k3.cell (p := ⟨w.heap.size, 0, none⟩) s7).trans x0, (k3.cell (p := ⟨w.heap.size, 1, none⟩) s7).trans x1, (k3.cell (p := ⟨w.heap.size, 2, none⟩) s7).trans x2, (k3.cell (p := ⟨w.heap.size, 3, none⟩) s7).trans x3⟩))
  all_goals
    go_wp2_with fail
    go_ret
    exact ⟨rfl, below_two b0 k3⟩
end Go.Proofs.YtkllapibpcgllaaDoor
