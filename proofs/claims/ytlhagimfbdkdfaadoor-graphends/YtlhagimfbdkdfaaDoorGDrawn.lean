/-
  What is proved here: the closed fact 'drawn' is true, in every world; what was there is as it was.
-/
import Derived.Test.YtlhagimfbdkdfaaDoorGDrawn1
namespace Go.Proofs.YtlhagimfbdkdfaaDoor
open Go.RowKit
set_option linter.unusedVariables false

theorem same5 (a : Option Addr) (c : Nat) (w : World) : Calls Tryd.prog 21 #[.agg #[.int .i64 2, .int .i64 5, .string ⟨#[]⟩, .slice a 0 c], .agg #[.int .i64 2, .int .i64 5, .string ⟨#[]⟩, .slice none 0 0]] w fun e w' => e = .returned (.bool true) ∧ Below w.heap.size w w' :=
  same_of 2 5 ⟨#[]⟩ a 0 c 2 5 ⟨#[]⟩ none 0 0 0 w fun w' k => order_empty 2 5 ⟨#[]⟩ a none 0 c 0 0 0 w' (by omega) (by omega) (.inl rfl) (fun _ => rfl) (fun h => absurd h (Nat.lt_irrefl _)) (fun h => absurd h (Nat.lt_irrefl _))

theorem equal3 (a : Option Addr) (c b : Nat) (w : World) (h : IntsAt w [3] a 1) (h' : IntsAt w [3] (some ⟨b, 0, none⟩) 1) : Calls Tryd.prog 10 #[.slice a 1 c, .slice (some ⟨b, 0, none⟩) 1 1] w fun e w' => e = .returned (.bool true) ∧ Below w.heap.size w w' :=
  equal_ints [3] [3] a 1 c (some ⟨b, 0, none⟩) 1 1 w h h'

theorem ints3 (w : World) : IntsAt (w.alloc (.cells #[.int .i64 3] 3)) [3] (some ⟨w.heap.size, 0, none⟩) 1 := by
  refine ⟨rfl, by omega, fun _ => ⟨w.heap.size, 0, rfl, by simp, fun i s hs => ?_⟩⟩
  cases i with
  | zero =>
    simp at hs
    subst hs
    exact cell_of (alloc_new w _) 0
  | succ i => simp at hs

set_option maxHeartbeats 8000000 in
set_option maxRecDepth 100000 in
theorem drawn_true (w : World) : Calls Tryd.prog 8 #[] w fun e w' => e = .returned (.bool true) ∧ Below w.heap.size w w' := by
  go_enter Tryd.func8, Tryd.ntmps8
  go_wp2_with fail
  refine (knows_any w).mono ?_
  rintro e w1 ⟨⟨lb, pb, nb, eb, rfl, hk⟩, k1⟩
  have HK := toHid hk
  clear hk
  go_wp2_with fail
  refine (prop_K HK.out).mono ?_
  rintro e w2 ⟨⟨a, c, rfl⟩, k2⟩
  have B2 := toHid (below3 k1 k1.size k2)
  clear k1 k2 HK
  go_wp2_with fail
  have hx := alloc_new w2 (.cells #[.int .i64 2, .int .i64 5, .string ⟨#[]⟩, .slice a 0 c] 54)
  have b3 := B2.out.alloc B2.out.size (.cells #[.int .i64 2, .int .i64 5, .string ⟨#[]⟩, .slice a 0 c] 54)
  have s3 : w2.heap.size < (w2.alloc (.cells #[.int .i64 2, .int .i64 5, .string ⟨#[]⟩, .slice a 0 c] 54)).heap.size := by simp
  have HX := toHid hx
  have B3 := toHid b3
  have S3 := toHid s3
  clear hx b3 s3
  generalize w2.alloc (.cells #[.int .i64 2, .int .i64 5, .string ⟨#[]⟩, .slice a 0 c] 54) = w3 at HX B3 S3 ⊢
  generalize w2.heap.size = m at HX S3 ⊢
  refine (knows_any w3).mono ?_
  rintro e w4 ⟨⟨lb, pb, nb, eb, rfl, hk⟩, k4⟩
  have HK := toHid hk
  clear hk
  go_wp2_with fail
  refine (around_K HK.out).mono ?_
  rintro e w5 ⟨⟨a5, c5, rfl, hi5⟩, k5⟩
  have k35 := below3 k4 k4.size k5
  have B5 := toHid (below3 B3.out B3.out.size k35)
  have X5 := (k35.block m S3.out).trans HX.out
  have s7 : m < w5.heap.size := Nat.lt_of_lt_of_le S3.out k35.size
  have HI5 := toHid hi5
  clear k4 k5 k35 hi5 HK HX S3 B3 B2
  go_wp2_with fail
  have x0 := cell_of X5 0
  have x1 := cell_of X5 1
  have x2 := cell_of X5 2
  have x3 := cell_of X5 3
  simp at x0 x1 x2 x3
  clear X5
  have D0 : Below w5.heap.size w5 w5.drew := (Below.refl _ _).drew
  go_region_held3 (fun w' => w'.cell? ⟨m, 0, none⟩ = some (.int .i64 2) ∧ w'.cell? ⟨m, 1, none⟩ = some (.int .i64 5) ∧ w'.cell? ⟨m, 2, none⟩ = some (.string ⟨#[]⟩) ∧ w'.cell? ⟨m, 3, none⟩ = some (.slice a 0 c))
    (first
      | exact S5
      | exact S4
      | exact S3
      | exact S25
      | exact S2
      | exact S1
      | exact ⟨x0, x1, x2, x3⟩
      | go_keep)
    (first
      | (go_at_call 22; refine (num_any _ _).mono ?_; rintro e u1 ⟨rfl, h1⟩; have k1 : Below w5.heap.size w5 u1 := D0.trans h1; have S1 : u1.cell? ⟨m, 0, none⟩ = some (.int .i64 2) ∧ u1.cell? ⟨m, 1, none⟩ = some (.int .i64 5) ∧ u1.cell? ⟨m, 2, none⟩ = some (.string ⟨#[]⟩) ∧ u1.cell? ⟨m, 3, none⟩ = some (.slice a 0 c) := ⟨(k1.cell (p := ⟨m, 0, none⟩) s7).trans x0, (k1.cell (p := ⟨m, 1, none⟩) s7).trans x1, (k1.cell (p := ⟨m, 2, none⟩) s7).trans x2, (k1.cell (p := ⟨m, 3, none⟩) s7).trans x3⟩)
      | (go_at_call 21; refine (same5 _ _ _).mono ?_; rintro e u2 ⟨rfl, h2⟩; have k2 : Below w5.heap.size w5 u2 := below3 k1 k1.size h2; have S2 : u2.cell? ⟨m, 0, none⟩ = some (.int .i64 2) ∧ u2.cell? ⟨m, 1, none⟩ = some (.int .i64 5) ∧ u2.cell? ⟨m, 2, none⟩ = some (.string ⟨#[]⟩) ∧ u2.cell? ⟨m, 3, none⟩ = some (.slice a 0 c) := ⟨(k2.cell (p := ⟨m, 0, none⟩) s7).trans x0, (k2.cell (p := ⟨m, 1, none⟩) s7).trans x1, (k2.cell (p := ⟨m, 2, none⟩) s7).trans x2, (k2.cell (p := ⟨m, 3, none⟩) s7).trans x3⟩; have k25 : Below w5.heap.size w5 (u2.alloc (.cells #[.int .i64 3] 3)) := k2.alloc k2.size _; have S25 : (u2.alloc (.cells #[.int .i64 3] 3)).cell? ⟨m, 0, none⟩ = some (.int .i64 2) ∧ (u2.alloc (.cells #[.int .i64 3] 3)).cell? ⟨m, 1, none⟩ = some (.int .i64 5) ∧ (u2.alloc (.cells #[.int .i64 3] 3)).cell? ⟨m, 2, none⟩ = some (.string ⟨#[]⟩) ∧ (u2.alloc (.cells #[.int .i64 3] 3)).cell? ⟨m, 3, none⟩ = some (.slice a 0 c) := ⟨(k25.cell (p := ⟨m, 0, none⟩) s7).trans x0, (k25.cell (p := ⟨m, 1, none⟩) s7).trans x1, (k25.cell (p := ⟨m, 2, none⟩) s7).trans x2, (k25.cell (p := ⟨m, 3, none⟩) s7).trans x3⟩)
      | (go_at_call 10; refine (equal3 a5 c5 u2.heap.size (u2.alloc (.cells #[.int .i64 3] 3)) (HI5.out.below k25) (ints3 u2)).mono ?_; rintro e u3 ⟨rfl, h3⟩; have k3 : Below w5.heap.size w5 u3 := below3 k25 k25.size h3; have S3 : u3.cell? ⟨m, 0, none⟩ = some (.int .i64 2) ∧ u3.cell? ⟨m, 1, none⟩ = some (.int .i64 5) ∧ u3.cell? ⟨m, 2, none⟩ = some (.string ⟨#[]⟩) ∧ u3.cell? ⟨m, 3, none⟩ = some (.slice a 0 c) := ⟨(k3.cell (p := ⟨m, 0, none⟩) s7).trans x0, (k3.cell (p := ⟨m, 1, none⟩) s7).trans x1, (k3.cell (p := ⟨m, 2, none⟩) s7).trans x2, (k3.cell (p := ⟨m, 3, none⟩) s7).trans x3⟩)
      | (go_at_call 20; refine (knows_any _).mono ?_; rintro e u4 ⟨⟨lb4, pb4, nb4, eb4, rfl, hk4⟩, h4⟩; have k4 : Below w5.heap.size w5 u4 := below3 k3 k3.size h4; have HK4 := toHid hk4; clear hk4; have S4 : u4.cell? ⟨m, 0, none⟩ = some (.int .i64 2) ∧ u4.cell? ⟨m, 1, none⟩ = some (.int .i64 5) ∧ u4.cell? ⟨m, 2, none⟩ = some (.string ⟨#[]⟩) ∧ u4.cell? ⟨m, 3, none⟩ = some (.slice a 0 c) := ⟨(k4.cell (p := ⟨m, 0, none⟩) s7).trans x0, (k4.cell (p := ⟨m, 1, none⟩) s7).trans x1, (k4.cell (p := ⟨m, 2, none⟩) s7).trans x2, (k4.cell (p := ⟨m, 3, none⟩) s7).trans x3⟩)
      | (go_at_call 13; refine (check_K HK4.out).mono ?_; rintro e u5 ⟨rfl, h5⟩; have k5 : Below w5.heap.size w5 u5 := below3 k4 k4.size h5; have S5 : u5.cell? ⟨m, 0, none⟩ = some (.int .i64 2) ∧ u5.cell? ⟨m, 1, none⟩ = some (.int .i64 5) ∧ u5.cell? ⟨m, 2, none⟩ = some (.string ⟨#[]⟩) ∧ u5.cell? ⟨m, 3, none⟩ = some (.slice a 0 c) := ⟨(k5.cell (p := ⟨m, 0, none⟩) s7).trans x0, (k5.cell (p := ⟨m, 1, none⟩) s7).trans x1, (k5.cell (p := ⟨m, 2, none⟩) s7).trans x2, (k5.cell (p := ⟨m, 3, none⟩) s7).trans x3⟩))
  all_goals
    go_wp2_with fail
    go_ret
    exact ⟨rfl, below3 B5.out B5.out.size k5⟩
end Go.Proofs.YtlhagimfbdkdfaaDoor
