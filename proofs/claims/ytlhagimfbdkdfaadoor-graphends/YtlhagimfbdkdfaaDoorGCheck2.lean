/-
  What is proved here: what graph.checkNode answers: what is wrong with a node first, said as a plain function.
-/
import Derived.Test.YtlhagimfbdkdfaaDoorGCheck1
import Derived.Deep.RegionHeld3
namespace Go.Proofs.YtlhagimfbdkdfaaDoor
open Go.RowKit
set_option linter.unusedVariables false

set_option maxHeartbeats 4000000 in
set_option maxRecDepth 100000 in
theorem checkNode_of (ah : Int) (x : Nd) (w : World)
    (hL : ∀ w', Below w.heap.size w w' → Calls Tryd.prog 47 #[.slice x.la x.ll x.lc] w' fun e w'' => e = .returned (.int .i64 (labsE x.labs)) ∧ Below w'.heap.size w' w'')
    (hP : ∀ w', Below w.heap.size w w' → Calls Tryd.prog 48 #[.slice x.pa x.pl x.pc] w' fun e w'' => e = .returned (.int .i64 (prsE x.props)) ∧ Below w'.heap.size w' w'') :
    Calls Tryd.prog 26 #[x.val, .int .i64 ah] w fun e w' => e = .returned (.int .i64 (ndOne ah x)) ∧ Below w.heap.size w w' := by
  obtain ⟨R, hR⟩ : ∃ R, R = ndOne ah x := ⟨_, rfl⟩
  rw [← hR]
  have HR := toHid hR
  have HL := toHid hL
  have HP := toHid hP
  clear hR hL hP
  have b0 : Below w.heap.size w (w.alloc (.cells #[.int .i64 x.id, .slice x.la x.ll x.lc, .slice x.pa x.pl x.pc] 36)) := (Below.refl _ _).alloc (Nat.le_refl _) _
  have z0 : (w.alloc (.cells #[.int .i64 x.id, .slice x.la x.ll x.lc, .slice x.pa x.pl x.pc] 36)).heap.size = w.heap.size + 1 := by simp
  have hx := alloc_new w (.cells #[.int .i64 x.id, .slice x.la x.ll x.lc, .slice x.pa x.pl x.pc] 36)
  have x1 : (w.alloc (.cells #[.int .i64 x.id, .slice x.la x.ll x.lc, .slice x.pa x.pl x.pc] 36)).cell? ⟨w.heap.size, 1, none⟩ = some (.slice x.la x.ll x.lc) := cell_of hx 1
  have x2 : (w.alloc (.cells #[.int .i64 x.id, .slice x.la x.ll x.lc, .slice x.pa x.pl x.pc] 36)).cell? ⟨w.heap.size, 2, none⟩ = some (.slice x.pa x.pl x.pc) := cell_of hx 2
  have B0 := toHid b0
  have Z0 := toHid z0
  have X1 := toHid x1
  have X2 := toHid x2
  clear hx b0 z0 x1 x2
  unfold Nd.val
  by_cases hid : x.id ≤ ah
  · have H3 := toHid (show R = 6 by rw [HR.out, ndOne, if_pos hid])
    clear HR
    go_enter Tryd.func26, Tryd.ntmps26
    go_wp2_with fail
    go_ret
    exact ⟨ret_int (by rw [H3.out]), B0.out⟩
  · obtain ⟨e1, he1⟩ : ∃ e1, e1 = labsE x.labs := ⟨_, rfl⟩
    obtain ⟨e2, he2⟩ : ∃ e2, e2 = prsE x.props := ⟨_, rfl⟩
    have H3 := toHid (show R = if e1 = 0 then e2 else e1 by rw [HR.out, ndOne, if_neg hid, he1, he2])
    rw [← he1] at HL
    rw [← he2] at HP
    clear HR he1 he2
    go_enter Tryd.func26, Tryd.ntmps26
    go_wp2_with fail
    have x1 := X1.out
    have x2 := X2.out
    have s7 : w.heap.size < (w.alloc (.cells #[.int .i64 x.id, .slice x.la x.ll x.lc, .slice x.pa x.pl x.pc] 36)).heap.size := by rw [Z0.out]; exact Nat.lt_succ_self _
    generalize w.alloc (.cells #[.int .i64 x.id, .slice x.la x.ll x.lc, .slice x.pa x.pl x.pc] 36) = W at x1 x2 s7 B0 Z0 X1 X2 ⊢
    have D0 : Below W.heap.size W W.drew := (Below.refl _ _).drew
    go_region_held3 (fun w' => w'.cell? ⟨w.heap.size, 1, none⟩ = some (.slice x.la x.ll x.lc) ∧ w'.cell? ⟨w.heap.size, 2, none⟩ = some (.slice x.pa x.pl x.pc))
      (first
        | exact S4
        | exact S3
        | exact S2
        | exact S1
        | exact ⟨x1, x2⟩
        | go_keep)
      (first
        | (go_at_call 47; refine (HL.out _ (below3 B0.out B0.out.size D0)).mono ?_; rintro e u1 ⟨rfl, h1⟩; have k1 : Below W.heap.size W u1 := D0.trans h1; have S1 : u1.cell? ⟨w.heap.size, 1, none⟩ = some (.slice x.la x.ll x.lc) ∧ u1.cell? ⟨w.heap.size, 2, none⟩ = some (.slice x.pa x.pl x.pc) := ⟨(k1.cell (p := ⟨w.heap.size, 1, none⟩) s7).trans x1, (k1.cell (p := ⟨w.heap.size, 2, none⟩) s7).trans x2⟩)
        | (go_at_call 48; refine (HP.out _ (below3 B0.out B0.out.size k1)).mono ?_; rintro e u2 ⟨rfl, h2⟩; have k2 : Below W.heap.size W u2 := below3 k1 k1.size h2; have S2 : u2.cell? ⟨w.heap.size, 1, none⟩ = some (.slice x.la x.ll x.lc) ∧ u2.cell? ⟨w.heap.size, 2, none⟩ = some (.slice x.pa x.pl x.pc) := ⟨(k2.cell (p := ⟨w.heap.size, 1, none⟩) s7).trans x1, (k2.cell (p := ⟨w.heap.size, 2, none⟩) s7).trans x2⟩; have k3 : Below W.heap.size W (u2.alloc (.cells #[.int .i64 e1, .int .i64 e2] 27)) := k2.alloc k2.size _; have S3 : (u2.alloc (.cells #[.int .i64 e1, .int .i64 e2] 27)).cell? ⟨w.heap.size, 1, none⟩ = some (.slice x.la x.ll x.lc) ∧ (u2.alloc (.cells #[.int .i64 e1, .int .i64 e2] 27)).cell? ⟨w.heap.size, 2, none⟩ = some (.slice x.pa x.pl x.pc) := ⟨(k3.cell (p := ⟨w.heap.size, 1, none⟩) s7).trans x1, (k3.cell (p := ⟨w.heap.size, 2, none⟩) s7).trans x2⟩)
        | (go_at_call 46; refine (or_two e1 e2 R H3.out u2.heap.size (u2.alloc (.cells #[.int .i64 e1, .int .i64 e2] 27)) (cell_of (alloc_new u2 _) 0) (cell_of (alloc_new u2 _) 1)).mono ?_; rintro e u4 ⟨rfl, rfl⟩))
    all_goals
      go_wp2_with fail
      go_ret
      exact ⟨rfl, below3 B0.out B0.out.size k3⟩
end Go.Proofs.YtlhagimfbdkdfaaDoor
