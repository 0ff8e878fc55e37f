/-
  What is proved here: the reader's method value reads a value and lays it in memory of its own.
-/
import Derived.Test.YtdefjgbiinahdaaDoorCSkip
import Derived.Test.YtdefjgbiinahdaaDoorPRTree
import Derived.OwnWalk
import Derived.Deep.RegionHeld3
namespace Go.Proofs.YtdefjgbiinahdaaDoor
open Go.RowKit
set_option linter.unusedVariables false

/-- What value answers. -/
def ValOut (r tb : Nat) (text : List UInt8) (R Q : Option (List UInt8)) (g : Option (T × List UInt8)) (w : World) (e : Ending) (w' : World) : Prop :=
  ∃ x : Got, e = .returned (.agg #[.int .i64 x.k, .int .i64 x.n, .string x.s, .slice x.a x.l x.c]) ∧ RdL r tb text Q w' ∧ Mv r w w' ∧ (∀ t R', g = some (t, R') → x.tree = t ∧ x.ok (fun i => w.heap.size ≤ i) w')

theorem RdL.same {r tb : Nat} {text : List UInt8} {R : Option (List UInt8)} {w w' : World} (h : RdL r tb text R w) (hz : w.heap.size ≤ w'.heap.size) (hr : w'.heap[r]? = w.heap[r]?) (ht : w'.heap[tb]? = w.heap[tb]?) : RdL r tb text R w' := by
  cases R with
  | none => exact RdS.same (show RdS r tb text none w from h) hz hr ht
  | some R => obtain ⟨p, h1, h2, h3⟩ := h; exact ⟨p, h1, h2, h3.same hz hr ht⟩

theorem RdL.tb_lt {r tb : Nat} {text : List UInt8} {R : Option (List UInt8)} {w : World} (h : RdL r tb text R w) : tb < r ∧ r < w.heap.size := by
  obtain ⟨st, h⟩ := h.rds
  exact ⟨h.2.1, h.2.2.1⟩

theorem RdL.put {r tb : Nat} {text : List UInt8} {R : Option (List UInt8)} {w : World} {N b : Nat} (h : RdL r tb text R w) (hb : N ≤ b) (hne : b ≠ r) (hr : r < N) {v0 v1 v2 v3 : Value} : RdL r tb text R (put4 w b v0 v1 v2 v3) := by
  have k := put4_below w b v0 v1 v2 v3
  have := h.tb_lt
  exact h.same k.size (k.block _ (by omega)) (k.block _ (by omega))

set_option maxHeartbeats 2000000 in
set_option maxRecDepth 100000 in
theorem value_flat (B r tb : Nat) (text : List UInt8) (R R1 : Option (List UInt8)) (lists : Nat) (k n : Int) (s : ByteArray) (w : World) (hr : r < w.heap.size)
    (hc : ∀ W, Below w.heap.size w W → Calls Tryd.prog 45 #[.pointer (some ⟨r, 0, none⟩), .int .i64 (lists : Int)] W fun e w' => e = .returned (.tuple #[.agg #[.int .i64 k, .int .i64 n, .string s, .slice none 0 0], .int .i64 0]) ∧ RdL r tb text R1 w' ∧ Mv r W w') :
    Calls Tryd.prog 31 #[.pointer (some ⟨r, 0, none⟩), .int .i64 (lists : Int)] w fun e w' => e = .returned (.agg #[.int .i64 k, .int .i64 n, .string s, .slice none 0 0]) ∧ RdL r tb text R1 w' ∧ Mv r w w' := by
  have HCC := toHid hc
  have hb0 : ∀ o, Below w.heap.size w (w.alloc o) := fun o => (Below.refl _ _).alloc (Nat.le_refl _) _
  have hv0 : VB (w.alloc (.cells #[.int .i64 0, .int .i64 0, .string ⟨#[]⟩, .slice none 0 0] 24)) w.heap.size 0 0 ⟨#[]⟩ none 0 0 := alloc_new _ _
  have HV0 := toHid hv0
  clear hc hv0
  go_enter Tryd.func31, Tryd.ntmps31
  go_wp2_with fail
  refine (HCC.out _ (hb0 _)).mono ?_
  rintro e w1 ⟨rfl, r1, m1⟩
  have hs1 : w.heap.size + 1 ≤ w1.heap.size := by have := m1.size; simpa using this
  have v1 : VB w1 w.heap.size 0 0 ⟨#[]⟩ none 0 0 := (m1.block _ (by simp) (by omega)).trans HV0.out
  have m1' : Mv r w w1 := (Mv.below (hb0 _)).trans m1
  have b1 : ∀ o, Below w1.heap.size w1 (w1.alloc o) := fun o => (Below.refl _ _).alloc (Nat.le_refl _) _
  have hvn : VB (w1.alloc (.cells #[.int .i64 k, .int .i64 n, .string s, .slice none 0 0] 24)) w1.heap.size k n s none 0 0 := alloc_new _ _
  have v2 : VB (w1.alloc (.cells #[.int .i64 k, .int .i64 n, .string s, .slice none 0 0] 24)) w.heap.size 0 0 ⟨#[]⟩ none 0 0 := ((b1 _).block _ (by omega)).trans v1
  have r2 := r1.below (b1 (.cells #[.int .i64 k, .int .i64 n, .string s, .slice none 0 0] 24))
  have m2 := m1'.old (b1 (.cells #[.int .i64 k, .int .i64 n, .string s, .slice none 0 0] 24)) m1'.size
  have HVN := toHid hvn
  have V2 := toHid v2
  have R2 := toHid r2
  have M2 := toHid m2
  clear r1 m1 v1 m1' hvn v2 r2 m2
  go_wp2_with fail
  go_loopg [22] 0 (fun g s22 wr => s22 = .int .i64 0 ∧ wr = w1.alloc (.cells #[.int .i64 k, .int .i64 n, .string s, .slice none 0 0] 24))
  case atStart => exact ⟨rfl, rfl⟩
  case round =>
    obtain ⟨rfl, hwr⟩ := hrel
    rw [← hwr] at HVN V2 R2 M2
    obtain ⟨x0, x1, x2, x3⟩ := HVN.out.cells
    obtain ⟨z0, z1, z2, z3⟩ := V2.out.cells
    obtain ⟨f0, f1, f2, f3⟩ := V2.out.frees
    have hne : w.heap.size ≠ r := by omega
    clear hwr
    go_wp2_with fail
    have hvb : RdL r tb text R1 (put4 wr w.heap.size (.int .i64 k) (.int .i64 n) (.string s) (.slice none 0 0)) := R2.out.put (Nat.le_refl _) hne hr
    have hmv : Mv r w (put4 wr w.heap.size (.int .i64 k) (.int .i64 n) (.string s) (.slice none 0 0)) := M2.out.old (put4_below wr w.heap.size _ _ _ _) (Nat.le_refl _)
    have ev : VB (put4 wr w.heap.size (.int .i64 k) (.int .i64 n) (.string s) (.slice none 0 0)) w.heap.size k n s none 0 0 := put4_here V2.out _ _ _ _
    have eP : ∀ X : World, (((X.setCell ⟨w.heap.size, 0, none⟩ (.int .i64 k)).setCell ⟨w.heap.size, 1, none⟩ (.int .i64 n)).setCell ⟨w.heap.size, 2, none⟩ (.string s)).setCell ⟨w.heap.size, 3, none⟩ (.slice none 0 0) = put4 X w.heap.size (.int .i64 k) (.int .i64 n) (.string s) (.slice none 0 0) := fun _ => rfl
    rw [eP]
    generalize put4 wr w.heap.size (.int .i64 k) (.int .i64 n) (.string s) (.slice none 0 0) = X at hvb hmv ev ⊢
    obtain ⟨t0, t1, t2, t3⟩ := ev.cells
    exact bodyPost_ret (v := .agg #[.int .i64 k, .int .i64 n, .string s, .slice none 0 0]) (by simp [results, Tryd.results31, go_sem, t0, t1, t2, t3]) rfl ⟨rfl, hvb, hmv⟩
end Go.Proofs.YtdefjgbiinahdaaDoor
