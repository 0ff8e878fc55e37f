/-
  What is proved here: what the small graph of the closed fact is (knows), and how it lies in memory.
-/
import Derived.Test.YtlhagimfbdkdfaaDoorGProp2
namespace Go.Proofs.YtlhagimfbdkdfaaDoor
open Go.RowKit
set_option linter.unusedVariables false

/-- How that graph lies in memory. -/
def KnowsAt (w : World) (lb pb nb eb : Nat) : Prop :=
  w.heap[lb]? = some (.cells #[.string ⟨#[65]⟩] 9 (0, 0)) ∧ w.heap[pb]? = some (.cells #[.string ⟨#[110]⟩, .int .i64 2, .int .i64 5, .string ⟨#[]⟩, .slice none 0 0] 69 (0, 0)) ∧
  w.heap[nb]? = some (.cells #[.int .i64 1, .slice (some ⟨lb, 0, none⟩) 1 1, .slice (some ⟨pb, 0, none⟩) 1 1, .int .i64 2, .slice none 0 0, .slice none 0 0] 36 (0, 0)) ∧
  w.heap[eb]? = some (.cells #[.int .i64 3, .int .i64 1, .int .i64 2, .string ⟨#[75]⟩, .slice none 0 0] 42 (0, 0))

def KnowsEnd (w' : World) (e : Ending) : Prop := ∃ lb pb nb eb, e = .returned (.agg #[.slice (some ⟨nb, 0, none⟩) 2 2, .slice (some ⟨eb, 0, none⟩) 1 1, .int .i64 4]) ∧ KnowsAt w' lb pb nb eb

set_option maxHeartbeats 4000000 in
set_option maxRecDepth 100000 in
theorem knows_any (w : World) : Calls Tryd.prog 20 #[] w fun e w' => KnowsEnd w' e ∧ Below w.heap.size w w' := by
  go_enter Tryd.func20, Tryd.ntmps20
  go_wp2_with fail
  refine (num_any _ _).mono ?_
  rintro e w1 ⟨rfl, k1⟩
  have s1 : w.heap.size + 2 ≤ w1.heap.size := by have := k1.size; simpa using this
  have hv1 := (k1.block w.heap.size (by simp <;> omega)).trans ((Below.heap_alloc _ _ w.heap.size (by simp <;> omega)).trans (alloc_new w _))
  have hl1 := (k1.block (w.heap.size + 1) (by simp <;> omega)).trans (alloc_two w _ _)
  have c1 : Below w.heap.size w w1 := (((Below.refl w.heap.size w).alloc (Nat.le_refl _) _).alloc (by simp <;> omega) _).trans (k1.mono (by simp <;> omega))
  have z4 : (((w1.alloc (.cells #[.string ⟨#[110]⟩, .int .i64 2, .int .i64 5, .string ⟨#[]⟩, .slice none 0 0] 69)).alloc (.cells #[.int .i64 1, .slice (some ⟨w.heap.size + 1, 0, none⟩) 1 1, .slice (some ⟨w1.heap.size, 0, none⟩) 1 1, .int .i64 2, .slice none 0 0, .slice none 0 0] 36)).alloc (.cells #[.int .i64 3, .int .i64 1, .int .i64 2, .string ⟨#[75]⟩, .slice none 0 0] 42)).heap.size = w1.heap.size + 3 := by simp
  have e4 := alloc_new ((w1.alloc (.cells #[.string ⟨#[110]⟩, .int .i64 2, .int .i64 5, .string ⟨#[]⟩, .slice none 0 0] 69)).alloc (.cells #[.int .i64 1, .slice (some ⟨w.heap.size + 1, 0, none⟩) 1 1, .slice (some ⟨w1.heap.size, 0, none⟩) 1 1, .int .i64 2, .slice none 0 0, .slice none 0 0] 36)) (.cells #[.int .i64 3, .int .i64 1, .int .i64 2, .string ⟨#[75]⟩, .slice none 0 0] 42)
  have z3 : ((w1.alloc (.cells #[.string ⟨#[110]⟩, .int .i64 2, .int .i64 5, .string ⟨#[]⟩, .slice none 0 0] 69)).alloc (.cells #[.int .i64 1, .slice (some ⟨w.heap.size + 1, 0, none⟩) 1 1, .slice (some ⟨w1.heap.size, 0, none⟩) 1 1, .int .i64 2, .slice none 0 0, .slice none 0 0] 36)).heap.size = w1.heap.size + 2 := by simp
  rw [z3] at e4
  have n4 := (Below.heap_alloc ((w1.alloc (.cells #[.string ⟨#[110]⟩, .int .i64 2, .int .i64 5, .string ⟨#[]⟩, .slice none 0 0] 69)).alloc (.cells #[.int .i64 1, .slice (some ⟨w.heap.size + 1, 0, none⟩) 1 1, .slice (some ⟨w1.heap.size, 0, none⟩) 1 1, .int .i64 2, .slice none 0 0, .slice none 0 0] 36)) (.cells #[.int .i64 3, .int .i64 1, .int .i64 2, .string ⟨#[75]⟩, .slice none 0 0] 42) (w1.heap.size + 1) (by simp <;> omega)).trans (alloc_two w1 (.cells #[.string ⟨#[110]⟩, .int .i64 2, .int .i64 5, .string ⟨#[]⟩, .slice none 0 0] 69) (.cells #[.int .i64 1, .slice (some ⟨w.heap.size + 1, 0, none⟩) 1 1, .slice (some ⟨w1.heap.size, 0, none⟩) 1 1, .int .i64 2, .slice none 0 0, .slice none 0 0] 36))
  have q4 : ∀ j, j < w1.heap.size → (((w1.alloc (.cells #[.string ⟨#[110]⟩, .int .i64 2, .int .i64 5, .string ⟨#[]⟩, .slice none 0 0] 69)).alloc (.cells #[.int .i64 1, .slice (some ⟨w.heap.size + 1, 0, none⟩) 1 1, .slice (some ⟨w1.heap.size, 0, none⟩) 1 1, .int .i64 2, .slice none 0 0, .slice none 0 0] 36)).alloc (.cells #[.int .i64 3, .int .i64 1, .int .i64 2, .string ⟨#[75]⟩, .slice none 0 0] 42)).heap[j]? = w1.heap[j]? := fun j hj => (Below.heap_alloc _ _ j (by simp <;> omega)).trans ((Below.heap_alloc _ _ j (by simp <;> omega)).trans (Below.heap_alloc _ _ j hj))
  have p4 := (Below.heap_alloc ((w1.alloc (.cells #[.string ⟨#[110]⟩, .int .i64 2, .int .i64 5, .string ⟨#[]⟩, .slice none 0 0] 69)).alloc (.cells #[.int .i64 1, .slice (some ⟨w.heap.size + 1, 0, none⟩) 1 1, .slice (some ⟨w1.heap.size, 0, none⟩) 1 1, .int .i64 2, .slice none 0 0, .slice none 0 0] 36)) (.cells #[.int .i64 3, .int .i64 1, .int .i64 2, .string ⟨#[75]⟩, .slice none 0 0] 42) w1.heap.size (by simp <;> omega)).trans ((Below.heap_alloc (w1.alloc (.cells #[.string ⟨#[110]⟩, .int .i64 2, .int .i64 5, .string ⟨#[]⟩, .slice none 0 0] 69)) (.cells #[.int .i64 1, .slice (some ⟨w.heap.size + 1, 0, none⟩) 1 1, .slice (some ⟨w1.heap.size, 0, none⟩) 1 1, .int .i64 2, .slice none 0 0, .slice none 0 0] 36) w1.heap.size (by simp <;> omega)).trans (alloc_new w1 (.cells #[.string ⟨#[110]⟩, .int .i64 2, .int .i64 5, .string ⟨#[]⟩, .slice none 0 0] 69)))
  have v4 := (q4 w.heap.size (by omega)).trans hv1
  have l4 := (q4 (w.heap.size + 1) (by omega)).trans hl1
  have c4 : Below w.heap.size w (((w1.alloc (.cells #[.string ⟨#[110]⟩, .int .i64 2, .int .i64 5, .string ⟨#[]⟩, .slice none 0 0] 69)).alloc (.cells #[.int .i64 1, .slice (some ⟨w.heap.size + 1, 0, none⟩) 1 1, .slice (some ⟨w1.heap.size, 0, none⟩) 1 1, .int .i64 2, .slice none 0 0, .slice none 0 0] 36)).alloc (.cells #[.int .i64 3, .int .i64 1, .int .i64 2, .string ⟨#[75]⟩, .slice none 0 0] 42)) := ((c1.alloc c1.size _).alloc (by simp <;> omega) _).alloc (by simp <;> omega) _
  have hlt : w.heap.size < w1.heap.size := by omega
  have r0 := cell_of v4 0
  have r1 := cell_of v4 1
  have r2 := cell_of v4 2
  have g0 := free_of v4 0
  have g1 := free_of v4 1
  have g2 := free_of v4 2
  have V4 := toHid v4
  have L4 := toHid l4
  have P4 := toHid p4
  have N4 := toHid n4
  have E4 := toHid e4
  have C4 := toHid c4
  clear hv1 hl1 q4 v4 l4 p4 n4 e4 c4 z3 z4 k1 c1
  simp at r0 r1 r2
  go_wp2_with fail
  generalize (((w1.alloc (.cells #[.string ⟨#[110]⟩, .int .i64 2, .int .i64 5, .string ⟨#[]⟩, .slice none 0 0] 69)).alloc (.cells #[.int .i64 1, .slice (some ⟨w.heap.size + 1, 0, none⟩) 1 1, .slice (some ⟨w1.heap.size, 0, none⟩) 1 1, .int .i64 2, .slice none 0 0, .slice none 0 0] 36)).alloc (.cells #[.int .i64 3, .int .i64 1, .int .i64 2, .string ⟨#[75]⟩, .slice none 0 0] 42)) = X at V4 L4 P4 N4 E4 C4 ⊢
  have hsz : w.heap.size < X.heap.size := (Array.getElem?_eq_some_iff.1 V4.out).1
  have o : ∀ i, i ≠ w.heap.size → (((X.setCell ⟨w.heap.size, 0, none⟩ (.slice (some ⟨w1.heap.size + 1, 0, none⟩) 2 2)).setCell ⟨w.heap.size, 1, none⟩ (.slice (some ⟨w1.heap.size + 2, 0, none⟩) 1 1)).setCell ⟨w.heap.size, 2, none⟩ (.int .i64 4)).heap[i]? = X.heap[i]? := fun i hi => (Below.heap_setCell _ _ _ i hi).trans ((Below.heap_setCell _ _ _ i hi).trans (Below.heap_setCell _ _ _ i hi))
  have h : (((X.setCell ⟨w.heap.size, 0, none⟩ (.slice (some ⟨w1.heap.size + 1, 0, none⟩) 2 2)).setCell ⟨w.heap.size, 1, none⟩ (.slice (some ⟨w1.heap.size + 2, 0, none⟩) 1 1)).setCell ⟨w.heap.size, 2, none⟩ (.int .i64 4)).heap[w.heap.size]? = some (.cells #[.slice (some ⟨w1.heap.size + 1, 0, none⟩) 2 2, .slice (some ⟨w1.heap.size + 2, 0, none⟩) 1 1, .int .i64 4] 25 (0, 0)) := by
    simp [World.setCell, Array.getElem?_modify, V4.out]
  have hbb : Below w.heap.size w (((X.setCell ⟨w.heap.size, 0, none⟩ (.slice (some ⟨w1.heap.size + 1, 0, none⟩) 2 2)).setCell ⟨w.heap.size, 1, none⟩ (.slice (some ⟨w1.heap.size + 2, 0, none⟩) 1 1)).setCell ⟨w.heap.size, 2, none⟩ (.int .i64 4)) := ((C4.out.setCell (p := ⟨w.heap.size, 0, none⟩) (Nat.le_refl _) _).setCell (p := ⟨w.heap.size, 1, none⟩) (Nat.le_refl _) _).setCell (p := ⟨w.heap.size, 2, none⟩) (Nat.le_refl _) _
  generalize ((X.setCell ⟨w.heap.size, 0, none⟩ (.slice (some ⟨w1.heap.size + 1, 0, none⟩) 2 2)).setCell ⟨w.heap.size, 1, none⟩ (.slice (some ⟨w1.heap.size + 2, 0, none⟩) 1 1)).setCell ⟨w.heap.size, 2, none⟩ (.int .i64 4) = Y at o h hbb ⊢
  have t0 := cell_of h 0
  have t1 := cell_of h 1
  have t2 := cell_of h 2
  simp at t0 t1 t2
  exact bodyPost_ret (v := .agg #[.slice (some ⟨w1.heap.size + 1, 0, none⟩) 2 2, .slice (some ⟨w1.heap.size + 2, 0, none⟩) 1 1, .int .i64 4]) (by simp [results, Tryd.results20, go_sem, t0, t1, t2]) rfl ⟨⟨w.heap.size + 1, w1.heap.size, w1.heap.size + 1, w1.heap.size + 2, rfl, (o _ (by omega)).trans L4.out, (o _ (by omega)).trans P4.out, (o _ (by omega)).trans N4.out, (o _ (by omega)).trans E4.out⟩, hbb⟩
end Go.Proofs.YtlhagimfbdkdfaaDoor
