/-
  What is proved here: what fresh.Value answers of any value, given what fresh.Values answers of its list: the same value, its lists in new memory.
-/
import Derived.Test.YtlhagimfbdkdfaaDoorGFresh0
import Derived.Test.YtlhagimfbdkdfaaDoorPM
namespace Go.Proofs.YtlhagimfbdkdfaaDoor
open Go.RowKit
set_option linter.unusedVariables false

theorem put4_bel (w : World) (b : Nat) (v0 v1 v2 v3 : Value) : Below b w (put4 w b v0 v1 v2 v3) :=
  ((((Below.refl _ _).setCell (p := ⟨b, 0, none⟩) (Nat.le_refl _) _).setCell (p := ⟨b, 1, none⟩) (Nat.le_refl _) _).setCell (p := ⟨b, 2, none⟩) (Nat.le_refl _) _).setCell (p := ⟨b, 3, none⟩) (Nat.le_refl _) _

theorem put4_size (w : World) (b : Nat) (v0 v1 v2 v3 : Value) : (put4 w b v0 v1 v2 v3).heap.size = w.heap.size := by simp [put4, World.setCell]

/-- The answer of Values: the same list in blocks of its own. -/
def ValsEnd (W w' : World) (L : List T) (l : Nat) (e : Ending) : Prop := ∃ a' c', e = .returned (.slice a' l c') ∧ l ≤ c' ∧ LieA (fun i => W.heap.size ≤ i) w' L a' l

/-- The answer of Value. -/
def ValEnd (W w' : World) (k n : Int) (s : ByteArray) (L : List T) (l : Nat) (e : Ending) : Prop := ∃ a' c', e = .returned (.agg #[.int .i64 k, .int .i64 n, .string s, .slice a' l c']) ∧ l ≤ c' ∧ LieA (fun i => W.heap.size ≤ i) w' L a' l

theorem cell3_here {w : World} {b : Nat} {c0 c1 c2 c3 : Value} {t : TypeId} (h : w.heap[b]? = some (.cells #[c0, c1, c2, c3] t (0, 0))) (v : Value) : (w.setCell ⟨b, 3, none⟩ v).heap[b]? = some (.cells #[c0, c1, c2, v] t (0, 0)) := by
  simp [World.setCell, Array.getElem?_modify, h]

set_option maxHeartbeats 4000000 in
set_option maxRecDepth 100000 in
theorem value_of (k n : Int) (s : ByteArray) (a : Option Addr) (l c : Nat) (L : List T) (w : World)
    (hV : ∀ W, Below w.heap.size w W → Calls Tryd.prog 61 #[.slice a l c] W fun e w' => ValsEnd W w' L l e ∧ Below W.heap.size W w') :
    Calls Tryd.prog 32 #[.agg #[.int .i64 k, .int .i64 n, .string s, .slice a l c]] w fun e w' => ValEnd w w' k n s L l e ∧ Below w.heap.size w w' := by
  have HV := toHid hV
  clear hV
  have b0 : Below w.heap.size w ((w.alloc (.cells #[.int .i64 k, .int .i64 n, .string s, .slice a l c] 54)).alloc (.cells #[.int .i64 0, .int .i64 0, .string ⟨#[]⟩, .slice none 0 0] 54)) := ((Below.refl _ _).alloc (Nat.le_refl _) _).alloc (by simp) _
  have hx := (Below.heap_alloc (w.alloc (.cells #[.int .i64 k, .int .i64 n, .string s, .slice a l c] 54)) (.cells #[.int .i64 0, .int .i64 0, .string ⟨#[]⟩, .slice none 0 0] 54) w.heap.size (by simp)).trans (alloc_new w (.cells #[.int .i64 k, .int .i64 n, .string s, .slice a l c] 54))
  have hy := alloc_two w (.cells #[.int .i64 k, .int .i64 n, .string s, .slice a l c] 54) (.cells #[.int .i64 0, .int .i64 0, .string ⟨#[]⟩, .slice none 0 0] 54)
  have z0 : ((w.alloc (.cells #[.int .i64 k, .int .i64 n, .string s, .slice a l c] 54)).alloc (.cells #[.int .i64 0, .int .i64 0, .string ⟨#[]⟩, .slice none 0 0] 54)).heap.size = w.heap.size + 2 := by simp
  have HB := toHid b0
  have HX := toHid hx
  have HY := toHid hy
  have HZ := toHid z0
  clear b0 hx hy z0
  go_enter Tryd.func32, Tryd.ntmps32
  go_wp2_with fail
  refine (HV.out _ HB.out).mono ?_
  generalize (w.alloc (.cells #[.int .i64 k, .int .i64 n, .string s, .slice a l c] 54)).alloc (.cells #[.int .i64 0, .int .i64 0, .string ⟨#[]⟩, .slice none 0 0] 54) = W at HB HX HY HZ ⊢
  rintro e w1 ⟨⟨a', c', rfl, hlc, hL⟩, k1⟩
  have s1 : w.heap.size + 2 ≤ w1.heap.size := by have := k1.size; rw [HZ.out] at this; exact this
  have c1 := HB.out.trans (k1.mono HB.out.size)
  have hv1 := (k1.block w.heap.size (by rw [HZ.out]; omega)).trans HX.out
  have hr1 := (k1.block (w.heap.size + 1) (by rw [HZ.out]; omega)).trans HY.out
  have hv2 := cell3_here hv1 (.slice a' l c')
  have hr2 := (Below.heap_setCell w1 ⟨w.heap.size, 3, none⟩ (.slice a' l c') (w.heap.size + 1) (by show w.heap.size + 1 ≠ w.heap.size; omega)).trans hr1
  have hL2 : LieA (fun i => w.heap.size + 2 ≤ i) (w1.setCell ⟨w.heap.size, 3, none⟩ (.slice a' l c')) L a' l := LieA.kept (by simp [World.setCell]) (fun i hi _ => ⟨by have := HZ.out; omega, Below.heap_setCell _ _ _ i (by show i ≠ w.heap.size; have := HZ.out; omega)⟩) _ _ _ hL
  have c2 : Below w.heap.size w (w1.setCell ⟨w.heap.size, 3, none⟩ (.slice a' l c')) := c1.setCell (p := ⟨w.heap.size, 3, none⟩) (Nat.le_refl _) _
  have s2 : (w1.setCell ⟨w.heap.size, 3, none⟩ (.slice a' l c')).heap.size = w1.heap.size := by simp [World.setCell]
  have x3 := cell_of hv1 3
  have f3 := free_of hv1 3
  simp at x3
  have HV2 := toHid hv2
  have HR2 := toHid hr2
  have HL2 := toHid hL2
  have HC2 := toHid c2
  have HS2 := toHid s2
  have hlt : w.heap.size < w1.heap.size := by omega
  clear hv1 hr1 hv2 hr2 hL2 c2 s2 k1 c1 hL
  obtain ⟨X, hX⟩ : ∃ X, X = w1.setCell ⟨w.heap.size, 3, none⟩ (.slice a' l c') := ⟨_, rfl⟩
  rw [← hX] at HV2 HR2 HL2 HC2 HS2
  have q0 := cell_of HV2.out 0
  have q1 := cell_of HV2.out 1
  have q2 := cell_of HV2.out 2
  have q3 := cell_of HV2.out 3
  simp at q0 q1 q2 q3
  have r0 := cell_of HR2.out 0
  have r1 := cell_of HR2.out 1
  have r2 := cell_of HR2.out 2
  have r3 := cell_of HR2.out 3
  simp at r0 r1 r2 r3
  have g0 := free_of HR2.out 0
  have g1 := free_of HR2.out 1
  have g2 := free_of HR2.out 2
  have g3 := free_of HR2.out 3
  have hXs : w1.setCell ⟨w.heap.size, 3, none⟩ (.slice a' l c') = X := hX.symm
  have E := put4_here HR2.out (.int .i64 k) (.int .i64 n) (.string s) (.slice a' l c')
  have hbb : Below w.heap.size w (put4 X (w.heap.size + 1) (.int .i64 k) (.int .i64 n) (.string s) (.slice a' l c')) := HC2.out.trans ((put4_bel X (w.heap.size + 1) _ _ _ _).mono (by omega))
  have hLL : LieA (fun i => w.heap.size ≤ i) (put4 X (w.heap.size + 1) (.int .i64 k) (.int .i64 n) (.string s) (.slice a' l c')) L a' l := LieA.kept (by rw [put4_size]; exact Nat.le_refl _) (fun i hi h2 => ⟨by omega, put4_other _ _ _ _ _ _ i (by omega) h2⟩) _ _ _ HL2.out
  have HE := toHid E
  have HBB := toHid hbb
  have HLL := toHid hLL
  clear hX E hbb hLL HV2 HR2 HL2 HC2 HS2
  go_wp2_with fail
  have eP : ∀ X : World, (((X.setCell ⟨w.heap.size + 1, 0, none⟩ (.int .i64 k)).setCell ⟨w.heap.size + 1, 1, none⟩ (.int .i64 n)).setCell ⟨w.heap.size + 1, 2, none⟩ (.string s)).setCell ⟨w.heap.size + 1, 3, none⟩ (.slice a' l c') = put4 X (w.heap.size + 1) (.int .i64 k) (.int .i64 n) (.string s) (.slice a' l c') := fun _ => rfl
  rw [eP]
  have E := HE.out
  have hbb := HBB.out
  have hLL := HLL.out
  clear HE HBB HLL
  generalize put4 X (w.heap.size + 1) (.int .i64 k) (.int .i64 n) (.string s) (.slice a' l c') = Y at E hbb hLL ⊢
  have t0 := cell_of E 0
  have t1 := cell_of E 1
  have t2 := cell_of E 2
  have t3 := cell_of E 3
  simp at t0 t1 t2 t3
  exact bodyPost_ret (v := .agg #[.int .i64 k, .int .i64 n, .string s, .slice a' l c']) (by simp [results, Tryd.results32, go_sem, t0, t1, t2, t3]) rfl ⟨⟨a', c', rfl, hlc, hLL⟩, hbb⟩
end Go.Proofs.YtlhagimfbdkdfaaDoor
