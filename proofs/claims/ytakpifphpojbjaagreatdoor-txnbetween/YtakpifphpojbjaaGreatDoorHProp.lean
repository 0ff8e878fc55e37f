/-
  What is proved here: what fresh.prop answers: the property, its value's lists in new blocks.
-/
import Derived.Test.YtakpifphpojbjaaGreatDoorHPut
import Derived.Test.YtakpifphpojbjaaGreatDoorGCopy2
namespace Go.Proofs.YtakpifphpojbjaaGreatDoor
open Go.RowKit
set_option linter.unusedVariables false

def Pr.pv (p : Pr) : Value := .agg #[.string p.name, .int .i64 p.k, .int .i64 p.n, .string p.s, .slice p.a p.l p.c]

theorem info_prop0 : (Tryz.prog.info? 99).map (fun i => (i.zero, i.size, i.bytes)) = some (some (.agg #[.string ⟨#[]⟩, .int .i64 0, .int .i64 0, .string ⟨#[]⟩, .slice none 0 0]), 5, 72) := by kernel_rfl
theorem info_prop : ∃ i, Tryz.prog.info? 99 = some i ∧ i.zero = some (.agg #[.string ⟨#[]⟩, .int .i64 0, .int .i64 0, .string ⟨#[]⟩, .slice none 0 0]) ∧ i.size = 5 ∧ i.bytes = 72 := by
  have h := info_prop0
  cases hi : Tryz.prog.info? 99 with
  | none => rw [hi] at h; cases h
  | some i => rw [hi] at h; simp at h; exact ⟨i, rfl, h.1, h.2.1, h.2.2⟩

def PropEnd1 (W w' : World) (x : AP) (e : Ending) : Prop := ∃ q : Pr, e = .returned q.pv ∧ PrIn (fun i => W.heap.size ≤ i) w' q x

set_option maxHeartbeats 4000000 in
set_option maxRecDepth 100000 in
theorem prop_any (p : Pr) (x : AP) (w : World) (h : PrIn AnyB w p x) (hw : wtT x.t ≤ 1099511627776) :
    Calls Tryz.prog 114 #[p.pv] w fun e w' => PropEnd1 w w' x e ∧ Below w.heap.size w w' := by
  obtain ⟨name, pk, pn, ps, pa, pl, pc, pe⟩ := p
  obtain ⟨h1, h2, h3, h4, Lt, h5, h6⟩ := h
  simp only at h1 h2 h3 h4 h5 h6
  have hwl : wtL Lt ≤ 1099511627776 := by rw [h5] at hw; unfold wtT at hw; omega
  have HV : Hid (∀ W, Below w.heap.size w W → Calls Tryz.prog 123 #[.agg #[.int .i64 pk, .int .i64 pn, .string ps, .slice pa pl pc]] W fun e w' => ValEnd W w' pk pn ps Lt pl e ∧ Below W.heap.size W w') := fun W kW => fresh_any pk pn ps pa pl pc Lt W ((LieA.lies _ _ _ h6).below kW) hwl
  have HN := toHid (show name = x.name ∧ name.size ≤ 9223372036854775807 ∧ ps.size ≤ 9223372036854775807 ∧ x.t = .node pk pn ps Lt from ⟨h1, h2, h3, h5⟩)
  clear h1 h2 h3 h4 h5 h6 hw hwl
  unfold Pr.pv
  have b0 : Below w.heap.size w ((w.alloc (.cells #[.string name, .int .i64 pk, .int .i64 pn, .string ps, .slice pa pl pc] 99)).alloc (.cells #[.string ⟨#[]⟩, .int .i64 0, .int .i64 0, .string ⟨#[]⟩, .slice none 0 0] 99)) := ((Below.refl _ _).alloc (Nat.le_refl _) _).alloc (by simp) _
  have hx := (Below.heap_alloc (w.alloc (.cells #[.string name, .int .i64 pk, .int .i64 pn, .string ps, .slice pa pl pc] 99)) (.cells #[.string ⟨#[]⟩, .int .i64 0, .int .i64 0, .string ⟨#[]⟩, .slice none 0 0] 99) w.heap.size (by simp)).trans (alloc_new w (.cells #[.string name, .int .i64 pk, .int .i64 pn, .string ps, .slice pa pl pc] 99))
  have hy := alloc_two w (.cells #[.string name, .int .i64 pk, .int .i64 pn, .string ps, .slice pa pl pc] 99) (.cells #[.string ⟨#[]⟩, .int .i64 0, .int .i64 0, .string ⟨#[]⟩, .slice none 0 0] 99)
  have z0 : ((w.alloc (.cells #[.string name, .int .i64 pk, .int .i64 pn, .string ps, .slice pa pl pc] 99)).alloc (.cells #[.string ⟨#[]⟩, .int .i64 0, .int .i64 0, .string ⟨#[]⟩, .slice none 0 0] 99)).heap.size = w.heap.size + 2 := by simp
  have HB := toHid b0
  have HX := toHid hx
  have HY := toHid hy
  have HZ := toHid z0
  clear b0 hx hy z0
  go_enter Tryz.func114, Tryz.ntmps114
  go_wp2_with fail
  refine (HV.out _ HB.out).mono ?_
  generalize (w.alloc (.cells #[.string name, .int .i64 pk, .int .i64 pn, .string ps, .slice pa pl pc] 99)).alloc (.cells #[.string ⟨#[]⟩, .int .i64 0, .int .i64 0, .string ⟨#[]⟩, .slice none 0 0] 99) = W at HB HX HY HZ ⊢
  rintro e w1 ⟨⟨a', c', rfl, hlc, hL⟩, k1⟩
  have s1 : w.heap.size + 2 ≤ w1.heap.size := by have := k1.size; rw [HZ.out] at this; exact this
  have c1 := HB.out.trans (k1.mono HB.out.size)
  have hv1 := (k1.block w.heap.size (by rw [HZ.out]; omega)).trans HX.out
  have hr1 := (k1.block (w.heap.size + 1) (by rw [HZ.out]; omega)).trans HY.out
  have x1 := cell_of hv1 1
  have x2 := cell_of hv1 2
  have x3 := cell_of hv1 3
  have x4 := cell_of hv1 4
  have f1 := free_of hv1 1
  have f2 := free_of hv1 2
  have f3 := free_of hv1 3
  have f4 := free_of hv1 4
  simp at x1 x2 x3 x4
  have hlt : w.heap.size < w1.heap.size := by omega
  obtain ⟨X, hX⟩ : ∃ X, X = (((w1.setCell ⟨w.heap.size, 1, none⟩ (.int .i64 pk)).setCell ⟨w.heap.size, 2, none⟩ (.int .i64 pn)).setCell ⟨w.heap.size, 3, none⟩ (.string ps)).setCell ⟨w.heap.size, 4, none⟩ (.slice a' pl c') := ⟨_, rfl⟩
  have hXp : X = putL w1 w.heap.size 1 [.int .i64 pk, .int .i64 pn, .string ps, .slice a' pl c'] := hX
  have hvX : X.heap[w.heap.size]? = some (.cells #[.string name, .int .i64 pk, .int .i64 pn, .string ps, .slice a' pl c'] 99 (0, 0)) := by rw [hXp, putL_here _ _ _ _ hv1]; rfl
  have hrX : X.heap[w.heap.size + 1]? = some (.cells #[.string ⟨#[]⟩, .int .i64 0, .int .i64 0, .string ⟨#[]⟩, .slice none 0 0] 99 (0, 0)) := by rw [hXp, putL_other _ _ _ _ _ (by omega)]; exact hr1
  have hLX : LieA (fun i => w.heap.size + 2 ≤ i) X Lt a' pl := by
    rw [hXp]
    exact LieA.kept (by rw [putL_size]; exact Nat.le_refl _) (fun i hi _ => ⟨by have := HZ.out; omega, putL_other _ _ _ _ i (by have := HZ.out; omega)⟩) _ _ _ hL
  have hcX : Below w.heap.size w X := by rw [hXp]; exact c1.trans (putL_bel _ _ _ _)
  have hsX : w.heap.size + 2 ≤ X.heap.size := by rw [hXp, putL_size]; exact s1
  have hXs : (((w1.setCell ⟨w.heap.size, 1, none⟩ (.int .i64 pk)).setCell ⟨w.heap.size, 2, none⟩ (.int .i64 pn)).setCell ⟨w.heap.size, 3, none⟩ (.string ps)).setCell ⟨w.heap.size, 4, none⟩ (.slice a' pl c') = X := hX.symm
  have HVX := toHid hvX
  have HRX := toHid hrX
  have HLX := toHid hLX
  have HCX := toHid hcX
  have HSX := toHid hsX
  have q0 := cell_of hvX 0
  have q1 := cell_of hvX 1
  have q2 := cell_of hvX 2
  have q3 := cell_of hvX 3
  have q4 := cell_of hvX 4
  have r0 := cell_of hrX 0
  have r1 := cell_of hrX 1
  have r2 := cell_of hrX 2
  have r3 := cell_of hrX 3
  have r4 := cell_of hrX 4
  have g0 := free_of hrX 0
  have g1 := free_of hrX 1
  have g2 := free_of hrX 2
  have g3 := free_of hrX 3
  have g4 := free_of hrX 4
  simp at q0 q1 q2 q3 q4 r0 r1 r2 r3 r4
  clear hX hXp hvX hrX hLX hcX hsX hv1 hr1 k1 c1 hL
  go_wp2_with fail
  have eP : ∀ X : World, ((((X.setCell ⟨w.heap.size + 1, 0, none⟩ (.string name)).setCell ⟨w.heap.size + 1, 1, none⟩ (.int .i64 pk)).setCell ⟨w.heap.size + 1, 2, none⟩ (.int .i64 pn)).setCell ⟨w.heap.size + 1, 3, none⟩ (.string ps)).setCell ⟨w.heap.size + 1, 4, none⟩ (.slice a' pl c') = putL X (w.heap.size + 1) 0 [.string name, .int .i64 pk, .int .i64 pn, .string ps, .slice a' pl c'] := fun _ => rfl
  rw [eP]
  have E := putL_here [.string name, .int .i64 pk, .int .i64 pn, .string ps, .slice a' pl c'] 0 X _ HRX.out
  have hbb : Below w.heap.size w (putL X (w.heap.size + 1) 0 [.string name, .int .i64 pk, .int .i64 pn, .string ps, .slice a' pl c']) := HCX.out.trans ((putL_bel (w.heap.size + 1) _ _ X).mono (by omega))
  have hLL : LieA (fun i => w.heap.size ≤ i) (putL X (w.heap.size + 1) 0 [.string name, .int .i64 pk, .int .i64 pn, .string ps, .slice a' pl c']) Lt a' pl := LieA.kept (by rw [putL_size]; exact Nat.le_refl _) (fun i hi h2 => ⟨by omega, putL_other _ _ _ _ i (by omega)⟩) _ _ _ HLX.out
  generalize putL X (w.heap.size + 1) 0 [.string name, .int .i64 pk, .int .i64 pn, .string ps, .slice a' pl c'] = Y at E hbb hLL ⊢
  have t0 := cell_of E 0
  have t1 := cell_of E 1
  have t2 := cell_of E 2
  have t3 := cell_of E 3
  have t4 := cell_of E 4
  simp [setL] at t0 t1 t2 t3 t4
  refine bodyPost_ret (v := Pr.pv ⟨name, pk, pn, ps, a', pl, c', 0⟩) (by simp [results, Tryz.results114, go_sem, t0, t1, t2, t3, t4, Pr.pv]) rfl ⟨⟨⟨name, pk, pn, ps, a', pl, c', 0⟩, rfl, HN.out.1, HN.out.2.1, HN.out.2.2.1, hlc, Lt, HN.out.2.2.2, hLL⟩, hbb⟩
end Go.Proofs.YtakpifphpojbjaaGreatDoor
