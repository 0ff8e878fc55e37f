/-
  What is proved here: the closure in value.readAll that recovers what a reader gives up with: it lays the place, and the error.
-/
import Derived.Test.YtdbodcfodlbgnaaDoorVpAll
import Derived.Test.YtdbodcfodlbgnaaDoorQVAJ
namespace Go.Proofs.YtdbodcfodlbgnaaDoor
open Go.RowKit
set_option linter.unusedVariables false
theorem setB_same {w : World} {b : Nat} {t : TypeId} {c0 : Value} (h : w.heap[b]? = some (.cells #[c0] t (0, 0))) (v : Value) : (w.setCell ⟨b, 0, none⟩ v).heap[b]? = some (.cells #[v] t (0, 0)) := by
  simp [World.setCell, Array.getElem?_modify, h]

theorem setB_other (w : World) (b : Nat) (o : Nat) (v : Value) {k : Nat} (hk : k ≠ b) : (w.setCell ⟨b, o, none⟩ v).heap[k]? = w.heap[k]? := Below.heap_setCell _ _ _ _ hk

/-- What the closure that recovers leaves. -/
def CgEnd (vb a : Nat) (w w' : World) : Prop := Below vb w w' ∧
      w'.heap[vb]? = some (.cells #[.int .i64 0, .int .i64 0, .string ⟨#[]⟩, .slice none 0 0] 24 (0, 0)) ∧ w'.heap[vb + 1]? = some (.cells #[.int .i64 a] 3 (0, 0)) ∧ w'.heap[vb + 1 + 1]? = some (.cells #[.int .i64 1] 25 (0, 0))

theorem cg_world {vb a : Nat} {c0 c1 c2 c3 d0 e0 : Value} {w W : World} (hz : w.heap.size < W.heap.size) (hvlt : vb + 1 + 1 < w.heap.size) (hbA : Below w.heap.size w W) (k0 : W.heap[vb]? = some (.cells #[c0, c1, c2, c3] 24 (0, 0))) (k1 : W.heap[vb + 1]? = some (.cells #[d0] 3 (0, 0))) (k2 : W.heap[vb + 1 + 1]? = some (.cells #[e0] 25 (0, 0))) :
    CgEnd vb a w (((put4 W vb (.int .i64 0) (.int .i64 0) (.string ⟨#[]⟩) (.slice none 0 0)).setCell ⟨vb + 1, 0, none⟩ (.int .i64 a)).setCell ⟨vb + 1 + 1, 0, none⟩ (.int .i64 1)) := by
  have q0 := put4_here k0 (.int .i64 0) (.int .i64 0) (.string ⟨#[]⟩) (.slice none 0 0)
  have q1 : (put4 W vb (.int .i64 0) (.int .i64 0) (.string ⟨#[]⟩) (.slice none 0 0)).heap[vb + 1]? = _ := (put4_other W vb _ _ _ _ (vb + 1) (by omega) (by omega)).trans k1
  have q2 : (put4 W vb (.int .i64 0) (.int .i64 0) (.string ⟨#[]⟩) (.slice none 0 0)).heap[vb + 1 + 1]? = _ := (put4_other W vb _ _ _ _ (vb + 1 + 1) (by omega) (by omega)).trans k2
  have qb := put4_below W vb (.int .i64 0) (.int .i64 0) (.string ⟨#[]⟩) (.slice none 0 0)
  generalize put4 W vb (.int .i64 0) (.int .i64 0) (.string ⟨#[]⟩) (.slice none 0 0) = V at q0 q1 q2 qb ⊢
  have r1 := setB_same q1 (.int .i64 a)
  have r2 := (setB_other V (vb + 1) 0 (.int .i64 a) (k := vb + 1 + 1) (by omega)).trans q2
  have r0 := (setB_other V (vb + 1) 0 (.int .i64 a) (k := vb) (by omega)).trans q0
  have rb : Below vb V (V.setCell ⟨vb + 1, 0, none⟩ (.int .i64 a)) := (Below.refl _ _).setCell (p := ⟨vb + 1, 0, none⟩) (by show vb ≤ vb + 1; omega) _
  generalize V.setCell ⟨vb + 1, 0, none⟩ (.int .i64 a) = V1 at r0 r1 r2 rb ⊢
  have s2 := setB_same r2 (.int .i64 1)
  have s1 := (setB_other V1 (vb + 1 + 1) 0 (.int .i64 1) (k := vb + 1) (by omega)).trans r1
  have s0 := (setB_other V1 (vb + 1 + 1) 0 (.int .i64 1) (k := vb) (by omega)).trans r0
  have sb : Below vb V1 (V1.setCell ⟨vb + 1 + 1, 0, none⟩ (.int .i64 1)) := (Below.refl _ _).setCell (p := ⟨vb + 1 + 1, 0, none⟩) (by show vb ≤ vb + 1 + 1; omega) _
  exact ⟨((hbA.mono (by omega : vb ≤ w.heap.size)).trans qb).trans (rb.trans sb), s0, s1, s2⟩

theorem CgEnd.drew {vb a : Nat} {w X : World} (h : CgEnd vb a w X) : CgEnd vb a w X.drew := ⟨h.1.trans (Below.refl _ _).drew, h.2.1, h.2.2.1, h.2.2.2⟩

set_option maxRecDepth 100000 in
theorem mis_nil (a : Nat) : ∀ w, (binOp .eql 20 (.iface 43 (.agg #[.int .i64 a])) .nilIface).run Tryd.prog w = .ok (.bool false) w := fun w => by rfl
set_option maxRecDepth 100000 in
theorem mis_is (a : Nat) : ∀ w, (Instr.typeAssert (.iface 43 (.agg #[.int .i64 a])) 20 43 true).run Tryd.prog w = .ok (.tuple #[.agg #[.int .i64 a], .bool true]) w := fun w => by rfl

set_option maxHeartbeats 1000000 in
set_option maxRecDepth 100000 in
theorem caught_misfit (vb a : Nat) (c0 c1 c2 c3 d0 e0 : Value) (w : World) (h0 : w.heap[vb]? = some (.cells #[c0, c1, c2, c3] 24 (0, 0))) (h1 : w.heap[vb + 1]? = some (.cells #[d0] 3 (0, 0))) (h2 : w.heap[vb + 1 + 1]? = some (.cells #[e0] 25 (0, 0))) :
    CallsD Tryd.prog 18 #[.pointer (some ⟨vb, 0, none⟩), .pointer (some ⟨vb + 1, 0, none⟩), .pointer (some ⟨vb + 1 + 1, 0, none⟩)] (.panicking (MIS a)) w fun e u' w' => e = .returned (.tuple #[]) ∧ u' = .panicking [{ v := .iface 43 (.agg #[.int .i64 a]), recovered := true }] ∧ CgEnd vb a w w' := by
  have hnil := mis_nil a
  have hta := mis_is a
  refine callsD_of_wpS Tryd.func18 rfl fun cc cs hu => ?_
  unfold MIS at hu
  apply wpS_seq
  apply wpS_region
  simp [wpOpsS, go_sem, recoverD, hu, Tryd.ntmps18, Exit.thenS]
  apply wpS_seq
  apply wpS_seq
  apply wpS_region
  simp [wpOpsS, go_sem, Exit.thenS, hnil]
  refine wpS_cond (t := false) (by simp [Act.eval]) ?_
  simp only [Bool.false_eq_true, if_false]
  refine wpS_of_wp (wp_skip ?_)
  simp only [Exit.thenS]
  have HV0 := toHid h0
  have HV1 := toHid h1
  have HV2 := toHid h2
  have hvlt : vb + 1 + 1 < w.heap.size := (Array.getElem?_eq_some_iff.1 h2).1
  clear h0 h1 h2 hnil
  apply wpS_seq
  apply wpS_region
  simp [wpOpsS, go_sem, Exit.thenS, hta]
  have e17 : (Array.replicate 17 undef : Array Value) = #[undef, undef, undef, undef, undef, undef, undef, undef, undef, undef, undef, undef, undef, undef, undef, undef, undef] := rfl
  rw [e17]
  simp
  clear e17
  refine wpS_of_wp ?_
  have hA := alloc_new w (.cells #[.int .i64 a] 43)
  have hbA : Below w.heap.size w (w.alloc (.cells #[.int .i64 a] 43)) := (Below.refl _ _).alloc (Nat.le_refl _) _
  have k0 := (hbA.block vb (by omega)).trans HV0.out
  have k1 := (hbA.block (vb + 1) (by omega)).trans HV1.out
  have k2 := (hbA.block (vb + 1 + 1) (by omega)).trans HV2.out
  generalize w.alloc (.cells #[.int .i64 a] 43) = W at hA hbA k0 k1 k2 ⊢
  have hz : w.heap.size < W.heap.size := (Array.getElem?_eq_some_iff.1 hA).1
  have m0 := cell_of hA 0
  have x0 := cell_of k0 0
  have x1 := cell_of k0 1
  have x2 := cell_of k0 2
  have x3 := cell_of k0 3
  have y0 := free_of k0 0
  have y1 := free_of k0 1
  have y2 := free_of k0 2
  have y3 := free_of k0 3
  have z0 := cell_of k1 0
  have z1 := free_of k1 0
  have t0 := cell_of k2 0
  have t1 := free_of k2 0
  simp at m0 x0 x1 x2 x3 z0 t0
  have HF1 : CgEnd vb a w ((((((W.setCell ⟨vb, 0, none⟩ (.int .i64 0)).setCell ⟨vb, 1, none⟩ (.int .i64 0)).setCell ⟨vb, 2, none⟩ (.string ⟨#[]⟩)).setCell ⟨vb, 3, none⟩ (.slice none 0 0)).setCell ⟨vb + 1, 0, none⟩ (.int .i64 a)).setCell ⟨vb + 1 + 1, 0, none⟩ (.int .i64 1)) := cg_world hz hvlt hbA k0 k1 k2
  have HFIN2 := toHid HF1.drew
  clear HF1
  have KEY : Hid (∀ (A : Act) (Y : World), A.defers = [] → CgEnd vb a w Y → bodyPostS Tryd.prog Tryd.f18 cc cs (fun e u' w' => e = .returned (.tuple #[]) ∧ u' = .panicking [{ v := .iface 43 (.agg #[.int .i64 a]), recovered := true }] ∧ CgEnd vb a w w') .normal A ({ fn := cc.fn, tmps := cc.tmps, todo := cc.todo, defers := cc.defers, mode := .panicking [{ v := .iface 43 (.agg #[.int .i64 a]), recovered := true }], kind := cc.kind, roundOf := cc.roundOf } :: cs) Y) := by
    intro A Y hA' hY
    simp [bodyPostS, results, Tryd.results18]
    exact ⟨hA', hY⟩
  clear hA hbA k0 k1 k2 HV0 HV1 HV2
  go_wp2_with fail
  go_region
  all_goals
    exact KEY.out _ _ rfl HFIN2.out
end Go.Proofs.YtdbodcfodlbgnaaDoor
