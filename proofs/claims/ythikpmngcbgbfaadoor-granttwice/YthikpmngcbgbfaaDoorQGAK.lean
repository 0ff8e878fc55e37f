/-
  What is proved here: what the texts HNode prove, in one text.
-/
import Derived.Test.YthikpmngcbgbfaaDoorQGAH
namespace Go.Proofs.YthikpmngcbgbfaaDoor
open Go.RowKit
set_option linter.unusedVariables false

def AN.ok (x : AN) : Prop := x.labs.length ≤ 1000 ∧ x.props.length ≤ 1000 ∧ ∀ p ∈ x.props, p.ok
def AE.ok (x : AE) : Prop := x.props.length ≤ 1000 ∧ ∀ p ∈ x.props, p.ok

def NodeEnd (W w' : World) (X : AN) (e : Ending) : Prop := ∃ y : Nd, e = .returned y.val ∧ NdOwn (fun i => W.heap.size ≤ i) w' y X
def EdgeEnd (W w' : World) (X : AE) (e : Ending) : Prop := ∃ y : Ed, e = .returned y.val ∧ EdOwn (fun i => W.heap.size ≤ i) w' y X

theorem info_str0 : (Tryd.prog.info? 9).map (fun i => (i.zero, i.size, i.bytes)) = some (some (.string ⟨#[]⟩), 1, 16) := by kernel_rfl
theorem info_str : ∃ i, Tryd.prog.info? 9 = some i ∧ i.zero = some (.string ⟨#[]⟩) ∧ i.size = 1 ∧ i.bytes = 16 := by
  have h := info_str0
  cases hi : Tryd.prog.info? 9 with
  | none => rw [hi] at h; cases h
  | some i => rw [hi] at h; simp at h; exact ⟨i, rfl, h.1, h.2.1, h.2.2⟩

set_option maxHeartbeats 8000000 in
set_option maxRecDepth 100000 in
theorem node_any (x : Nd) (X : AN) (w : World) (h : NdIn w x X) (hok : X.ok) :
    Calls Tryd.prog 42 #[x.val] w fun e w' => NodeEnd w w' X e ∧ Below w.heap.size w w' := by
  obtain ⟨id, labs, la, ll, lc, P, pa, pl, pc⟩ := x
  obtain ⟨h1, h2, h3, h4, h5⟩ := h
  obtain ⟨o1, o2, o3⟩ := hok
  simp only at h1 h2 h3 h4 h5
  have hpl : pl ≤ 1000 := by rw [h4.1, h5.1]; exact o2
  have hll : ll ≤ 1000 := by rw [h3.1, h2]; exact o1
  have HE : Hid (∀ W, Below w.heap.size w W → Calls Tryd.prog 59 #[.slice pa pl pc, .func (.func 60) #[] #[]] W fun e w' => PsOwnEnd W w' X.props e ∧ Below W.heap.size W w') := fun W kW => each_props X.props pa pl pc W (PsAt.below ⟨P, h4, h5⟩ kW) hpl o3
  have hsz : ∀ s ∈ labs, s.size ≤ 9223372036854775807 := by
    intro s hs
    obtain ⟨i, hi⟩ := List.getElem?_of_mem hs
    have hil := (List.getElem?_eq_some_iff.1 hi).1
    obtain ⟨b, off, _, _, hc⟩ := h3.2.2 (by rw [h3.1]; omega)
    exact (hc i s hi).1
  have HN := toHid (show id = X.id ∧ labs = X.labs ∧ ll = labs.length ∧ ∀ s ∈ labs, s.size ≤ 9223372036854775807 from ⟨h1, h2, h3.1, hsz⟩)
  have HST := toHid h3
  clear h1 h2 h3 h4 h5 o1 o2 o3 hsz
  obtain ⟨i0, hi0, hiz, his, hib⟩ := info_str
  have HI0 := toHid hi0
  have HIZ := toHid hiz
  have HIS := toHid his
  have HIB := toHid hib
  clear hi0 hiz his hib
  unfold Nd.val
  have b0 : Below w.heap.size w ((w.alloc (.cells #[.int .i64 id, .slice la ll lc, .slice pa pl pc] 51)).alloc (.cells #[.int .i64 0, .slice none 0 0, .slice none 0 0] 51)) := ((Below.refl _ _).alloc (Nat.le_refl _) _).alloc (by simp) _
  have hx := (Below.heap_alloc (w.alloc (.cells #[.int .i64 id, .slice la ll lc, .slice pa pl pc] 51)) (.cells #[.int .i64 0, .slice none 0 0, .slice none 0 0] 51) w.heap.size (by simp)).trans (alloc_new w (.cells #[.int .i64 id, .slice la ll lc, .slice pa pl pc] 51))
  have hy := alloc_two w (.cells #[.int .i64 id, .slice la ll lc, .slice pa pl pc] 51) (.cells #[.int .i64 0, .slice none 0 0, .slice none 0 0] 51)
  have z0 : ((w.alloc (.cells #[.int .i64 id, .slice la ll lc, .slice pa pl pc] 51)).alloc (.cells #[.int .i64 0, .slice none 0 0, .slice none 0 0] 51)).heap.size = w.heap.size + 2 := by simp
  have HB := toHid b0
  have HX := toHid hx
  have HY := toHid hy
  have HZ := toHid z0
  clear b0 hx hy z0
  obtain ⟨w0, hw0⟩ : ∃ z, (w.alloc (.cells #[.int .i64 id, .slice la ll lc, .slice pa pl pc] 51)).alloc (.cells #[.int .i64 0, .slice none 0 0, .slice none 0 0] 51) = z := ⟨_, rfl⟩
  rw [hw0] at HB HX HY HZ
  by_cases hl0 : ll = 0
  · subst hl0
    have HV1 := HX
    have HR1 := HY
    have HC1 := HB
    have S1 : w.heap.size + 2 ≤ w0.heap.size := by rw [HZ.out]; exact Nat.le_refl _
    have hp : ∀ W, Sem.run Tryd.prog (pure (#[] : Array Value)) W = .ok #[] W := fun _ => rfl
    have HLN : Hid (labs = []) := List.length_eq_zero_iff.1 HN.out.2.2.1.symm
    cases la
    all_goals
      go_enter Tryd.func42, Tryd.ntmps42
      have HROW : Hid (w0.ownsRow 0 9 1 (.slice none 0 0) labs.length (strs labs)) := by rw [HLN.out]; exact World.ownsRow_nil _ _ _ _
      have HLB : Hid (∀ g, (Value.slice none 0 0).ownBlock = some g → w.heap.size + 2 ≤ g ∧ g < w0.heap.size) := fun g hg => by cases hg

      have x1 := cell_of HV1.out 1
      have f1 := free_of HV1.out 1
      simp at x1
      have hlt : w.heap.size < w0.heap.size := by omega
      obtain ⟨X1, hX1⟩ : ∃ X, X = w0.setCell ⟨w.heap.size, 1, none⟩ (.slice none 0 0) := ⟨_, rfl⟩
      have hvX : X1.heap[w.heap.size]? = some (.cells #[.int .i64 id, .slice none 0 0, .slice pa pl pc] 51 (0, 0)) := by rw [hX1, set_here HV1.out]; rfl
      have hoX : ∀ j, j ≠ w.heap.size → X1.heap[j]? = w0.heap[j]? := fun j hj => by rw [hX1]; exact Below.heap_setCell w0 ⟨w.heap.size, 1, none⟩ _ j hj
      have hsX : X1.heap.size = w0.heap.size := by rw [hX1]; simp [World.setCell]
      have hcX : Below w.heap.size w X1 := by rw [hX1]; exact HC1.out.setCell (p := ⟨w.heap.size, 1, none⟩) (Nat.le_refl _) _
      have hX1s : w0.setCell ⟨w.heap.size, 1, none⟩ (.slice none 0 0) = X1 := hX1.symm
      have y2 := cell_of hvX 2
      simp at y2
      have HVX := toHid hvX
      have HOX := toHid hoX
      have HSX := toHid hsX
      have HCX := toHid hcX
      clear hX1 hvX hoX hsX hcX
      go_wp2_with fail
      refine (HE.out _ HCX.out).mono ?_
      rintro e w2 ⟨⟨v, rfl, hps⟩, k2⟩
      obtain ⟨hpb, P', hpr, hpp⟩ := hps
      obtain ⟨pa', pc', rfl, hpc⟩ := slice_of_row hpr
      have s2 : X1.heap.size ≤ w2.heap.size := k2.size
      have HPB := toHid hpb
      have HPR := toHid hpr
      have HPP := toHid hpp
      have HV2 := toHid ((k2.block w.heap.size (by rw [HSX.out]; omega)).trans HVX.out)
      have HR2 := toHid ((k2.block (w.heap.size + 1) (by rw [HSX.out]; omega)).trans ((HOX.out (w.heap.size + 1) (by omega)).trans HR1.out))
      have HC2 := toHid (HCX.out.trans (k2.mono HCX.out.size))
      have HK2 := toHid k2
      clear hpb hpr hpp k2
      have z2 := cell_of HV2.out 2
      have e2 := free_of HV2.out 2
      simp at z2
      have hlt2 : w.heap.size < w2.heap.size := by rw [HSX.out] at s2; omega
      obtain ⟨X2, hX2⟩ : ∃ X, X = w2.setCell ⟨w.heap.size, 2, none⟩ (.slice pa' P'.length pc') := ⟨_, rfl⟩
      have hvX2 : X2.heap[w.heap.size]? = some (.cells #[.int .i64 id, .slice none 0 0, .slice pa' P'.length pc'] 51 (0, 0)) := by rw [hX2, set_here HV2.out]; rfl
      have hoX2 : ∀ j, j ≠ w.heap.size → X2.heap[j]? = w2.heap[j]? := fun j hj => by rw [hX2]; exact Below.heap_setCell w2 ⟨w.heap.size, 2, none⟩ _ j hj
      have hsX2 : X2.heap.size = w2.heap.size := by rw [hX2]; simp [World.setCell]
      have hcX2 : Below w.heap.size w X2 := by rw [hX2]; exact HC2.out.setCell (p := ⟨w.heap.size, 2, none⟩) (Nat.le_refl _) _
      have hrX2 : X2.heap[w.heap.size + 1]? = some (.cells #[.int .i64 0, .slice none 0 0, .slice none 0 0] 51 (0, 0)) := (hoX2 (w.heap.size + 1) (by omega)).trans HR2.out
      have hX2s : w2.setCell ⟨w.heap.size, 2, none⟩ (.slice pa' P'.length pc') = X2 := hX2.symm
      have q0 := cell_of hvX2 0
      have q1 := cell_of hvX2 1
      have q2 := cell_of hvX2 2
      have r0 := cell_of hrX2 0
      have r1 := cell_of hrX2 1
      have r2 := cell_of hrX2 2
      have g0 := free_of hrX2 0
      have g1 := free_of hrX2 1
      have g2 := free_of hrX2 2
      simp at q0 q1 q2 r0 r1 r2
      have HRX2 := toHid hrX2
      have HOX2 := toHid hoX2
      have HSX2 := toHid hsX2
      have HCX2 := toHid hcX2
      clear hX2 hvX2 hrX2 hoX2 hsX2 hcX2
      go_wp2_with fail
      have eP : ∀ X : World, ((X.setCell ⟨w.heap.size + 1, 0, none⟩ (.int .i64 id)).setCell ⟨w.heap.size + 1, 1, none⟩ (.slice none 0 0)).setCell ⟨w.heap.size + 1, 2, none⟩ (.slice pa' P'.length pc') = putL X (w.heap.size + 1) 0 [.int .i64 id, .slice none 0 0, .slice pa' P'.length pc'] := fun _ => rfl
      rw [eP]
      have E := putL_here [.int .i64 id, .slice none 0 0, .slice pa' P'.length pc'] 0 X2 _ HRX2.out
      have hbb : Below w.heap.size w (putL X2 (w.heap.size + 1) 0 [.int .i64 id, .slice none 0 0, .slice pa' P'.length pc']) := HCX2.out.trans ((putL_bel (w.heap.size + 1) _ _ X2).mono (by omega))
      have hoY : ∀ j, j ≠ w.heap.size → j ≠ w.heap.size + 1 → (putL X2 (w.heap.size + 1) 0 [.int .i64 id, .slice none 0 0, .slice pa' P'.length pc']).heap[j]? = w2.heap[j]? := fun j h1 h2 => (putL_other _ _ _ _ j h2).trans (HOX2.out j h1)
      have hsY : (putL X2 (w.heap.size + 1) 0 [.int .i64 id, .slice none 0 0, .slice pa' P'.length pc']).heap.size = w2.heap.size := by rw [putL_size, HSX2.out]
      generalize putL X2 (w.heap.size + 1) 0 [.int .i64 id, .slice none 0 0, .slice pa' P'.length pc'] = Y at E hbb hoY hsY ⊢
      have t0 := cell_of E 0
      have t1 := cell_of E 1
      have t2 := cell_of E 2
      simp [setL] at t0 t1 t2
      have hsx := HSX.out
      refine bodyPost_ret (v := Nd.val ⟨id, labs, none, 0, 0, P', pa', P'.length, pc'⟩) (by simp [results, Tryd.results42, go_sem, t0, t1, t2, Nd.val]) rfl ⟨⟨⟨id, labs, none, 0, 0, P', pa', P'.length, pc'⟩, rfl, ?_⟩, hbb⟩
      refine ⟨HN.out.1, HN.out.2.1, ?_, ?_, HN.out.2.2.2, ?_, ?_, ?_⟩
      · refine row_keep HROW.out fun g hg hgl => ?_
        have h1 := HLB.out g hg
        rw [hoY g (by omega) (by omega), HK2.out.block g (by omega), HOX.out g (by omega)]
      · intro g hg
        have h1 := HLB.out g hg
        show w.heap.size ≤ g
        omega
      · refine row_keep HPR.out fun g hg hgl => ?_
        have h1 := HPB.out g hg
        exact hoY g (by omega) (by omega)
      · intro g hg
        have h1 := HPB.out g hg
        refine ⟨by show w.heap.size ≤ g; omega, fun he => ?_⟩
        have h2 := HLB.out g he
        omega
      · refine HPP.out.mono fun p x _ _ hp => hp.kept ⟨by rw [hsY]; exact Nat.le_refl _, fun j hj hjl => ⟨⟨by show w.heap.size ≤ j; have := hj.1; omega, fun he => ?_, hj.2⟩, hoY j (by have := hj.1; omega) (by have := hj.1; omega)⟩⟩
        have h2 := HLB.out j he
        have := hj.1
        omega

  · obtain ⟨sb, soff, hsa, hsb, hsc⟩ := HST.out.2.2 (by omega)
    subst hsa
    go_enter Tryd.func42, Tryd.ntmps42
    have HNEW : Hid (∀ j u, (strs labs)[j]? = some u → w0.cell? ((⟨sb, soff, none⟩ : Addr).add j) = some u) := by
      intro j u hu
      rw [strs, List.getElem?_map] at hu
      cases hs : labs[j]? with
      | none => rw [hs] at hu; cases hu
      | some s =>
        rw [hs] at hu
        injection hu with hu
        subst hu
        rw [add_none]
        refine (HB.out.cell (p := ⟨sb, soff + j, none⟩) hsb).trans ?_
        exact (hsc j s hs).2
    have HLEN : Hid ((strs labs).length = ll * 1) := by rw [Nat.mul_one, strs, List.length_map]; exact HN.out.2.2.1.symm
    have HONE : Hid (∀ u ∈ strs labs, u.oneCell' = true) := fun u hu => by
      rw [strs] at hu
      obtain ⟨s, _, rfl⟩ := List.mem_map.1 hu
      rfl
    have HBm : 0 + ll ≤ maxLen := by unfold maxLen; omega
    have HBy : (0 + ll) * 16 ≤ 140737488355328 := by omega
    have hll0 : 0 < ll := by omega
    clear hsc
    have u1 := cell_of HX.out 1
    simp at u1
    have hlt0 : w.heap.size < w0.heap.size := by rw [HZ.out]; omega
    go_wp2_with (at_builtin; refine wpList_append_lies _ rfl _ _ 30 rfl (w.heap.size + 2) 9 i0 _ 1 16 Tryd.underlying30 HI0.out HIZ.out HIS.out HIB.out rfl (by omega) (.slice none 0 0) 0 [] rfl (World.ownsRow_nil _ _ _ _) ⟨sb, soff, none⟩ ll lc (strs labs) rfl HLEN.out HNEW.out HONE.out hll0 HBm HBy (by rw [HZ.out]; exact Nat.le_refl _) (w.heap.size + 2) HZ.out ?_)
    intro gg cap w1 hown5 hgrow hat5 hlt5
    have hv1 := (hgrow.block w.heap.size (by rw [HZ.out]; omega) (by simp [Value.ownBlock])).trans HX.out
    have hr1 := (hgrow.block (w.heap.size + 1) (by rw [HZ.out]; omega) (by simp [Value.ownBlock])).trans HY.out
    have hc1 := HB.out.grown hgrow (by rw [HZ.out]; omega) (fun k hk => by cases hk)
    have S1 : w.heap.size + 2 ≤ w1.heap.size := by have := hgrow.size; rw [HZ.out] at this; exact this
    have hgg : gg = w.heap.size + 2 := by
      rcases hat5 with h | h
      · cases h
      · exact h
    have HROW : Hid (w1.ownsRow 0 9 1 (.slice (some ⟨gg, 0, none⟩) ll cap) labs.length (strs labs)) := by
      rw [← HN.out.2.2.1]
      exact ⟨hown5.1, hown5.2.elim .inl (fun ⟨g, cap, cur, e1, e2, e3⟩ => .inr ⟨g, cap, cur, e1, Nat.zero_le _, e3⟩)⟩
    have HLB : Hid (∀ g, (Value.slice (some ⟨gg, 0, none⟩) ll cap).ownBlock = some g → w.heap.size + 2 ≤ g ∧ g < w1.heap.size) := fun g hg => by
      have : gg = g := by simpa [Value.ownBlock] using hg
      subst this
      exact ⟨by omega, hlt5⟩
    have HV1 := toHid hv1
    have HR1 := toHid hr1
    have HC1 := toHid hc1
    clear hown5 hgrow hat5 hlt5 hv1 hr1 hc1 HNEW HLEN HONE hgg
    · have x1 := cell_of HV1.out 1
      have f1 := free_of HV1.out 1
      simp at x1
      have hlt : w.heap.size < w1.heap.size := by omega
      obtain ⟨X1, hX1⟩ : ∃ X, X = w1.setCell ⟨w.heap.size, 1, none⟩ (.slice (some ⟨gg, 0, none⟩) ll cap) := ⟨_, rfl⟩
      have hvX : X1.heap[w.heap.size]? = some (.cells #[.int .i64 id, .slice (some ⟨gg, 0, none⟩) ll cap, .slice pa pl pc] 51 (0, 0)) := by rw [hX1, set_here HV1.out]; rfl
      have hoX : ∀ j, j ≠ w.heap.size → X1.heap[j]? = w1.heap[j]? := fun j hj => by rw [hX1]; exact Below.heap_setCell w1 ⟨w.heap.size, 1, none⟩ _ j hj
      have hsX : X1.heap.size = w1.heap.size := by rw [hX1]; simp [World.setCell]
      have hcX : Below w.heap.size w X1 := by rw [hX1]; exact HC1.out.setCell (p := ⟨w.heap.size, 1, none⟩) (Nat.le_refl _) _
      have hX1s : w1.setCell ⟨w.heap.size, 1, none⟩ (.slice (some ⟨gg, 0, none⟩) ll cap) = X1 := hX1.symm
      have y2 := cell_of hvX 2
      simp at y2
      have HVX := toHid hvX
      have HOX := toHid hoX
      have HSX := toHid hsX
      have HCX := toHid hcX
      clear hX1 hvX hoX hsX hcX
      go_wp2_with fail
      refine (HE.out _ HCX.out).mono ?_
      rintro e w2 ⟨⟨v, rfl, hps⟩, k2⟩
      obtain ⟨hpb, P', hpr, hpp⟩ := hps
      obtain ⟨pa', pc', rfl, hpc⟩ := slice_of_row hpr
      have s2 : X1.heap.size ≤ w2.heap.size := k2.size
      have HPB := toHid hpb
      have HPR := toHid hpr
      have HPP := toHid hpp
      have HV2 := toHid ((k2.block w.heap.size (by rw [HSX.out]; omega)).trans HVX.out)
      have HR2 := toHid ((k2.block (w.heap.size + 1) (by rw [HSX.out]; omega)).trans ((HOX.out (w.heap.size + 1) (by omega)).trans HR1.out))
      have HC2 := toHid (HCX.out.trans (k2.mono HCX.out.size))
      have HK2 := toHid k2
      clear hpb hpr hpp k2
      have z2 := cell_of HV2.out 2
      have e2 := free_of HV2.out 2
      simp at z2
      have hlt2 : w.heap.size < w2.heap.size := by rw [HSX.out] at s2; omega
      obtain ⟨X2, hX2⟩ : ∃ X, X = w2.setCell ⟨w.heap.size, 2, none⟩ (.slice pa' P'.length pc') := ⟨_, rfl⟩
      have hvX2 : X2.heap[w.heap.size]? = some (.cells #[.int .i64 id, .slice (some ⟨gg, 0, none⟩) ll cap, .slice pa' P'.length pc'] 51 (0, 0)) := by rw [hX2, set_here HV2.out]; rfl
      have hoX2 : ∀ j, j ≠ w.heap.size → X2.heap[j]? = w2.heap[j]? := fun j hj => by rw [hX2]; exact Below.heap_setCell w2 ⟨w.heap.size, 2, none⟩ _ j hj
      have hsX2 : X2.heap.size = w2.heap.size := by rw [hX2]; simp [World.setCell]
      have hcX2 : Below w.heap.size w X2 := by rw [hX2]; exact HC2.out.setCell (p := ⟨w.heap.size, 2, none⟩) (Nat.le_refl _) _
      have hrX2 : X2.heap[w.heap.size + 1]? = some (.cells #[.int .i64 0, .slice none 0 0, .slice none 0 0] 51 (0, 0)) := (hoX2 (w.heap.size + 1) (by omega)).trans HR2.out
      have hX2s : w2.setCell ⟨w.heap.size, 2, none⟩ (.slice pa' P'.length pc') = X2 := hX2.symm
      have q0 := cell_of hvX2 0
      have q1 := cell_of hvX2 1
      have q2 := cell_of hvX2 2
      have r0 := cell_of hrX2 0
      have r1 := cell_of hrX2 1
      have r2 := cell_of hrX2 2
      have g0 := free_of hrX2 0
      have g1 := free_of hrX2 1
      have g2 := free_of hrX2 2
      simp at q0 q1 q2 r0 r1 r2
      have HRX2 := toHid hrX2
      have HOX2 := toHid hoX2
      have HSX2 := toHid hsX2
      have HCX2 := toHid hcX2
      clear hX2 hvX2 hrX2 hoX2 hsX2 hcX2
      go_wp2_with fail
      have eP : ∀ X : World, ((X.setCell ⟨w.heap.size + 1, 0, none⟩ (.int .i64 id)).setCell ⟨w.heap.size + 1, 1, none⟩ (.slice (some ⟨gg, 0, none⟩) ll cap)).setCell ⟨w.heap.size + 1, 2, none⟩ (.slice pa' P'.length pc') = putL X (w.heap.size + 1) 0 [.int .i64 id, .slice (some ⟨gg, 0, none⟩) ll cap, .slice pa' P'.length pc'] := fun _ => rfl
      rw [eP]
      have E := putL_here [.int .i64 id, .slice (some ⟨gg, 0, none⟩) ll cap, .slice pa' P'.length pc'] 0 X2 _ HRX2.out
      have hbb : Below w.heap.size w (putL X2 (w.heap.size + 1) 0 [.int .i64 id, .slice (some ⟨gg, 0, none⟩) ll cap, .slice pa' P'.length pc']) := HCX2.out.trans ((putL_bel (w.heap.size + 1) _ _ X2).mono (by omega))
      have hoY : ∀ j, j ≠ w.heap.size → j ≠ w.heap.size + 1 → (putL X2 (w.heap.size + 1) 0 [.int .i64 id, .slice (some ⟨gg, 0, none⟩) ll cap, .slice pa' P'.length pc']).heap[j]? = w2.heap[j]? := fun j h1 h2 => (putL_other _ _ _ _ j h2).trans (HOX2.out j h1)
      have hsY : (putL X2 (w.heap.size + 1) 0 [.int .i64 id, .slice (some ⟨gg, 0, none⟩) ll cap, .slice pa' P'.length pc']).heap.size = w2.heap.size := by rw [putL_size, HSX2.out]
      generalize putL X2 (w.heap.size + 1) 0 [.int .i64 id, .slice (some ⟨gg, 0, none⟩) ll cap, .slice pa' P'.length pc'] = Y at E hbb hoY hsY ⊢
      have t0 := cell_of E 0
      have t1 := cell_of E 1
      have t2 := cell_of E 2
      simp [setL] at t0 t1 t2
      have hsx := HSX.out
      refine bodyPost_ret (v := Nd.val ⟨id, labs, some ⟨gg, 0, none⟩, ll, cap, P', pa', P'.length, pc'⟩) (by simp [results, Tryd.results42, go_sem, t0, t1, t2, Nd.val]) rfl ⟨⟨⟨id, labs, some ⟨gg, 0, none⟩, ll, cap, P', pa', P'.length, pc'⟩, rfl, ?_⟩, hbb⟩
      refine ⟨HN.out.1, HN.out.2.1, ?_, ?_, HN.out.2.2.2, ?_, ?_, ?_⟩
      · refine row_keep HROW.out fun g hg hgl => ?_
        have h1 := HLB.out g hg
        rw [hoY g (by omega) (by omega), HK2.out.block g (by omega), HOX.out g (by omega)]
      · intro g hg
        have h1 := HLB.out g hg
        show w.heap.size ≤ g
        omega
      · refine row_keep HPR.out fun g hg hgl => ?_
        have h1 := HPB.out g hg
        exact hoY g (by omega) (by omega)
      · intro g hg
        have h1 := HPB.out g hg
        refine ⟨by show w.heap.size ≤ g; omega, fun he => ?_⟩
        have h2 := HLB.out g he
        omega
      · refine HPP.out.mono fun p x _ _ hp => hp.kept ⟨by rw [hsY]; exact Nat.le_refl _, fun j hj hjl => ⟨⟨by show w.heap.size ≤ j; have := hj.1; omega, fun he => ?_, hj.2⟩, hoY j (by have := hj.1; omega) (by have := hj.1; omega)⟩⟩
        have h2 := HLB.out j he
        have := hj.1
        omega


set_option maxHeartbeats 8000000 in
set_option maxRecDepth 100000 in
theorem edge_any (x : Ed) (X : AE) (w : World) (h : EdIn w x X) (hok : X.ok) :
    Calls Tryd.prog 44 #[x.val] w fun e w' => EdgeEnd w w' X e ∧ Below w.heap.size w w' := by
  obtain ⟨id, frm, dst, typ, P, pa, pl, pc⟩ := x
  obtain ⟨h1, h2, h3, h4, h5, h6, h7⟩ := h
  obtain ⟨o2, o3⟩ := hok
  simp only at h1 h2 h3 h4 h5 h6 h7
  have hpl : pl ≤ 1000 := by rw [h6.1, h7.1]; exact o2
  have HE : Hid (∀ W, Below w.heap.size w W → Calls Tryd.prog 59 #[.slice pa pl pc, .func (.func 60) #[] #[]] W fun e w' => PsOwnEnd W w' X.props e ∧ Below W.heap.size W w') := fun W kW => each_props X.props pa pl pc W (PsAt.below ⟨P, h6, h7⟩ kW) hpl o3
  have HN := toHid (show id = X.id ∧ frm = X.frm ∧ dst = X.dst ∧ typ = X.typ ∧ typ.size ≤ 9223372036854775807 from ⟨h1, h2, h3, h4, h5⟩)
  clear h1 h2 h3 h4 h5 h6 h7 o2 o3
  unfold Ed.val
  have b0 : Below w.heap.size w ((w.alloc (.cells #[.int .i64 id, .int .i64 frm, .int .i64 dst, .string typ, .slice pa pl pc] 71)).alloc (.cells #[.int .i64 0, .int .i64 0, .int .i64 0, .string ⟨#[]⟩, .slice none 0 0] 71)) := ((Below.refl _ _).alloc (Nat.le_refl _) _).alloc (by simp) _
  have hx := (Below.heap_alloc (w.alloc (.cells #[.int .i64 id, .int .i64 frm, .int .i64 dst, .string typ, .slice pa pl pc] 71)) (.cells #[.int .i64 0, .int .i64 0, .int .i64 0, .string ⟨#[]⟩, .slice none 0 0] 71) w.heap.size (by simp)).trans (alloc_new w (.cells #[.int .i64 id, .int .i64 frm, .int .i64 dst, .string typ, .slice pa pl pc] 71))
  have hy := alloc_two w (.cells #[.int .i64 id, .int .i64 frm, .int .i64 dst, .string typ, .slice pa pl pc] 71) (.cells #[.int .i64 0, .int .i64 0, .int .i64 0, .string ⟨#[]⟩, .slice none 0 0] 71)
  have z0 : ((w.alloc (.cells #[.int .i64 id, .int .i64 frm, .int .i64 dst, .string typ, .slice pa pl pc] 71)).alloc (.cells #[.int .i64 0, .int .i64 0, .int .i64 0, .string ⟨#[]⟩, .slice none 0 0] 71)).heap.size = w.heap.size + 2 := by simp
  have HB := toHid b0
  have HX := toHid hx
  have HY := toHid hy
  have HZ := toHid z0
  clear b0 hx hy z0
  go_enter Tryd.func44, Tryd.ntmps44
  go_wp2_with fail
  refine (HE.out _ HB.out).mono ?_
  generalize (w.alloc (.cells #[.int .i64 id, .int .i64 frm, .int .i64 dst, .string typ, .slice pa pl pc] 71)).alloc (.cells #[.int .i64 0, .int .i64 0, .int .i64 0, .string ⟨#[]⟩, .slice none 0 0] 71) = W at HB HX HY HZ ⊢
  rintro e w2 ⟨⟨v, rfl, hps⟩, k2⟩
  obtain ⟨hpb, P', hpr, hpp⟩ := hps
  obtain ⟨pa', pc', rfl, hpc⟩ := slice_of_row hpr
  have s2 : w.heap.size + 2 ≤ w2.heap.size := by have := k2.size; rw [HZ.out] at this; exact this
  have HPB := toHid hpb
  have HPR := toHid hpr
  have HPP := toHid hpp
  have HV2 := toHid ((k2.block w.heap.size (by rw [HZ.out]; omega)).trans HX.out)
  have HR2 := toHid ((k2.block (w.heap.size + 1) (by rw [HZ.out]; omega)).trans HY.out)
  have HC2 := toHid (HB.out.trans (k2.mono HB.out.size))
  clear hpb hpr hpp k2
  have z4 := cell_of HV2.out 4
  have e4 := free_of HV2.out 4
  simp at z4
  have hlt2 : w.heap.size < w2.heap.size := by omega
  obtain ⟨X2, hX2⟩ : ∃ X, X = w2.setCell ⟨w.heap.size, 4, none⟩ (.slice pa' P'.length pc') := ⟨_, rfl⟩
  have hvX2 : X2.heap[w.heap.size]? = some (.cells #[.int .i64 id, .int .i64 frm, .int .i64 dst, .string typ, .slice pa' P'.length pc'] 71 (0, 0)) := by rw [hX2, set_here HV2.out]; rfl
  have hoX2 : ∀ j, j ≠ w.heap.size → X2.heap[j]? = w2.heap[j]? := fun j hj => by rw [hX2]; exact Below.heap_setCell w2 ⟨w.heap.size, 4, none⟩ _ j hj
  have hsX2 : X2.heap.size = w2.heap.size := by rw [hX2]; simp [World.setCell]
  have hcX2 : Below w.heap.size w X2 := by rw [hX2]; exact HC2.out.setCell (p := ⟨w.heap.size, 4, none⟩) (Nat.le_refl _) _
  have hrX2 : X2.heap[w.heap.size + 1]? = some (.cells #[.int .i64 0, .int .i64 0, .int .i64 0, .string ⟨#[]⟩, .slice none 0 0] 71 (0, 0)) := (hoX2 (w.heap.size + 1) (by omega)).trans HR2.out
  have hX2s : w2.setCell ⟨w.heap.size, 4, none⟩ (.slice pa' P'.length pc') = X2 := hX2.symm
  have q0 := cell_of hvX2 0
  have q1 := cell_of hvX2 1
  have q2 := cell_of hvX2 2
  have q3 := cell_of hvX2 3
  have q4 := cell_of hvX2 4
  have r0 := cell_of hrX2 0
  have r1 := cell_of hrX2 1
  have r2 := cell_of hrX2 2
  have r3 := cell_of hrX2 3
  have r4 := cell_of hrX2 4
  have g0 := free_of hrX2 0
  have g1 := free_of hrX2 1
  have g2 := free_of hrX2 2
  have g3 := free_of hrX2 3
  have g4 := free_of hrX2 4
  simp at q0 q1 q2 q3 q4 r0 r1 r2 r3 r4
  have HRX2 := toHid hrX2
  have HOX2 := toHid hoX2
  have HSX2 := toHid hsX2
  have HCX2 := toHid hcX2
  clear hX2 hvX2 hrX2 hoX2 hsX2 hcX2
  go_wp2_with fail
  have eP : ∀ X : World, ((((X.setCell ⟨w.heap.size + 1, 0, none⟩ (.int .i64 id)).setCell ⟨w.heap.size + 1, 1, none⟩ (.int .i64 frm)).setCell ⟨w.heap.size + 1, 2, none⟩ (.int .i64 dst)).setCell ⟨w.heap.size + 1, 3, none⟩ (.string typ)).setCell ⟨w.heap.size + 1, 4, none⟩ (.slice pa' P'.length pc') = putL X (w.heap.size + 1) 0 [.int .i64 id, .int .i64 frm, .int .i64 dst, .string typ, .slice pa' P'.length pc'] := fun _ => rfl
  rw [eP]
  have E := putL_here [.int .i64 id, .int .i64 frm, .int .i64 dst, .string typ, .slice pa' P'.length pc'] 0 X2 _ HRX2.out
  have hbb : Below w.heap.size w (putL X2 (w.heap.size + 1) 0 [.int .i64 id, .int .i64 frm, .int .i64 dst, .string typ, .slice pa' P'.length pc']) := HCX2.out.trans ((putL_bel (w.heap.size + 1) _ _ X2).mono (by omega))
  have hoY : ∀ j, j ≠ w.heap.size → j ≠ w.heap.size + 1 → (putL X2 (w.heap.size + 1) 0 [.int .i64 id, .int .i64 frm, .int .i64 dst, .string typ, .slice pa' P'.length pc']).heap[j]? = w2.heap[j]? := fun j h1 h2 => (putL_other _ _ _ _ j h2).trans (HOX2.out j h1)
  have hsY : (putL X2 (w.heap.size + 1) 0 [.int .i64 id, .int .i64 frm, .int .i64 dst, .string typ, .slice pa' P'.length pc']).heap.size = w2.heap.size := by rw [putL_size, HSX2.out]
  generalize putL X2 (w.heap.size + 1) 0 [.int .i64 id, .int .i64 frm, .int .i64 dst, .string typ, .slice pa' P'.length pc'] = Y at E hbb hoY hsY ⊢
  have t0 := cell_of E 0
  have t1 := cell_of E 1
  have t2 := cell_of E 2
  have t3 := cell_of E 3
  have t4 := cell_of E 4
  simp [setL] at t0 t1 t2 t3 t4
  have hsx := HZ.out
  refine bodyPost_ret (v := Ed.val ⟨id, frm, dst, typ, P', pa', P'.length, pc'⟩) (by simp [results, Tryd.results44, go_sem, t0, t1, t2, t3, t4, Ed.val]) rfl ⟨⟨⟨id, frm, dst, typ, P', pa', P'.length, pc'⟩, rfl, ?_⟩, hbb⟩
  refine ⟨HN.out.1, HN.out.2.1, HN.out.2.2.1, HN.out.2.2.2.1, HN.out.2.2.2.2, ?_, ?_, ?_⟩
  · refine row_keep HPR.out fun g hg hgl => ?_
    have h1 := HPB.out g hg
    exact hoY g (by omega) (by omega)
  · intro g hg
    have h1 := HPB.out g hg
    show w.heap.size ≤ g
    omega
  · exact HPP.out.mono fun p x _ _ hp => hp.kept ⟨by rw [hsY]; exact Nat.le_refl _, fun j hj hjl => ⟨⟨by show w.heap.size ≤ j; have := hj.1; omega, hj.2⟩, hoY j (by have := hj.1; omega) (by have := hj.1; omega)⟩⟩
end Go.Proofs.YthikpmngcbgbfaaDoor
