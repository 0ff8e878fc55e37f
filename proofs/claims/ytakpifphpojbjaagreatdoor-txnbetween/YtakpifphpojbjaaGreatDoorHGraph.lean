/-
  What is proved here: what fresh.Graph answers: the graph, all that it holds in rows of its own in new blocks.
-/
import Derived.Test.YtakpifphpojbjaaGreatDoorHEachN
import Derived.Test.YtakpifphpojbjaaGreatDoorHEachE
namespace Go.Proofs.YtakpifphpojbjaaGreatDoor
open Go.RowKit
set_option linter.unusedVariables false

theorem row_lt {w : World} {B n size : Nat} {e : TypeId} {v : Value} {xs : List Value} (h : w.ownsRow B e size v n xs) {g : Nat} (hg : v.ownBlock = some g) : g < w.heap.size := by
  rcases h.2 with ⟨h0, _⟩ | ⟨g', cap, cur, h0, _, h2, _⟩
  · rw [h0] at hg; cases hg
  · rw [h0] at hg
    have : g' = g := by simpa [Value.ownBlock] using hg
    subst this
    exact (Array.getElem?_eq_some_iff.1 h2).1

theorem NsOwn.kept {A A' : Nat → Prop} {w w' : World} {X : List AN} {v : Value} (h : NsOwn A w X v) (k : Keep A A' w w') : NsOwn A' w' X v := by
  obtain ⟨h1, N, h2, h3⟩ := h
  refine ⟨fun g hg => (k.2 g (h1 g hg) (row_lt h2 hg)).1, N, row_keep h2 fun g hg hl => (k.2 g (h1 g hg) hl).2, h3.mono fun p x _ _ hp => hp.kept ⟨k.1, fun i hi hl => ⟨⟨(k.2 i hi.1 hl).1, hi.2⟩, (k.2 i hi.1 hl).2⟩⟩⟩

theorem EsOwn.kept {A A' : Nat → Prop} {w w' : World} {X : List AE} {v : Value} (h : EsOwn A w X v) (k : Keep A A' w w') : EsOwn A' w' X v := by
  obtain ⟨h1, N, h2, h3⟩ := h
  refine ⟨fun g hg => (k.2 g (h1 g hg) (row_lt h2 hg)).1, N, row_keep h2 fun g hg hl => (k.2 g (h1 g hg) hl).2, h3.mono fun p x _ _ hp => hp.kept ⟨k.1, fun i hi hl => ⟨⟨(k.2 i hi.1 hl).1, hi.2⟩, (k.2 i hi.1 hl).2⟩⟩⟩

/-- The answer of Graph: nodes and edges in rows of their own, apart from each other. -/
def GraphEnd (W w' : World) (XN : List AN) (XE : List AE) (next : Int) (e : Ending) : Prop :=
  ∃ nv ev m, e = .returned (.agg #[nv, ev, .int .i64 next]) ∧ W.heap.size ≤ m ∧ NsOwn (fun i => W.heap.size ≤ i ∧ i < m) w' XN nv ∧ EsOwn (fun i => m ≤ i) w' XE ev

set_option maxHeartbeats 8000000 in
set_option maxRecDepth 100000 in
theorem freshGraph_any (XN : List AN) (XE : List AE) (na : Option Addr) (nl nc : Nat) (ea : Option Addr) (el ec : Nat) (next : Int) (w : World) (hN : NsAt w XN na nl) (hE : EsAt w XE ea el) (hnl : nl ≤ 1000) (hel : el ≤ 1000) (hNo : ∀ x ∈ XN, x.ok) (hEo : ∀ x ∈ XE, x.ok) :
    Calls Tryz.prog 31 #[.agg #[.slice na nl nc, .slice ea el ec, .int .i64 next]] w fun e w' => GraphEnd w w' XN XE next e ∧ Below w.heap.size w w' := by
  have HN : Hid (∀ W, Below w.heap.size w W → Calls Tryz.prog 62 #[.slice na nl nc, .func (.func 63) #[] #[]] W fun e w' => NsOwnEnd W w' XN e ∧ Below W.heap.size W w') := fun W kW => each_nodes XN na nl nc W (hN.below kW) hnl hNo
  have HE : Hid (∀ W, Below w.heap.size w W → Calls Tryz.prog 64 #[.slice ea el ec, .func (.func 65) #[] #[]] W fun e w' => EsOwnEnd W w' XE e ∧ Below W.heap.size W w') := fun W kW => each_edges XE ea el ec W (hE.below kW) hel hEo
  clear hN hE hNo hEo
  have b0 : Below w.heap.size w ((w.alloc (.cells #[.slice na nl nc, .slice ea el ec, .int .i64 next] 25)).alloc (.cells #[.slice none 0 0, .slice none 0 0, .int .i64 0] 25)) := ((Below.refl _ _).alloc (Nat.le_refl _) _).alloc (by simp) _
  have hx := (Below.heap_alloc (w.alloc (.cells #[.slice na nl nc, .slice ea el ec, .int .i64 next] 25)) (.cells #[.slice none 0 0, .slice none 0 0, .int .i64 0] 25) w.heap.size (by simp)).trans (alloc_new w (.cells #[.slice na nl nc, .slice ea el ec, .int .i64 next] 25))
  have hy := alloc_two w (.cells #[.slice na nl nc, .slice ea el ec, .int .i64 next] 25) (.cells #[.slice none 0 0, .slice none 0 0, .int .i64 0] 25)
  have z0 : ((w.alloc (.cells #[.slice na nl nc, .slice ea el ec, .int .i64 next] 25)).alloc (.cells #[.slice none 0 0, .slice none 0 0, .int .i64 0] 25)).heap.size = w.heap.size + 2 := by simp
  have HB := toHid b0
  have HX := toHid hx
  have HY := toHid hy
  have HZ := toHid z0
  clear b0 hx hy z0
  go_enter Tryz.func31, Tryz.ntmps31
  go_wp2_with fail
  refine (HN.out _ HB.out).mono ?_
  generalize (w.alloc (.cells #[.slice na nl nc, .slice ea el ec, .int .i64 next] 25)).alloc (.cells #[.slice none 0 0, .slice none 0 0, .int .i64 0] 25) = W at HB HX HY HZ ⊢
  rintro e w1 ⟨⟨nv, rfl, hns⟩, k1⟩
  have S1 : w.heap.size + 2 ≤ w1.heap.size := by have := k1.size; rw [HZ.out] at this; exact this
  have HNS := toHid hns
  have HV1 := toHid ((k1.block w.heap.size (by rw [HZ.out]; omega)).trans HX.out)
  have HR1 := toHid ((k1.block (w.heap.size + 1) (by rw [HZ.out]; omega)).trans HY.out)
  have HC1 := toHid (HB.out.trans (k1.mono HB.out.size))
  clear hns k1
  obtain ⟨na1, nc1, hnv, _, _⟩ := HNS.out.reads
  have x1 := cell_of HV1.out 0
  have f1 := free_of HV1.out 0
  simp at x1
  have hlt : w.heap.size < w1.heap.size := by omega
  obtain ⟨nl1, hnl1⟩ : ∃ z, z = XN.length := ⟨_, rfl⟩
  rw [← hnl1] at hnv
  subst hnv
  clear hnl1
  obtain ⟨X1, hX1⟩ : ∃ X, X = w1.setCell ⟨w.heap.size, 0, none⟩ (.slice na1 nl1 nc1) := ⟨_, rfl⟩
  have hvX : X1.heap[w.heap.size]? = some (.cells #[.slice na1 nl1 nc1, .slice ea el ec, .int .i64 next] 25 (0, 0)) := by rw [hX1, set_here HV1.out]; rfl
  have hoX : ∀ j, j ≠ w.heap.size → X1.heap[j]? = w1.heap[j]? := fun j hj => by rw [hX1]; exact Below.heap_setCell w1 ⟨w.heap.size, 0, none⟩ _ j hj
  have hsX : X1.heap.size = w1.heap.size := by rw [hX1]; simp [World.setCell]
  have hcX : Below w.heap.size w X1 := by rw [hX1]; exact HC1.out.setCell (p := ⟨w.heap.size, 0, none⟩) (Nat.le_refl _) _
  have hX1s : w1.setCell ⟨w.heap.size, 0, none⟩ (.slice na1 nl1 nc1) = X1 := hX1.symm
  have y1 := cell_of hvX 1
  simp at y1
  have HVX := toHid hvX
  have HOX := toHid hoX
  have HSX := toHid hsX
  have HCX := toHid hcX
  clear hX1 hvX hoX hsX hcX
  go_wp2_with fail
  refine (HE.out _ HCX.out).mono ?_
  rintro e w2 ⟨⟨ev, rfl, hes⟩, k2⟩
  have s2 : X1.heap.size ≤ w2.heap.size := k2.size
  have HES := toHid hes
  have HV2 := toHid ((k2.block w.heap.size (by rw [HSX.out]; omega)).trans HVX.out)
  have HR2 := toHid ((k2.block (w.heap.size + 1) (by rw [HSX.out]; omega)).trans ((HOX.out (w.heap.size + 1) (by omega)).trans HR1.out))
  have HC2 := toHid (HCX.out.trans (k2.mono HCX.out.size))
  have HK2 := toHid k2
  clear hes k2
  obtain ⟨ea1, ec1, hev, _, _⟩ := HES.out.reads
  obtain ⟨el1, hel1⟩ : ∃ z, z = XE.length := ⟨_, rfl⟩
  rw [← hel1] at hev
  subst hev
  clear hel1
  have z2 := cell_of HV2.out 1
  have e2 := free_of HV2.out 1
  simp at z2
  have hlt2 : w.heap.size < w2.heap.size := by rw [HSX.out] at s2; omega
  obtain ⟨X2, hX2⟩ : ∃ X, X = w2.setCell ⟨w.heap.size, 1, none⟩ (.slice ea1 el1 ec1) := ⟨_, rfl⟩
  have hvX2 : X2.heap[w.heap.size]? = some (.cells #[.slice na1 nl1 nc1, .slice ea1 el1 ec1, .int .i64 next] 25 (0, 0)) := by rw [hX2, set_here HV2.out]; rfl
  have hoX2 : ∀ j, j ≠ w.heap.size → X2.heap[j]? = w2.heap[j]? := fun j hj => by rw [hX2]; exact Below.heap_setCell w2 ⟨w.heap.size, 1, none⟩ _ j hj
  have hsX2 : X2.heap.size = w2.heap.size := by rw [hX2]; simp [World.setCell]
  have hcX2 : Below w.heap.size w X2 := by rw [hX2]; exact HC2.out.setCell (p := ⟨w.heap.size, 1, none⟩) (Nat.le_refl _) _
  have hrX2 : X2.heap[w.heap.size + 1]? = some (.cells #[.slice none 0 0, .slice none 0 0, .int .i64 0] 25 (0, 0)) := (hoX2 (w.heap.size + 1) (by omega)).trans HR2.out
  have hX2s : w2.setCell ⟨w.heap.size, 1, none⟩ (.slice ea1 el1 ec1) = X2 := hX2.symm
  have q0 := cell_of hvX2 0
  have q1 := cell_of hvX2 1
  have q2 := cell_of hvX2 2
  have r0 := cell_of hrX2 0
  have r1 := cell_of hrX2 1
  have r2 := cell_of hrX2 2
  have g0 := free_of hrX2 0
  have g1 := free_of hrX2 1
  have g2 := free_of hrX2 2
  simp at q0 q1 q2 r0 r1 r2
  have HRX2 := toHid hrX2
  have HOX2 := toHid hoX2
  have HSX2 := toHid hsX2
  have HCX2 := toHid hcX2
  clear hX2 hvX2 hrX2 hoX2 hsX2 hcX2
  go_wp2_with fail
  have eP : ∀ X : World, ((X.setCell ⟨w.heap.size + 1, 0, none⟩ (.slice na1 nl1 nc1)).setCell ⟨w.heap.size + 1, 1, none⟩ (.slice ea1 el1 ec1)).setCell ⟨w.heap.size + 1, 2, none⟩ (.int .i64 next) = putL X (w.heap.size + 1) 0 [.slice na1 nl1 nc1, .slice ea1 el1 ec1, .int .i64 next] := fun _ => rfl
  rw [eP]
  have E := putL_here [.slice na1 nl1 nc1, .slice ea1 el1 ec1, .int .i64 next] 0 X2 _ HRX2.out
  have hbb : Below w.heap.size w (putL X2 (w.heap.size + 1) 0 [.slice na1 nl1 nc1, .slice ea1 el1 ec1, .int .i64 next]) := HCX2.out.trans ((putL_bel (w.heap.size + 1) _ _ X2).mono (by omega))
  have hoY : ∀ j, j ≠ w.heap.size → j ≠ w.heap.size + 1 → (putL X2 (w.heap.size + 1) 0 [.slice na1 nl1 nc1, .slice ea1 el1 ec1, .int .i64 next]).heap[j]? = w2.heap[j]? := fun j h1 h2 => (putL_other _ _ _ _ j h2).trans (HOX2.out j h1)
  have hsY : (putL X2 (w.heap.size + 1) 0 [.slice na1 nl1 nc1, .slice ea1 el1 ec1, .int .i64 next]).heap.size = w2.heap.size := by rw [putL_size, HSX2.out]
  generalize putL X2 (w.heap.size + 1) 0 [.slice na1 nl1 nc1, .slice ea1 el1 ec1, .int .i64 next] = Y at E hbb hoY hsY ⊢
  have t0 := cell_of E 0
  have t1 := cell_of E 1
  have t2 := cell_of E 2
  simp [setL] at t0 t1 t2
  have hsx := HSX.out
  have hzz := HZ.out
  refine bodyPost_ret (v := .agg #[.slice na1 nl1 nc1, .slice ea1 el1 ec1, .int .i64 next]) (by simp [results, Tryz.results31, go_sem, t0, t1, t2]) rfl ⟨⟨.slice na1 nl1 nc1, .slice ea1 el1 ec1, w1.heap.size, rfl, by omega, ?_, ?_⟩, hbb⟩
  · refine HNS.out.kept ⟨by rw [hsY]; omega, fun i hi hl => ⟨⟨by omega, hl⟩, ?_⟩⟩
    rw [hoY i (by omega) (by omega), HK2.out.block i (by omega), HOX.out i (by omega)]
  · exact HES.out.kept ⟨by rw [hsY]; exact Nat.le_refl _, fun i hi hl => ⟨by omega, hoY i (by omega) (by omega)⟩⟩
end Go.Proofs.YtakpifphpojbjaaGreatDoor
