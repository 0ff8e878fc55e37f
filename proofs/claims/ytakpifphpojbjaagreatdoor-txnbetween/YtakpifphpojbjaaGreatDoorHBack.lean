/-
  What is proved here: what txn.Back answers of a difference that may be read: the one turned around, in new memory.
-/
import Derived.Test.YtakpifphpojbjaaGreatDoorHBetween
namespace Go.Proofs.YtakpifphpojbjaaGreatDoor
open Go.RowKit
set_option linter.unusedVariables false

def BackEnd (w' : World) (G N : List AN) (H E : List AE) (f t : Int) (e : Ending) : Prop := ∃ v, e = .returned v ∧ DVal w' N G E H t f v

set_option maxHeartbeats 8000000 in
set_option maxRecDepth 100000 in
theorem back_any (G N : List AN) (H E : List AE) (ga : Option Addr) (gl gc : Nat) (na : Option Addr) (nl nc : Nat) (ha : Option Addr) (hl hc : Nat) (ea : Option Addr) (el ec : Nat) (f t : Int) (w : World)
    (hG : NsAt w G ga gl) (hN : NsAt w N na nl) (hH : EsAt w H ha hl) (hE : EsAt w E ea el) (hgl : gl ≤ 1000) (hnl : nl ≤ 1000) (hhl : hl ≤ 1000) (hel : el ≤ 1000) (oG : ∀ x ∈ G, x.ok) (oN : ∀ x ∈ N, x.ok) (oH : ∀ x ∈ H, x.ok) (oE : ∀ x ∈ E, x.ok) :
    Calls Tryz.prog 24 #[.agg #[.slice ga gl gc, .slice na nl nc, .slice ha hl hc, .slice ea el ec, .int .i64 f, .int .i64 t]] w fun e w' => BackEnd w' G N H E f t e ∧ Below w.heap.size w w' := by
  obtain ⟨n1, hn1⟩ : ∃ z, z = N.length := ⟨_, rfl⟩
  obtain ⟨n2, hn2⟩ : ∃ z, z = G.length := ⟨_, rfl⟩
  obtain ⟨n3, hn3⟩ : ∃ z, z = E.length := ⟨_, rfl⟩
  obtain ⟨n4, hn4⟩ : ∃ z, z = H.length := ⟨_, rfl⟩
  have HD : Hid (∀ W, Below w.heap.size w W → Calls Tryz.prog 47 #[.agg #[.slice na nl nc, .slice ga gl gc, .slice ea el ec, .slice ha hl hc, .int .i64 t, .int .i64 f]] W fun e w' => (∃ a1 c1 a2 c2 a3 c3 a4 c4, e = .returned (.agg #[.slice a1 n1 c1, .slice a2 n2 c2, .slice a3 n3 c3, .slice a4 n4 c4, .int .i64 t, .int .i64 f]) ∧ NsOwn (fun i => W.heap.size ≤ i) w' N (.slice a1 n1 c1) ∧ NsOwn (fun i => W.heap.size ≤ i) w' G (.slice a2 n2 c2) ∧ EsOwn (fun i => W.heap.size ≤ i) w' E (.slice a3 n3 c3) ∧ EsOwn (fun i => W.heap.size ≤ i) w' H (.slice a4 n4 c4)) ∧ Below W.heap.size W w') := fun W kW => (freshDelta_any N G E H na nl nc ga gl gc ea el ec ha hl hc t f W (hN.below kW) (hG.below kW) (hE.below kW) (hH.below kW) hnl hgl hel hhl oN oG oE oH).mono fun e w' ⟨h, k⟩ => ⟨by
    obtain ⟨a1, c1, a2, c2, a3, c3, a4, c4, he, u1, u2, u3, u4⟩ := h
    rw [← hn1, ← hn2, ← hn3, ← hn4] at he
    rw [← hn1] at u1
    rw [← hn2] at u2
    rw [← hn3] at u3
    rw [← hn4] at u4
    exact ⟨a1, c1, a2, c2, a3, c3, a4, c4, he, u1, u2, u3, u4⟩, k⟩
  have HLEN := toHid (show n1 = N.length ∧ n2 = G.length ∧ n3 = E.length ∧ n4 = H.length from ⟨hn1, hn2, hn3, hn4⟩)
  clear hG hN hH hE oG oN oH oE hgl hnl hhl hel hn1 hn2 hn3 hn4
  have b0 : Below w.heap.size w ((w.alloc (.cells #[.slice ga gl gc, .slice na nl nc, .slice ha hl hc, .slice ea el ec, .int .i64 f, .int .i64 t] 41)).alloc (.cells #[.slice none 0 0, .slice none 0 0, .slice none 0 0, .slice none 0 0, .int .i64 0, .int .i64 0] 41)) := ((Below.refl _ _).alloc (Nat.le_refl _) _).alloc (by simp) _
  have hy := alloc_two w (.cells #[.slice ga gl gc, .slice na nl nc, .slice ha hl hc, .slice ea el ec, .int .i64 f, .int .i64 t] 41) (.cells #[.slice none 0 0, .slice none 0 0, .slice none 0 0, .slice none 0 0, .int .i64 0, .int .i64 0] 41)
  have z0 : ((w.alloc (.cells #[.slice ga gl gc, .slice na nl nc, .slice ha hl hc, .slice ea el ec, .int .i64 f, .int .i64 t] 41)).alloc (.cells #[.slice none 0 0, .slice none 0 0, .slice none 0 0, .slice none 0 0, .int .i64 0, .int .i64 0] 41)).heap.size = w.heap.size + 2 := by simp
  have HB := toHid b0
  have HY := toHid hy
  have HZ := toHid z0
  clear b0 hy z0
  go_enter Tryz.func24, Tryz.ntmps24
  go_wp2_with fail
  refine (HD.out _ HB.out).mono ?_
  generalize (w.alloc (.cells #[.slice ga gl gc, .slice na nl nc, .slice ha hl hc, .slice ea el ec, .int .i64 f, .int .i64 t] 41)).alloc (.cells #[.slice none 0 0, .slice none 0 0, .slice none 0 0, .slice none 0 0, .int .i64 0, .int .i64 0] 41) = W at HB HY HZ ⊢
  rintro e w1 ⟨⟨a1, c1, a2, c2, a3, c3, a4, c4, rfl, v1, v2, v3, v4⟩, k1⟩
  have hr := (k1.block (w.heap.size + 1) (by rw [HZ.out]; omega)).trans HY.out
  have HBC := toHid (HB.out.trans (k1.mono HB.out.size))
  have s1 : w.heap.size + 2 ≤ w1.heap.size := by have := k1.size; rw [HZ.out] at this; exact this
  have r0 := cell_of hr 0
  have r1 := cell_of hr 1
  have r2 := cell_of hr 2
  have r3 := cell_of hr 3
  have r4 := cell_of hr 4
  have r5 := cell_of hr 5
  have g0 := free_of hr 0
  have g1 := free_of hr 1
  have g2 := free_of hr 2
  have g3 := free_of hr 3
  have g4 := free_of hr 4
  have g5 := free_of hr 5
  simp at r0 r1 r2 r3 r4 r5
  have HR := toHid hr
  have V1 := toHid v1
  have V2 := toHid v2
  have V3 := toHid v3
  have V4 := toHid v4
  clear hr v1 v2 v3 v4 k1
  go_wp2_with fail
  have eP : ∀ X : World, ((((((X.setCell ⟨w.heap.size + 1, 0, none⟩ (.slice a1 n1 c1)).setCell ⟨w.heap.size + 1, 1, none⟩ (.slice a2 n2 c2)).setCell ⟨w.heap.size + 1, 2, none⟩ (.slice a3 n3 c3)).setCell ⟨w.heap.size + 1, 3, none⟩ (.slice a4 n4 c4)).setCell ⟨w.heap.size + 1, 4, none⟩ (.int .i64 t)).setCell ⟨w.heap.size + 1, 5, none⟩ (.int .i64 f)) = putL X (w.heap.size + 1) 0 [.slice a1 n1 c1, .slice a2 n2 c2, .slice a3 n3 c3, .slice a4 n4 c4, .int .i64 t, .int .i64 f] := fun _ => rfl
  rw [eP]
  have E1 := putL_here [.slice a1 n1 c1, .slice a2 n2 c2, .slice a3 n3 c3, .slice a4 n4 c4, .int .i64 t, .int .i64 f] 0 w1 _ HR.out
  have hbb : Below w.heap.size w (putL w1 (w.heap.size + 1) 0 [.slice a1 n1 c1, .slice a2 n2 c2, .slice a3 n3 c3, .slice a4 n4 c4, .int .i64 t, .int .i64 f]) := HBC.out.trans ((putL_bel (w.heap.size + 1) _ _ w1).mono (by omega))
  have hK : Keep (fun i => W.heap.size ≤ i) AnyB w1 (putL w1 (w.heap.size + 1) 0 [.slice a1 n1 c1, .slice a2 n2 c2, .slice a3 n3 c3, .slice a4 n4 c4, .int .i64 t, .int .i64 f]) := ⟨by rw [putL_size]; exact Nat.le_refl _, fun i hi hl => ⟨trivial, putL_other _ _ _ _ i (by have := HZ.out; omega)⟩⟩
  generalize putL w1 (w.heap.size + 1) 0 [.slice a1 n1 c1, .slice a2 n2 c2, .slice a3 n3 c3, .slice a4 n4 c4, .int .i64 t, .int .i64 f] = Y at E1 hbb hK ⊢
  have t0 := cell_of E1 0
  have t1 := cell_of E1 1
  have t2 := cell_of E1 2
  have t3 := cell_of E1 3
  have t4 := cell_of E1 4
  have t5 := cell_of E1 5
  simp [setL] at t0 t1 t2 t3 t4 t5
  refine bodyPost_ret (v := .agg #[.slice a1 n1 c1, .slice a2 n2 c2, .slice a3 n3 c3, .slice a4 n4 c4, .int .i64 t, .int .i64 f]) (by simp [results, Tryz.results24, go_sem, t0, t1, t2, t3, t4, t5]) rfl ⟨⟨_, rfl, ?_⟩, hbb⟩
  have w1 := V1.out.kept hK
  have w2 := V2.out.kept hK
  have w3 := V3.out.kept hK
  have w4 := V4.out.kept hK
  obtain ⟨m1, m2, m3, m4⟩ := HLEN.out
  rw [m1] at w1 ⊢
  rw [m2] at w2 ⊢
  rw [m3] at w3 ⊢
  rw [m4] at w4 ⊢
  exact ⟨a1, c1, a2, c2, a3, c3, a4, c4, rfl, w1.reads2.2, w2.reads2.2, w3.reads2.2, w4.reads2.2⟩
end Go.Proofs.YtakpifphpojbjaaGreatDoor
