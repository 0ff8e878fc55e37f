/-
  What is proved here: what the texts HBack, HNum, HNumber, HPutN, HBox, HAddN prove, in one text.
-/
import Derived.Test.YtdlmlpddkfnfmaaGreatDoorQMAX
import Derived.Test.YtdlmlpddkfnfmaaGreatDoorQMAO
import Derived.Test.YtdlmlpddkfnfmaaGreatDoorQMAE
import Derived.Deep.RegionHeld3
import Derived.Deep.RegionLaw
namespace Go.Proofs.YtdlmlpddkfnfmaaGreatDoor
open Go.RowKit
set_option linter.unusedVariables false

def BackEnd (w' : World) (G N : List AN) (H E : List AE) (f t : Int) (e : Ending) : Prop := ∃ v, e = .returned v ∧ DVal w' N G E H t f v

set_option maxHeartbeats 8000000 in
set_option maxRecDepth 100000 in
theorem back_any (G N : List AN) (H E : List AE) (ga : Option Addr) (gl gc : Nat) (na : Option Addr) (nl nc : Nat) (ha : Option Addr) (hl hc : Nat) (ea : Option Addr) (el ec : Nat) (f t : Int) (w : World)
    (hG : NsAt w G ga gl) (hN : NsAt w N na nl) (hH : EsAt w H ha hl) (hE : EsAt w E ea el) (hgl : gl ≤ 1000) (hnl : nl ≤ 1000) (hhl : hl ≤ 1000) (hel : el ≤ 1000) (oG : ∀ x ∈ G, x.ok) (oN : ∀ x ∈ N, x.ok) (oH : ∀ x ∈ H, x.ok) (oE : ∀ x ∈ E, x.ok) :
    Calls Tryz.prog 24 #[.agg #[.slice ga gl gc, .slice na nl nc, .slice ha hl hc, .slice ea el ec, .int .i64 f, .int .i64 t]] w fun e w' => BackEnd w' G N H E f t e ∧ Below w.heap.size w w' := by
  obtain ⟨n1, hn1⟩ : ∃ z, z = N.length := ⟨_, rfl⟩
  obtain ⟨n2, hn2⟩ : ∃ z, z = G.length := ⟨_, rfl⟩
  obtain ⟨n3, hn3⟩ : ∃ z, z = E.length := ⟨_, rfl⟩
  obtain ⟨n4, hn4⟩ : ∃ z, z = H.length := ⟨_, rfl⟩
  have HD : Hid (∀ W, Below w.heap.size w W → Calls Tryz.prog 47 #[.agg #[.slice na nl nc, .slice ga gl gc, .slice ea el ec, .slice ha hl hc, .int .i64 t, .int .i64 f]] W fun e w' => (∃ a1 c1 a2 c2 a3 c3 a4 c4, e = .returned (.agg #[.slice a1 n1 c1, .slice a2 n2 c2, .slice a3 n3 c3, .slice a4 n4 c4, .int .i64 t, .int .i64 f]) ∧ NsOwn (fun i => W.heap.size ≤ i) w' N (.slice a1 n1 c1) ∧ NsOwn (fun i => W.heap.size ≤ i) w' G (.slice a2 n2 c2) ∧ EsOwn (fun i => W.heap.size ≤ i) w' E (.slice a3 n3 c3) ∧ EsOwn (fun i => W.heap.size ≤ i) w' H (.slice a4 n4 c4)) ∧ Below W.heap.size W w') := fun W kW => (freshDelta_any N G E H na nl nc ga gl gc ea el ec ha hl hc t f W (hN.below kW) (hG.below kW) (hE.below kW) (hH.below kW) hnl hgl hel hhl oN oG oE oH).mono fun e w' ⟨h, k⟩ => ⟨by
    obtain ⟨a1, c1, a2, c2, a3, c3, a4, c4, he, u1, u2, u3, u4⟩ := h
    rw [← hn1, ← hn2, ← hn3, ← hn4] at he
    rw [← hn1] at u1
    rw [← hn2] at u2
    rw [← hn3] at u3
    rw [← hn4] at u4
    exact ⟨a1, c1, a2, c2, a3, c3, a4, c4, he, u1, u2, u3, u4⟩, k⟩
  have HLEN := toHid (show n1 = N.length ∧ n2 = G.length ∧ n3 = E.length ∧ n4 = H.length from ⟨hn1, hn2, hn3, hn4⟩)
  clear hG hN hH hE oG oN oH oE hgl hnl hhl hel hn1 hn2 hn3 hn4
  have b0 : Below w.heap.size w ((w.alloc (.cells #[.slice ga gl gc, .slice na nl nc, .slice ha hl hc, .slice ea el ec, .int .i64 f, .int .i64 t] 41)).alloc (.cells #[.slice none 0 0, .slice none 0 0, .slice none 0 0, .slice none 0 0, .int .i64 0, .int .i64 0] 41)) := ((Below.refl _ _).alloc (Nat.le_refl _) _).alloc (by simp) _
  have hy := alloc_two w (.cells #[.slice ga gl gc, .slice na nl nc, .slice ha hl hc, .slice ea el ec, .int .i64 f, .int .i64 t] 41) (.cells #[.slice none 0 0, .slice none 0 0, .slice none 0 0, .slice none 0 0, .int .i64 0, .int .i64 0] 41)
  have z0 : ((w.alloc (.cells #[.slice ga gl gc, .slice na nl nc, .slice ha hl hc, .slice ea el ec, .int .i64 f, .int .i64 t] 41)).alloc (.cells #[.slice none 0 0, .slice none 0 0, .slice none 0 0, .slice none 0 0, .int .i64 0, .int .i64 0] 41)).heap.size = w.heap.size + 2 := by simp
  have HB := toHid b0
  have HY := toHid hy
  have HZ := toHid z0
  clear b0 hy z0
  go_enter Tryz.func24, Tryz.ntmps24
  go_wp2_with fail
  refine (HD.out _ HB.out).mono ?_
  generalize (w.alloc (.cells #[.slice ga gl gc, .slice na nl nc, .slice ha hl hc, .slice ea el ec, .int .i64 f, .int .i64 t] 41)).alloc (.cells #[.slice none 0 0, .slice none 0 0, .slice none 0 0, .slice none 0 0, .int .i64 0, .int .i64 0] 41) = W at HB HY HZ ⊢
  rintro e w1 ⟨⟨a1, c1, a2, c2, a3, c3, a4, c4, rfl, v1, v2, v3, v4⟩, k1⟩
  have hr := (k1.block (w.heap.size + 1) (by rw [HZ.out]; omega)).trans HY.out
  have HBC := toHid (HB.out.trans (k1.mono HB.out.size))
  have s1 : w.heap.size + 2 ≤ w1.heap.size := by have := k1.size; rw [HZ.out] at this; exact this
  have r0 := cell_of hr 0
  have r1 := cell_of hr 1
  have r2 := cell_of hr 2
  have r3 := cell_of hr 3
  have r4 := cell_of hr 4
  have r5 := cell_of hr 5
  have g0 := free_of hr 0
  have g1 := free_of hr 1
  have g2 := free_of hr 2
  have g3 := free_of hr 3
  have g4 := free_of hr 4
  have g5 := free_of hr 5
  simp at r0 r1 r2 r3 r4 r5
  have HR := toHid hr
  have V1 := toHid v1
  have V2 := toHid v2
  have V3 := toHid v3
  have V4 := toHid v4
  clear hr v1 v2 v3 v4 k1
  go_wp2_with fail
  have eP : ∀ X : World, ((((((X.setCell ⟨w.heap.size + 1, 0, none⟩ (.slice a1 n1 c1)).setCell ⟨w.heap.size + 1, 1, none⟩ (.slice a2 n2 c2)).setCell ⟨w.heap.size + 1, 2, none⟩ (.slice a3 n3 c3)).setCell ⟨w.heap.size + 1, 3, none⟩ (.slice a4 n4 c4)).setCell ⟨w.heap.size + 1, 4, none⟩ (.int .i64 t)).setCell ⟨w.heap.size + 1, 5, none⟩ (.int .i64 f)) = putL X (w.heap.size + 1) 0 [.slice a1 n1 c1, .slice a2 n2 c2, .slice a3 n3 c3, .slice a4 n4 c4, .int .i64 t, .int .i64 f] := fun _ => rfl
  rw [eP]
  have E1 := putL_here [.slice a1 n1 c1, .slice a2 n2 c2, .slice a3 n3 c3, .slice a4 n4 c4, .int .i64 t, .int .i64 f] 0 w1 _ HR.out
  have hbb : Below w.heap.size w (putL w1 (w.heap.size + 1) 0 [.slice a1 n1 c1, .slice a2 n2 c2, .slice a3 n3 c3, .slice a4 n4 c4, .int .i64 t, .int .i64 f]) := HBC.out.trans ((putL_bel (w.heap.size + 1) _ _ w1).mono (by omega))
  have hK : Keep (fun i => W.heap.size ≤ i) AnyB w1 (putL w1 (w.heap.size + 1) 0 [.slice a1 n1 c1, .slice a2 n2 c2, .slice a3 n3 c3, .slice a4 n4 c4, .int .i64 t, .int .i64 f]) := ⟨by rw [putL_size]; exact Nat.le_refl _, fun i hi hl => ⟨trivial, putL_other _ _ _ _ i (by have := HZ.out; omega)⟩⟩
  generalize putL w1 (w.heap.size + 1) 0 [.slice a1 n1 c1, .slice a2 n2 c2, .slice a3 n3 c3, .slice a4 n4 c4, .int .i64 t, .int .i64 f] = Y at E1 hbb hK ⊢
  have t0 := cell_of E1 0
  have t1 := cell_of E1 1
  have t2 := cell_of E1 2
  have t3 := cell_of E1 3
  have t4 := cell_of E1 4
  have t5 := cell_of E1 5
  simp [setL] at t0 t1 t2 t3 t4 t5
  refine bodyPost_ret (v := .agg #[.slice a1 n1 c1, .slice a2 n2 c2, .slice a3 n3 c3, .slice a4 n4 c4, .int .i64 t, .int .i64 f]) (by simp [results, Tryz.results24, go_sem, t0, t1, t2, t3, t4, t5]) rfl ⟨⟨_, rfl, ?_⟩, hbb⟩
  have w1 := V1.out.kept hK
  have w2 := V2.out.kept hK
  have w3 := V3.out.kept hK
  have w4 := V4.out.kept hK
  obtain ⟨m1, m2, m3, m4⟩ := HLEN.out
  rw [m1] at w1 ⊢
  rw [m2] at w2 ⊢
  rw [m3] at w3 ⊢
  rw [m4] at w4 ⊢
  exact ⟨a1, c1, a2, c2, a3, c3, a4, c4, rfl, w1.reads2.2, w2.reads2.2, w3.reads2.2, w4.reads2.2⟩

theorem infoI0 : (Tryz.prog.info? 3).map (fun i => (i.zero, i.size, i.bytes)) = some (some (.int .i64 0), 1, 8) := by kernel_rfl
theorem infoI : ∃ i, Tryz.prog.info? 3 = some i ∧ i.zero = some (.int .i64 0) ∧ i.size = 1 ∧ i.bytes = 8 := by
  have h := infoI0
  cases hi : Tryz.prog.info? 3 with
  | none => rw [hi] at h; cases h
  | some i => rw [hi] at h; simp at h; exact ⟨i, rfl, h.1, h.2.1, h.2.2⟩

theorem full_any (b : Nat) (nv ev mv : Value) (nx : Int) (w : World) (hb : w.heap[b]? = some (.cells #[nv, ev, .int .i64 nx, mv] 69 (0, 0))) :
    Calls Tryz.prog 115 #[.pointer (some ⟨b, 0, none⟩)] w fun e w' => e = .returned (.bool (decide (1099511627776 ≤ nx))) ∧ w' = w := by
  have x2 := cell_of hb 2
  simp at x2
  go_enter Tryz.func115, Tryz.ntmps115
  go_wp2_with fail
  go_ret
  exact ⟨rfl, rfl⟩

/-- What a number means: itself, or, below 0, what was made. -/
def meantI (made : List Int) (id : Int) : Int := if 0 ≤ id then id else (made[(-1 - id).toNat]?).getD 0

theorem meant_pos (b : Nat) (made : List Int) (id : Int) (w : World) (hid : 0 ≤ id) :
    Calls Tryz.prog 73 #[.pointer (some ⟨b, 0, none⟩), .int .i64 id] w fun e w' => e = .returned (.int .i64 (meantI made id)) ∧ w' = w := by
  have hm : meantI made id = id := by rw [meantI, if_pos hid]
  rw [hm]
  clear hm
  go_enter Tryz.func73, Tryz.ntmps73
  go_wp2_with fail
  go_ret
  exact ⟨rfl, rfl⟩

theorem meant_neg (b : Nat) (nv ev : Value) (nx : Int) (ma : Option Addr) (mc : Nat) (made : List Int) (id : Int) (w : World) (hb : w.heap[b]? = some (.cells #[nv, ev, .int .i64 nx, .slice ma made.length mc] 69 (0, 0))) (hr : w.ownsRow 0 3 1 (.slice ma made.length mc) made.length (ints made)) (hid : id < 0) (hid2 : -9223372036854775808 ≤ id) (hml : made.length ≤ 1000) :
    Calls Tryz.prog 73 #[.pointer (some ⟨b, 0, none⟩), .int .i64 id] w fun e w' => e = .returned (.int .i64 (meantI made id)) ∧ w' = w := by
  obtain ⟨i, hi⟩ : ∃ i : Nat, -1 - id = i := ⟨(-1 - id).toNat, by omega⟩
  have x3 := cell_of hb 3
  simp at x3
  obtain ⟨ml, hml2⟩ : ∃ z, z = made.length := ⟨_, rfl⟩
  rw [← hml2] at x3
  have hw : IntKind.i64.wrap (-1 - id) = (i : Int) := by rw [hi, IntKind.wrap_i64]; omega
  have hng : decide (id ≥ 0) = false := by simp; omega
  by_cases hlt : i < ml
  · obtain ⟨z, hz⟩ : ∃ z, made[i]? = some z := ⟨made[i], List.getElem?_eq_getElem (by omega)⟩
    have hm : meantI made id = z := by
      rw [meantI, if_neg (by omega), hi, Int.toNat_natCast, hz]; rfl
    rw [hm]
    obtain ⟨g, ha, _, _, hg, hc⟩ := row_at hr (by omega)
    have c := hc i (.int .i64 z) (by rw [ints, List.getElem?_map, hz]; rfl)
    rw [Nat.zero_add] at c
    subst ha
    have hil : (i : Int) < ml := by omega
    have HH := toHid hml2
    clear hml2 hm hr hc hb hz hi
    go_enter Tryz.func73, Tryz.ntmps73
    go_wp2_with fail
    go_ret
    exact ⟨rfl, rfl⟩
  · have hm : meantI made id = 0 := by
      rw [meantI, if_neg (by omega), hi, Int.toNat_natCast, List.getElem?_eq_none (by omega)]; rfl
    rw [hm]
    have hil : ¬ ((i : Int) < ml) := by omega
    have HH := toHid hml2
    clear hml2 hm hr hb hi
    go_enter Tryz.func73, Tryz.ntmps73
    go_wp2_with fail
    go_ret
    exact ⟨rfl, rfl⟩

/-- The answer of node: nobody, or where it lies. -/
def WNodeEnd (N : List Nd) (na : Option Addr) (t : Int) (e : Ending) : Prop :=
  (hasN N t = false ∧ e = .returned (.pointer none)) ∨ (hasN N t = true ∧ ∃ (i g o : Nat) (x : Nd), na = some ⟨g, o, none⟩ ∧ e = .returned (.pointer (some ⟨g, o + i * 3, none⟩)) ∧ N[i]? = some x ∧ x.id = t)

set_option maxHeartbeats 2000000 in
theorem wnode_any (N : List Nd) (b : Nat) (na : Option Addr) (nl nc : Nat) (ev mv : Value) (nx t : Int) (w : World) (hb : w.heap[b]? = some (.cells #[.slice na nl nc, ev, .int .i64 nx, mv] 69 (0, 0))) (h : NodesAt w N na nl) (h60 : nl ≤ 60) (hr : Rise (N.map Nd.id)) :
    Calls Tryz.prog 117 #[.pointer (some ⟨b, 0, none⟩), .int .i64 t] w fun e w' => WNodeEnd N na t e ∧ Below w.heap.size w w' := by
  have x0 := cell_of hb 0
  simp at x0
  have hbl : b < w.heap.size := (Array.getElem?_eq_some_iff.1 hb).1
  have HF := toHid (node_find N na nl nc t w h h60 hr)
  have HA := toHid h
  clear h hr
  go_enter Tryz.func117, Tryz.ntmps117
  go_wp2_with fail
  refine HF.out.mono ?_
  rintro e w' ⟨⟨i, f, rfl, hy, hn⟩, k⟩
  have x0' := (k.cell (p := ⟨b, 0, none⟩) hbl).trans x0
  cases f
  · have hn' := hn rfl
    have hf : hasN N t = false := by simp [hasN]; simpa using hn'
    have HFF := toHid hf
    clear hy hn hn' hf
    go_wp2_with fail
    go_ret
    exact ⟨.inl ⟨HFF.out, rfl⟩, k⟩
  · have hy' := hy rfl
    have ht : hasN N t = true := by simp only [hasN, decide_eq_true_eq]; exact List.mem_of_getElem? hy'
    rw [List.getElem?_map] at hy'
    cases hx : N[i]? with
    | none => rw [hx] at hy'; cases hy'
    | some x =>
      rw [hx] at hy'
      have hid : x.id = t := by injection hy'
      have hil : i < nl := by rw [HA.out.1]; exact (List.getElem?_eq_some_iff.1 hx).1
      obtain ⟨g, o, rfl, _, _⟩ := HA.out.2.2 (by omega)
      have HX := toHid (show hasN N t = true ∧ N[i]? = some x ∧ x.id = t from ⟨ht, hx, hid⟩)
      have hil2 : (i : Int) < nl := by omega
      clear hy hn hy' ht hx hid
      go_wp2_with fail
      go_ret
      exact ⟨.inr ⟨HX.out.1, i, g, o, x, rfl, by simp, HX.out.2⟩, k⟩

def WS.numbered (S : WS) : WS := ⟨S.N, S.E, S.next + 1, S.made ++ [S.next]⟩

set_option maxHeartbeats 4000000 in
set_option maxRecDepth 100000 in
theorem number_any (O : Nat → Prop) (b : Nat) (S : WS) (w : World) (h : WorkIn O w b S) (hm : S.made.length ≤ 1000) (hn0 : 0 ≤ S.next) (hn : S.next ≤ 4611686018427387904) :
    Calls Tryz.prog 116 #[.pointer (some ⟨b, 0, none⟩)] w fun e w' => e = .returned (.int .i64 S.next) ∧ StepEnd O w w' b S.numbered := by
  obtain ⟨na, nc, ea, ec, ma, mc, PN, PE, PM, hw⟩ := h
  have HW := toHid hw
  have hlb := hw.lt b hw.ob
  obtain ⟨nx, hnx⟩ : ∃ z, z = S.next := ⟨_, rfl⟩
  obtain ⟨ml, hml⟩ : ∃ z, z = S.made.length := ⟨_, rfl⟩
  have hblk := hw.blk
  rw [← hnx, ← hml] at hblk
  rw [← hnx] at hn hn0
  rw [← hml] at hm
  have hmr := hw.mr
  rw [← hml] at hmr
  have HNX := toHid hnx
  have HML := toHid hml
  rw [← hnx]
  clear hw hnx hml
  obtain ⟨X, hX⟩ : ∃ X, X = w.setCell ⟨b, 2, none⟩ (.int .i64 (nx + 1)) := ⟨_, rfl⟩
  have hXb : X.heap[b]? = some (.cells #[.slice na S.N.length nc, .slice ea S.E.length ec, .int .i64 (nx + 1), .slice ma ml mc] 69 (0, 0)) := by rw [hX, set_here hblk]; rfl
  have hXo : ∀ j, j ≠ b → X.heap[j]? = w.heap[j]? := fun j hj => by rw [hX]; exact Below.heap_setCell w ⟨b, 2, none⟩ _ j hj
  have hXs : X.heap.size = w.heap.size := by rw [hX]; simp [World.setCell]
  have hXf : X.os = w.os ∧ X.tape = w.tape ∧ X.output = w.output := by rw [hX]; exact ⟨rfl, rfl, rfl⟩
  have hXe : w.setCell ⟨b, 2, none⟩ (.int .i64 (nx + 1)) = X := hX.symm
  have x2 := cell_of hblk 2
  have f2 := free_of hblk 2
  have y3 := cell_of hXb 3
  simp at x2 y3
  have hgb : ∀ g, (Value.slice ma ml mc).ownBlock = some g → g ≠ b := fun g hg => by
    have := HW.out.ms g (by rw [← HML.out]; exact hg)
    exact (HW.out.pm g this).2.1
  have hown : X.ownsRow 0 3 1 (.slice ma ml mc) ml (ints S.made) := row_keep hmr fun g hg _ => hXo g (hgb g hg)
  have HOWN := toHid hown
  have HXB := toHid hXb
  have HXO := toHid hXo
  have HXS := toHid hXs
  have HXF := toHid hXf
  have HGB := toHid hgb
  have HBK := toHid hblk
  clear hX hXb hXo hXs hXf hgb hmr hown hblk
  obtain ⟨i0, hi0, hiz, his, hib⟩ := infoI
  have HI0 := toHid hi0
  have HIZ := toHid hiz
  have HIS := toHid his
  have HIB := toHid hib
  clear hi0 hiz his hib
  have HBy : (ml + 1) * 8 ≤ 140737488355328 := by omega
  have HBm : ml + 1 ≤ maxLen := by unfold maxLen; omega
  go_enter Tryz.func116, Tryz.ntmps116
  go_wp2_with (at_builtin; refine wpList_append_lies _ rfl _ _ 29 rfl 0 3 i0 _ 1 8 Tryz.underlying29 HI0.out HIZ.out HIS.out HIB.out rfl (by omega) (.slice ma ml mc) ml (ints S.made) rfl (HOWN.out.alloc _) ⟨X.heap.size, 0, none⟩ 1 1 [.int .i64 nx] rfl rfl (World.news_of_block (cs := #[.int .i64 nx]) (t := 3) (fr := (0, 0)) (alloc_new X _)) (by simp [Value.oneCell']) (by omega) HBm HBy (Nat.zero_le _) (X.heap.size + 1) (by simp) ?_)
  intro gg cap w5 hown5 hgrow hat5 hlt5
  have hb5 : w5.heap[b]? = some (.cells #[.slice na S.N.length nc, .slice ea S.E.length ec, .int .i64 (nx + 1), .slice ma ml mc] 69 (0, 0)) := by
    rw [hgrow.block b (by simp; rw [HXS.out]; omega) (fun e => HGB.out b e.symm rfl), Below.heap_alloc X _ b (by rw [HXS.out]; omega)]
    exact HXB.out
  have hs5 : w.heap.size + 1 ≤ w5.heap.size := by have := hgrow.size; simp at this; rw [HXS.out] at this; exact this
  have ho5 : ∀ j, j < w.heap.size → j ≠ b → (Value.slice ma ml mc).ownBlock ≠ some j → w5.heap[j]? = w.heap[j]? := fun j hj hjb hjo => by
    rw [hgrow.block j (by simp; rw [HXS.out]; omega) (fun e => hjo e.symm), Below.heap_alloc X _ j (by rw [HXS.out]; omega)]
    exact HXO.out j hjb
  have hf5 : w5.os = w.os ∧ w5.tape = w.tape ∧ w5.output = w.output := ⟨hgrow.os.trans HXF.out.1, hgrow.tape.trans HXF.out.2.1, hgrow.output.trans HXF.out.2.2⟩
  have d3 := cell_of hb5 3
  have g3 := free_of hb5 3
  simp at d3
  have hgg : (gg = w.heap.size + 1) ∨ (Value.slice ma ml mc).ownBlock = some gg := by
    rcases hat5 with h | h
    · exact .inr h
    · exact .inl (by rw [h, HXS.out])
  have hlb5 : b < w5.heap.size := by omega
  have HB5 := toHid hb5
  have HS5 := toHid hs5
  have HO5 := toHid ho5
  have HF5 := toHid hf5
  have HGG := toHid hgg
  have HOWN5 := toHid hown5
  have HLT5 := toHid hlt5
  clear hb5 hs5 ho5 hf5 hgg hown5 hgrow hat5 hlt5 x2 f2 y3 hXe
  go_wp2_with fail
  go_ret
  refine ⟨rfl, ?_⟩
  obtain ⟨Y, hY⟩ : ∃ Y, Y = w5.setCell ⟨b, 3, none⟩ (.slice (some ⟨gg, 0, none⟩) (ml + 1) cap) := ⟨_, rfl⟩
  rw [← hY]
  have hYb : Y.heap[b]? = some (.cells #[.slice na S.N.length nc, .slice ea S.E.length ec, .int .i64 (nx + 1), .slice (some ⟨gg, 0, none⟩) (ml + 1) cap] 69 (0, 0)) := by rw [hY, set_here HB5.out]; rfl
  have hYo : ∀ j, j ≠ b → Y.heap[j]? = w5.heap[j]? := fun j hj => by rw [hY]; exact Below.heap_setCell w5 ⟨b, 3, none⟩ _ j hj
  have hYs : Y.heap.size = w5.heap.size := by rw [hY]; simp [World.setCell]
  have hYf : Y.os = w5.os ∧ Y.tape = w5.tape ∧ Y.output = w5.output := by rw [hY]; exact ⟨rfl, rfl, rfl⟩
  have W := HW.out
  have S5 := HS5.out
  have ggO : (Now O w Y gg) ∧ gg ≠ b ∧ ¬ PN gg ∧ ¬ PE gg := by
    rcases HGG.out with h | h
    · refine ⟨.inr ⟨by omega, by rw [hYs]; exact HLT5.out⟩, by omega, fun q => ?_, fun q => ?_⟩
      · have := W.lt gg (W.pn gg q).1; omega
      · have := W.lt gg (W.pe gg q).1; omega
    · have := W.pm gg (W.ms gg (by rw [← HML.out]; exact h))
      exact ⟨.inl this.1, this.2⟩
  have nO : ∀ j, ¬ O j → (Value.slice ma ml mc).ownBlock ≠ some j := fun j hj e => hj (W.pm j (W.ms j (by rw [← HML.out]; exact e))).1
  have nN : ∀ j, PN j → (Value.slice ma ml mc).ownBlock ≠ some j := fun j hj e => (W.pm j (W.ms j (by rw [← HML.out]; exact e))).2.2.1 hj
  have nE : ∀ j, PE j → (Value.slice ma ml mc).ownBlock ≠ some j := fun j hj e => (W.pm j (W.ms j (by rw [← HML.out]; exact e))).2.2.2 hj
  refine ⟨⟨na, nc, ea, ec, some ⟨gg, 0, none⟩, cap, PN, PE, (fun i => i = gg), ?_, .inl W.ob, ?_, fun i hi => ⟨.inl (W.pn i hi).1, (W.pn i hi).2⟩, fun i hi => ⟨.inl (W.pe i hi).1, (W.pe i hi).2⟩, fun i hi => by subst hi; exact ggO, ?_, ?_, ?_, ?_⟩, ?_⟩
  · rw [hYb]
    simp [WS.numbered, HNX.out, HML.out]
  · intro i hi
    rcases hi with hi | hi
    · have := W.lt i hi; omega
    · exact hi.2
  · exact W.ns.kept ⟨by omega, fun i hi hl => ⟨hi, (hYo i (W.pn i hi).2).trans (HO5.out i hl (W.pn i hi).2 (nN i hi))⟩⟩
  · exact W.es.kept ⟨by omega, fun i hi hl => ⟨hi, (hYo i (W.pe i hi).2.1).trans (HO5.out i hl (W.pe i hi).2.1 (nE i hi))⟩⟩
  · intro g hg
    have : gg = g := by simpa [Value.ownBlock] using hg
    exact this.symm
  · have e1 : (S.numbered).made.length = ml + 1 := by simp [WS.numbered, HML.out]
    have e2 : ints (S.numbered).made = ints S.made ++ [.int .i64 nx] := by simp [ints, WS.numbered, HNX.out]
    rw [e1, e2]
    refine row_keep HOWN5.out fun g hg _ => ?_
    have : gg = g := by simpa [Value.ownBlock] using hg
    subst this
    exact hYo gg ggO.2.1
  · exact ⟨hYf.1.trans HF5.out.1, hYf.2.1.trans HF5.out.2.1, hYf.2.2.trans HF5.out.2.2, by omega, fun i hi hn => (hYo i (fun e => hn (e ▸ W.ob))).trans (HO5.out i hi (fun e => hn (e ▸ W.ob)) (nO i hn))⟩

theorem WorkAt.putN {O : Nat → Prop} {w u w5 : World} {b : Nat} {S : WS} {na : Option Addr} {nc : Nat} {ea : Option Addr} {ec : Nat} {ma : Option Addr} {mc : Nat} {PN PE PM : Nat → Prop} (h : WorkAt O w b S na nc ea ec ma mc PN PE PM) (k : Below w.heap.size w u) {y : Nd} {X : AN} (hy : NdOwn (fun i => w.heap.size ≤ i) u y X) (o : Obj)
    {L : List Nd} (hrow : w.ownsRow 0 49 3 (.slice na S.N.length nc) S.N.length (rowN L)) (hpair : PairD (fun B => NdOwn B w) (fun i => PN i ∧ (Value.slice na S.N.length nc).ownBlock ≠ some i) L S.N) {gg cap : Nat}
    (hgrow : (u.alloc o).grownBy w5 (Value.slice na S.N.length nc).ownBlock) (hown : w5.ownsRow 0 49 3 (.slice (some ⟨gg, 0, none⟩) (S.N.length + 1) cap) (S.N.length + 1) (rowN L ++ y.cells))
    (hat : (Value.slice na S.N.length nc).ownBlock = some gg ∨ gg = u.heap.size + 1) (hlt : gg < w5.heap.size) :
    StepEnd O w (w5.setCell ⟨b, 0, none⟩ (.slice (some ⟨gg, 0, none⟩) (S.N.length + 1) cap)) b ⟨S.N ++ [X], S.E, S.next, S.made⟩ := by
  obtain ⟨Y, hY⟩ : ∃ Y, Y = w5.setCell ⟨b, 0, none⟩ (.slice (some ⟨gg, 0, none⟩) (S.N.length + 1) cap) := ⟨_, rfl⟩
  rw [← hY]
  have hbw : b < w.heap.size := h.lt b h.ob
  have hwu := k.size
  have hu5 : u.heap.size + 1 ≤ w5.heap.size := by have := hgrow.size; simpa using this
  have hob : ∀ g, (Value.slice na S.N.length nc).ownBlock = some g → PN g := h.ns.1
  have hol : ∀ g, (Value.slice na S.N.length nc).ownBlock = some g → g < w.heap.size := fun g hg => row_lt hrow hg
  have h5 : ∀ j, j < u.heap.size → (Value.slice na S.N.length nc).ownBlock ≠ some j → w5.heap[j]? = u.heap[j]? := fun j hj hn => (hgrow.block j (by simp; omega) (fun e => hn e.symm)).trans (Below.heap_alloc u o j hj)
  have hb5 : w5.heap[b]? = some (.cells #[.slice na S.N.length nc, .slice ea S.E.length ec, .int .i64 S.next, .slice ma S.made.length mc] 69 (0, 0)) := by
    rw [h5 b (by omega) (fun e => absurd rfl (h.pn b (hob b e)).2), k.block b hbw]
    exact h.blk
  have hYb : Y.heap[b]? = some (.cells #[.slice (some ⟨gg, 0, none⟩) (S.N.length + 1) cap, .slice ea S.E.length ec, .int .i64 S.next, .slice ma S.made.length mc] 69 (0, 0)) := by rw [hY, set_here hb5]; rfl
  have hYo : ∀ j, j ≠ b → Y.heap[j]? = w5.heap[j]? := fun j hj => by rw [hY]; exact Below.heap_setCell w5 ⟨b, 0, none⟩ _ j hj
  have hYs : Y.heap.size = w5.heap.size := by rw [hY]; simp [World.setCell]
  have hYf : Y.os = w5.os ∧ Y.tape = w5.tape ∧ Y.output = w5.output := by rw [hY]; exact ⟨rfl, rfl, rfl⟩
  have old : ∀ j, j < w.heap.size → j ≠ b → (Value.slice na S.N.length nc).ownBlock ≠ some j → Y.heap[j]? = w.heap[j]? := fun j h1 h2 h3 => (hYo j h2).trans ((h5 j (by omega) h3).trans (k.block j h1))
  have ggN : ∀ j, j < u.heap.size → (Value.slice na S.N.length nc).ownBlock ≠ some j → j ≠ gg := fun j h1 h2 e => by
    subst e
    rcases hat with h3 | h3
    · exact h2 h3
    · omega
  have nv : (Value.slice (some ⟨gg, 0, none⟩) (S.N.length + 1) cap).ownBlock = some gg := rfl
  have e1 : (⟨S.N ++ [X], S.E, S.next, S.made⟩ : WS).N.length = S.N.length + 1 := by simp
  have ggB : gg ≠ b := by
    rcases hat with h3 | h3
    · exact (h.pn gg (hob gg h3)).2
    · omega
  have ggO : Now O w Y gg := by
    rcases hat with h3 | h3
    · exact .inl (h.pn gg (hob gg h3)).1
    · exact .inr ⟨by omega, by rw [hYs]; exact hlt⟩
  have lts : ∀ i, Now O w Y i → i < Y.heap.size := fun i hi => by
    rcases hi with hi | hi
    · have := h.lt i hi; omega
    · exact hi.2
  have hns : NsOwn (fun i => (PN i ∧ (Value.slice na S.N.length nc).ownBlock ≠ some i) ∨ i = gg ∨ (w.heap.size ≤ i ∧ i < u.heap.size)) Y (S.N ++ [X]) (.slice (some ⟨gg, 0, none⟩) (S.N.length + 1) cap) := by
    refine ⟨fun g hg => .inr (.inl (by rw [nv] at hg; exact (Option.some.inj hg).symm)), L ++ [y], ?_, ?_⟩
    · rw [rowN_snoc, show (L ++ [y]).length = S.N.length + 1 by simp [hpair.1]]
      exact row_keep hown fun g hg _ => by
        rw [nv] at hg
        obtain rfl := Option.some.inj hg
        exact hYo gg ggB
    · refine (hpair.carry (R' := fun B => NdOwn B Y) (A' := fun i => (((PN i ∧ (Value.slice na S.N.length nc).ownBlock ≠ some i) ∨ i = gg ∨ (w.heap.size ≤ i ∧ i < u.heap.size)) ∧ (Value.slice (some ⟨gg, 0, none⟩) (S.N.length + 1) cap).ownBlock ≠ some i) ∧ i < w.heap.size) (fun i => i < w.heap.size) (fun B p x hB hp => hp.kept ⟨by omega, fun j hj hjl => ⟨⟨hj, hjl⟩, old j hjl (h.pn j (hB j hj).1).2 (hB j hj).2⟩⟩) (fun b hb hz => ⟨⟨.inl hb, ?_⟩, hz⟩)).snoc (B := fun i => (((PN i ∧ (Value.slice na S.N.length nc).ownBlock ≠ some i) ∨ i = gg ∨ (w.heap.size ≤ i ∧ i < u.heap.size)) ∧ (Value.slice (some ⟨gg, 0, none⟩) (S.N.length + 1) cap).ownBlock ≠ some i) ∧ w.heap.size ≤ i) (hy.kept ⟨by omega, fun j hj hjl => ⟨⟨⟨.inr (.inr ⟨hj, hjl⟩), ?_⟩, hj⟩, ?_⟩⟩) (fun b hb => hb.1) (fun b hb => hb.1) (fun b hb hb' => by have h1 := hb.2; have h2 := hb'.2; omega)
      · rw [nv]
        exact fun e => ggN b (by omega) hb.2 (Option.some.inj e).symm
      · rw [nv]
        exact fun e => ggN j hjl (fun e => by have := hol j e; have : w.heap.size ≤ j := hj; omega) (Option.some.inj e).symm
      · have hj' : w.heap.size ≤ j := hj
        exact (hYo j (by omega)).trans (h5 j hjl (fun e => by have := hol j e; omega))
  have own : ∀ i, (PN i ∧ (Value.slice na S.N.length nc).ownBlock ≠ some i) ∨ i = gg ∨ (w.heap.size ≤ i ∧ i < u.heap.size) → Now O w Y i ∧ i ≠ b := fun i hi => by
    rcases hi with hi | rfl | hi
    · exact ⟨.inl (h.pn i hi.1).1, (h.pn i hi.1).2⟩
    · exact ⟨ggO, ggB⟩
    · exact ⟨.inr ⟨hi.1, by omega⟩, by omega⟩
  have apart : ∀ i, O i → ¬ PN i → ¬ ((PN i ∧ (Value.slice na S.N.length nc).ownBlock ≠ some i) ∨ i = gg ∨ (w.heap.size ≤ i ∧ i < u.heap.size)) := fun i hi hn q => by
    have hil := h.lt i hi
    rcases q with q | rfl | q
    · exact hn q.1
    · rcases hat with h3 | h3
      · exact hn (hob _ h3)
      · omega
    · omega
  have rest : Rest O w Y := ⟨hYf.1.trans (hgrow.os.trans k.os), hYf.2.1.trans (hgrow.tape.trans k.tape), hYf.2.2.trans (hgrow.output.trans k.output), by omega, fun i hi hn => old i hi (fun e => hn (e ▸ h.ob)) (fun e => hn (h.pn i (hob i e)).1)⟩
  refine ⟨⟨some ⟨gg, 0, none⟩, cap, ea, ec, ma, mc, _, PE, PM, ?_, .inl h.ob, lts, own, fun i hi => ⟨.inl (h.pe i hi).1, (h.pe i hi).2.1, apart i (h.pe i hi).1 (h.pe i hi).2.2⟩, fun i hi => ⟨.inl (h.pm i hi).1, (h.pm i hi).2.1, apart i (h.pm i hi).1 (h.pm i hi).2.2.1, (h.pm i hi).2.2.2⟩, ?_, ?_, h.ms, ?_⟩, rest⟩
  · rw [hYb, e1]
  · rw [e1]
    exact hns
  · exact h.es.kept ⟨by omega, fun i hi hl => ⟨hi, old i hl (h.pe i hi).2.1 (fun e => (h.pe i hi).2.2 (hob i e))⟩⟩
  · exact row_keep h.mr fun g hg hl => old g hl (h.pm g (h.ms g hg)).2.1 (fun e => (h.pm g (h.ms g hg)).2.2.1 (hob g e))

/-- Behind a step and a new box: the box, apart from the work. -/
def BoxCut (O : Nat → Prop) (u0 : World) (b : Nat) (S : WS) (cs : Array Value) (t : TypeId) (s : Value) (wx : World) : Prop :=
  ∃ (p : Nat) (O1 : Nat → Prop), s = .pointer (some ⟨p, 0, none⟩) ∧ wx.heap[p]? = some (.cells cs t (0, 0)) ∧ ¬ O1 p ∧ WorkIn O1 wx b S ∧ Rest O u0 wx ∧ ∀ i, O1 i → Now O u0 wx i

theorem boxA {O : Nat → Prop} {u0 u1 : World} {b : Nat} {S : WS} (h : StepEnd O u0.drew u1 b S) (cs : Array Value) (t : TypeId) : BoxCut O u0 b S cs t (.pointer (some ⟨u1.heap.size, 0, none⟩)) (u1.alloc (.cells cs t)) := by
  have r : Rest O u0 u1 := (Rest.of_below (Below.refl _ _).drew).trans h.2 (fun _ _ q => q)
  refine ⟨u1.heap.size, Now O u0.drew u1, rfl, alloc_new u1 _, fun q => Nat.lt_irrefl _ (h.1.lts _ q), h.1.below ((Below.refl _ _).alloc (Nat.le_refl _) _), r.alloc _, fun i hi => ?_⟩
  rcases hi with hi | hi
  · exact .inl hi
  · exact .inr ⟨hi.1, by simp; omega⟩

theorem boxB {O : Nat → Prop} {u0 u1 : World} {b : Nat} {S : WS} {Z : Array Value} {t : TypeId} (hl : ∀ i, O i → i < u0.heap.size) (h : StepEnd O (u0.drew.alloc (.cells Z t)) u1 b S) (vs : List Value) (cs : Array Value) (hcs : setL Z 0 vs = cs) : BoxCut O u0 b S cs t (.pointer (some ⟨u0.heap.size, 0, none⟩)) (putL u1 u0.heap.size 0 vs) := by
  have k : Below u0.heap.size u0 (u0.drew.alloc (.cells Z t)) := ((Below.refl _ _).drew).alloc (Nat.le_refl _) _
  have r : Rest O u0 u1 := (Rest.of_below k).trans h.2 (fun _ _ q => q)
  have hz : (u0.drew.alloc (.cells Z t)).heap.size = u0.heap.size + 1 := by simp
  have hn : ¬ Now O (u0.drew.alloc (.cells Z t)) u1 u0.heap.size := fun q => by
    rcases q with q | q
    · exact Nat.lt_irrefl _ (hl _ q)
    · rw [hz] at q; omega
  have hp : u1.heap[u0.heap.size]? = some (.cells Z t (0, 0)) := (h.far (i := u0.heap.size) (by rw [hz]; omega) (fun q => hn (.inl q))).trans (alloc_new u0.drew _)
  refine ⟨u0.heap.size, Now O (u0.drew.alloc (.cells Z t)) u1, rfl, by rw [← hcs]; exact putL_here vs 0 u1 Z hp, hn, h.1.kept (by rw [putL_size]; exact Nat.le_refl _) (fun i hi => putL_other _ vs 0 u1 i (fun e => hn (e ▸ hi))) (fun _ q => q) (fun i hi => by rw [putL_size]; exact h.1.lts i hi), ⟨?_, ?_, ?_, by rw [putL_size]; exact r.size, fun i hi hno => (putL_other _ vs 0 u1 i (by omega)).trans (r.block i hi hno)⟩, fun i hi => ?_⟩
  · exact (putL_bel u0.heap.size vs 0 u1).os.trans r.os
  · exact (putL_bel u0.heap.size vs 0 u1).tape.trans r.tape
  · exact (putL_bel u0.heap.size vs 0 u1).output.trans r.output
  · rcases hi with hi | hi
    · exact .inl hi
    · exact .inr ⟨by rw [hz] at hi; omega, by rw [putL_size]; exact hi.2⟩

/-- Behind all: a step from the box's world on. -/
theorem BoxCut.step {O O1 : Nat → Prop} {w u0 wx w' : World} {b : Nat} {S S1 S2 : WS} (hw : WorkIn O w b S) (k : Below w.heap.size w u0) (hl : ∀ i, O i → i < w.heap.size) (r : Rest O u0 wx) (h1 : WorkIn O1 wx b S1) (ho : ∀ i, O1 i → Now O u0 wx i) (h2 : StepEnd O1 wx w' b S2) : StepEnd O w w' b S2 := by
  have r0 : Rest O w wx := (Rest.of_below k).trans r (fun _ _ q => q)
  refine ⟨h2.1.kept (Nat.le_refl _) (fun _ _ => rfl) (fun i hi => ?_) (fun i hi => ?_), r0.trans h2.2 fun i hi q => ?_⟩
  · rcases hi with hi | hi
    · rcases ho i hi with q | q
      · exact .inl q
      · exact .inr ⟨Nat.le_trans k.size q.1, Nat.lt_of_lt_of_le q.2 h2.2.size⟩
    · exact .inr ⟨Nat.le_trans r0.size hi.1, hi.2⟩
  · rcases hi with hi | hi
    · exact Nat.lt_of_lt_of_le (hl i hi) (Nat.le_trans r0.size h2.2.size)
    · exact hi.2
  · rcases ho i q with q | q
    · exact q
    · have := k.size; omega

/-- An operation as it lies in memory. -/
structure Om where
  k : Int
  id : Int
  frm : Int
  dst : Int
  name : ByteArray
  vk : Int
  vn : Int
  vs : ByteArray
  va : Option Addr
  vl : Nat
  vc : Nat
  la : Option Addr
  ll : Nat
  lc : Nat
  pa : Option Addr
  pl : Nat
  pc : Nat

def Om.cells (o : Om) : Array Value := #[.int .i64 o.k, .int .i64 o.id, .int .i64 o.frm, .int .i64 o.dst, .string o.name, .int .i64 o.vk, .int .i64 o.vn, .string o.vs, .slice o.va o.vl o.vc, .slice o.la o.ll o.lc, .slice o.pa o.pl o.pc]
def Om.val (o : Om) : Value := .agg #[.int .i64 o.k, .int .i64 o.id, .int .i64 o.frm, .int .i64 o.dst, .string o.name, .int .i64 o.vk, .int .i64 o.vn, .string o.vs, .slice o.va o.vl o.vc, .slice o.la o.ll o.lc, .slice o.pa o.pl o.pc]

/-- What an act leaves: its error, and the work as it is then, if there is none. -/
def ActEnd (O : Nat → Prop) (w w' : World) (b : Nat) (S' : WS) (er : Int) (e : Ending) : Prop := e = .returned (.int .i64 er) ∧ Rest O w w' ∧ (er = 0 → StepEnd O w w' b S')

def addNE (S : WS) (er : Int) : Int := if er ≠ 0 then er else if 40 ≤ S.N.length ∨ 1099511627776 ≤ S.next then 10 else 0

theorem rest_below {O : Nat → Prop} {w W : World} {B : Nat} (hB : B ≤ w.heap.size) (hO : ∀ i, O i → B ≤ i) (h : Rest O w W) : Below B w W := h.below hB hO

set_option maxHeartbeats 8000000 in
set_option maxRecDepth 100000 in
theorem addNode_any (O : Nat → Prop) (b : Nat) (S : WS) (o : Om) (labs : List ByteArray) (P : List Pr) (X : List AP) (eL eP er : Int) (B : Nat) (w : World)
    (hW : WorkIn O w b S) (hB : B ≤ w.heap.size) (hO : ∀ i, O i → B ≤ i) (hm : S.made.length ≤ 1000) (hn0 : 0 ≤ S.next)
    (hL : ∀ W, Below B w W → Calls Tryz.prog 109 #[.slice o.la o.ll o.lc] W fun e w' => e = .returned (.int .i64 eL) ∧ Below W.heap.size W w')
    (hP : ∀ W, Below B w W → Calls Tryz.prog 110 #[.slice o.pa o.pl o.pc] W fun e w' => e = .returned (.int .i64 eP) ∧ Below W.heap.size W w')
    (her : er = if eL = 0 then eP else eL)
    (hX : er = 0 → AN.ok ⟨S.next, labs, X⟩ ∧ ∀ W, Below B w W → NdIn W ⟨S.next, labs, o.la, o.ll, o.lc, P, o.pa, o.pl, o.pc⟩ ⟨S.next, labs, X⟩) :
    Calls Tryz.prog 66 #[.pointer (some ⟨b, 0, none⟩), o.val] w fun e w' => ActEnd O w w' b ⟨S.N ++ [⟨S.next, labs, X⟩], S.E, S.next + 1, S.made ++ [S.next]⟩ (addNE S er) e := by
  obtain ⟨k, id, frm, dst, name, vk, vn, vs, va, vl, vc, la, ll, lc, pa, pl, pc⟩ := o
  simp only [Om.val] at hL hP hX ⊢
  have HL := toHid hL
  have HP := toHid hP
  have HER := toHid her
  have HX := toHid hX
  have HW := toHid hW
  have HO := toHid hO
  clear hL hP her hX hW hO
  obtain ⟨ez, hEZ⟩ : ∃ z, z = addNE S er := ⟨_, rfl⟩
  rw [← hEZ]
  have HEZ := toHid hEZ
  clear hEZ
  have b0 : Below w.heap.size w (w.alloc (.cells #[.int .i64 k, .int .i64 id, .int .i64 frm, .int .i64 dst, .string name, .int .i64 vk, .int .i64 vn, .string vs, .slice va vl vc, .slice la ll lc, .slice pa pl pc] 65)) := (Below.refl _ _).alloc (Nat.le_refl _) _
  have q0 := alloc_new w (.cells #[.int .i64 k, .int .i64 id, .int .i64 frm, .int .i64 dst, .string name, .int .i64 vk, .int .i64 vn, .string vs, .slice va vl vc, .slice la ll lc, .slice pa pl pc] 65)
  have z0 : (w.alloc (.cells #[.int .i64 k, .int .i64 id, .int .i64 frm, .int .i64 dst, .string name, .int .i64 vk, .int .i64 vn, .string vs, .slice va vl vc, .slice la ll lc, .slice pa pl pc] 65)).heap.size = w.heap.size + 1 := by simp
  have HB0 := toHid b0
  have HQ := toHid q0
  have HZ := toHid z0
  clear b0 q0 z0
  go_enter Tryz.func66, Tryz.ntmps66
  go_upto_region 1 with fail
  generalize w.alloc (.cells #[.int .i64 k, .int .i64 id, .int .i64 frm, .int .i64 dst, .string name, .int .i64 vk, .int .i64 vn, .string vs, .slice va vl vc, .slice la ll lc, .slice pa pl pc] 65) = W at HB0 HQ HZ ⊢
  have HS : Hid (∀ W' : World, Below W.heap.size W W' → W'.cell? ⟨w.heap.size, 9, none⟩ = some (.slice la ll lc) ∧ W'.cell? ⟨w.heap.size, 10, none⟩ = some (.slice pa pl pc)) := by
    intro W' kk
    have q : ∀ o, W'.cell? ⟨w.heap.size, o, none⟩ = _ := fun o => (kk.cell (p := ⟨w.heap.size, o, none⟩) (by rw [HZ.out]; show w.heap.size < _; omega)).trans (cell_of HQ.out o)
    exact ⟨q 9, q 10⟩
  have S0 := HS.out W (Below.refl _ _)
  have D0 : Below W.heap.size W W.drew := (Below.refl _ _).drew
  obtain ⟨x0, x1⟩ := S0
  have HBW : Hid (∀ W', Below W.heap.size W W' → Below B w W') := fun W' kk => (HB0.out.trans (kk.mono HB0.out.size)).mono hB
  go_cut [5] (fun s5 wx => s5 = .int .i64 er ∧ Below W.heap.size W wx)
  case first =>
    go_region_held3 (fun w' => w'.cell? ⟨w.heap.size, 9, none⟩ = some (.slice la ll lc) ∧ w'.cell? ⟨w.heap.size, 10, none⟩ = some (.slice pa pl pc))
      (first
        | exact S3
        | exact S2
        | exact S1
        | exact ⟨x0, x1⟩
        | go_keep)
      (first
        | (go_at_call 46; refine (or_two eL eP er HER.out u2.heap.size (u2.alloc (.cells #[.int .i64 eL, .int .i64 eP] 30)) (cell_of (alloc_new u2 _) 0) (cell_of (alloc_new u2 _) 1)).mono ?_; rintro e u4 ⟨rfl, rfl⟩)
        | (go_at_call 110; refine (HP.out _ (HBW.out _ k1)).mono ?_; rintro e u2 ⟨rfl, h2⟩; have k2 : Below W.heap.size W u2 := k1.trans (h2.mono k1.size); have S2 := HS.out u2 k2; have k3 : Below W.heap.size W (u2.alloc (.cells #[.int .i64 eL, .int .i64 eP] 30)) := k2.alloc k2.size _; have S3 := HS.out _ k3)
        | (go_at_call 109; refine (HL.out _ (HBW.out _ D0)).mono ?_; rintro e u1 ⟨rfl, h1⟩; have k1 : Below W.heap.size W u1 := D0.trans h1; have S1 := HS.out u1 k1))
    all_goals
      go_wp2_with fail
      go_meet
      exact ⟨rfl, k3⟩
  case rest =>
    obtain ⟨rfl, kc⟩ := hcut
    clear x0 x1 D0 HL HP HER
    have k0 := HB0.out.trans (kc.mono HB0.out.size)
    have HK0 := toHid k0
    have HWC := toHid (HW.out.below k0)
    have sc : w.heap.size + 1 ≤ wc.heap.size := by have := kc.size; rw [HZ.out] at this; exact this
    obtain ⟨v9, v10⟩ := HS.out wc kc
    clear HS kc k0 HBW
    by_cases hz : er = 0
    · subst hz
      have HX0 := toHid (HX.out rfl)
      obtain ⟨na, nc, ea, ec, ma, mc, PN, PE, PM, hw⟩ := HWC.out
      obtain ⟨nl, hnl⟩ : ∃ z, z = S.N.length := ⟨_, rfl⟩
      obtain ⟨nx, hnx⟩ : ∃ z, z = S.next := ⟨_, rfl⟩
      have hblk := hw.blk
      rw [← hnl, ← hnx] at hblk
      have c0 := cell_of hblk 0
      simp at c0
      have HBLK := toHid hblk
      have HNL := toHid hnl
      have HNX := toHid hnx
      rw [← hnx] at hn0
      have HFULL : Hid (Calls Tryz.prog 115 #[.pointer (some ⟨b, 0, none⟩)] wc fun e w' => e = .returned (.bool (decide (1099511627776 ≤ nx))) ∧ w' = wc) := full_any b _ _ _ nx wc hblk
      clear hblk hnl hnx
      by_cases h40 : 40 ≤ nl
      · have h40i : (40 : Int) ≤ nl := by omega
        go_wp2_with fail
        go_ret
        have hE : ez = 10 := by rw [HEZ.out, addNE, if_neg (by simp), if_pos (.inl (by rw [← HNL.out]; exact h40))]
        exact ⟨by rw [hE]; rfl, Rest.of_below HK0.out, fun h => by rw [hE] at h; cases h⟩
      · have h40i : ¬ ((40 : Int) ≤ nl) := by omega
        go_wp2_with fail
        refine HFULL.out.mono ?_
        rintro e u0 ⟨rfl, rfl⟩
        by_cases hfl : 1099511627776 ≤ nx
        · have hd : decide (1099511627776 ≤ nx) = true := by simp [hfl]
          go_wp2_with fail
          go_ret
          have hE : ez = 10 := by rw [HEZ.out, addNE, if_neg (by simp), if_pos (.inr (by rw [← HNX.out]; exact hfl))]
          exact ⟨by rw [hE]; rfl, Rest.of_below HK0.out, fun h => by rw [hE] at h; cases h⟩
        · have hd : decide (1099511627776 ≤ nx) = false := by simp [hfl]
          have hE : ez = 0 := by
            rw [HEZ.out, addNE, if_neg (by simp), if_neg]
            rintro (h | h)
            · rw [← HNL.out] at h; exact h40 h
            · rw [← HNX.out] at h; exact hfl h
          have HE0 := toHid hE
          clear hE
          have HNUM : Hid (∀ W, Below u0.heap.size u0 W → Calls Tryz.prog 116 #[.pointer (some ⟨b, 0, none⟩)] W fun e w' => e = .returned (.int .i64 nx) ∧ StepEnd O W w' b S.numbered) := fun W kW => by
            rw [HNX.out]
            exact number_any O b S W (HWC.out.below kW) hm (by rw [← HNX.out]; exact hn0) (by rw [← HNX.out]; omega)
          go_upto_region 6 with fail
          have D6 : Below u0.heap.size u0 u0.drew := (Below.refl _ _).drew
          have R0 : Rest O u0 u0.drew := Rest.of_below D6
          have nO : ¬ O u0.heap.size := fun q => Nat.lt_irrefl _ (HWC.out.lts _ q)
          have HSR : Hid (∀ W', Rest O u0 W' → W'.cell? ⟨w.heap.size, 9, none⟩ = some (.slice la ll lc) ∧ W'.cell? ⟨w.heap.size, 10, none⟩ = some (.slice pa pl pc)) := fun W' r => by
            have hq : W'.heap[w.heap.size]? = u0.heap[w.heap.size]? := r.block _ (by omega) (fun q => Nat.lt_irrefl _ (HW.out.lts _ q))
            exact ⟨(cell_same hq 9).trans v9, (cell_same hq 10).trans v10⟩
          go_cut [6] (fun s6 wx => BoxCut O u0 b S.numbered #[.int .i64 nx, .slice la ll lc, .slice pa pl pc] 49 s6 wx)
          case first =>
            go_region_held3 (fun w' => w'.cell? ⟨w.heap.size, 9, none⟩ = some (.slice la ll lc) ∧ w'.cell? ⟨w.heap.size, 10, none⟩ = some (.slice pa pl pc))
              (first
                | with_reducible exact HSR.out _ R1
                | with_reducible exact HSR.out _ R0
                | with_reducible exact HSR.out _ (R0.alloc _)
                | with_reducible exact HSR.out _ (R1.alloc _)
                | exact HSR.out _ (((R1.set ⟨u0.heap.size, 0, none⟩ (Nat.le_refl _) _).set ⟨u0.heap.size, 1, none⟩ (Nat.le_refl _) _).set ⟨u0.heap.size, 2, none⟩ (Nat.le_refl _) _)
                | exact HSR.out _ ((((R1.alloc _).set ⟨u1.heap.size, 0, none⟩ R1.size _).set ⟨u1.heap.size, 1, none⟩ R1.size _).set ⟨u1.heap.size, 2, none⟩ R1.size _)
                | go_keep)
              (first
                | (go_at_call 116; refine (HNUM.out _ (by first | exact D6 | exact D6.alloc (Nat.le_refl _) _)).mono ?_; rintro e u1 ⟨rfl, h1⟩; have R1 : Rest O u0 u1 := (by first | exact R0.trans h1.2 (fun _ _ q => q) | exact (R0.alloc _).trans h1.2 (fun _ _ q => q)); try (have hp := (h1.far (i := u0.heap.size) (by simp) nO).trans (alloc_new u0.drew _); have p0 := cell_of hp 0; have p1 := cell_of hp 1; have p2 := cell_of hp 2; have f0 := free_of hp 0; have f1 := free_of hp 1; have f2 := free_of hp 2; simp at p0 p1 p2)))
            all_goals
              go_wp2_with fail
              go_meet
              first
                | exact boxA h1 _ _
                | exact boxB HWC.out.lts h1 [.int .i64 nx, .slice la ll lc, .slice pa pl pc] _ rfl
          case rest =>
            obtain ⟨p, O1, rfl, hp, hnp, hw1, hr1, ho1⟩ := hcut
            obtain ⟨u1, rfl⟩ : ∃ z, z = wc := ⟨wc, rfl⟩
            have HW1 := toHid hw1
            have HR1 := toHid hr1
            have HO1 := toHid ho1
            obtain ⟨na1, nc1, ea1, ec1, ma1, mc1, PN1, PE1, PM1, hwa⟩ := hw1
            obtain ⟨hob, L, hrow, hpair⟩ := hwa.ns
            have hll : L.length = S.N.length := hpair.1
            have hblk1 : u1.heap[b]? = some (.cells #[.slice na1 S.N.length nc1, .slice ea1 S.E.length ec1, .int .i64 (S.next + 1), .slice ma1 (S.made ++ [S.next]).length mc1] 69 (0, 0)) := hwa.blk
            have hrow' : u1.ownsRow 0 49 3 (.slice na1 S.N.length nc1) S.N.length (rowN L) := by
              have := hrow
              rw [hll] at this
              exact this
            have hbl : b < u1.heap.size := hwa.lt b hwa.ob
            have hgb : ∀ g, (Value.slice na1 S.N.length nc1).ownBlock = some g → g ≠ b := fun g hg => (hwa.pn g (hob g hg)).2
            rw [← HNL.out] at hblk1 hrow' hgb
            have HBLK1 := toHid hblk1
            have HROW := toHid hrow'
            have HGB := toHid hgb
            have HPAIR := toHid hpair
            have HWA := toHid hwa
            have HLL := toHid hll
            have c0 := cell_of hblk1 0
            have p0 := cell_of hp 0
            have p1 := cell_of hp 1
            have p2 := cell_of hp 2
            simp at c0 p0 p1 p2
            have HND : Hid (∀ W, Below u1.heap.size u1 W → Calls Tryz.prog 63 #[.agg #[.int .i64 nx, .slice la ll lc, .slice pa pl pc]] W fun e w' => (∃ y : Nd, e = .returned (.agg #[.int .i64 y.id, .slice y.la y.ll y.lc, .slice y.pa y.pl y.pc]) ∧ NdOwn (fun i => W.heap.size ≤ i) w' y ⟨nx, labs, X⟩) ∧ Below W.heap.size W w') := fun W kW => by
              have hx := HX0.out
              rw [HNX.out]
              have k1 : Below B w W := ((HK0.out.mono hB).trans (HR1.out.below (Nat.le_trans hB HK0.out.size) HO.out)).trans (kW.mono (Nat.le_trans hB (Nat.le_trans HK0.out.size HR1.out.size)))
              exact (node_any ⟨S.next, labs, la, ll, lc, P, pa, pl, pc⟩ ⟨S.next, labs, X⟩ W (hx.2 W k1) hx.1).mono fun e w' ⟨⟨y, he, hy⟩, kk⟩ => ⟨⟨y, he, hy⟩, kk⟩
            obtain ⟨i0, hi0, hiz, his, hib⟩ := info_Node
            have HI0 := toHid hi0
            have HIZ := toHid hiz
            have HIS := toHid his
            have HIB := toHid hib
            have HBy : (nl + 1) * 56 ≤ 140737488355328 := by omega
            have HBm : nl + 1 ≤ maxLen := by unfold maxLen; omega
            clear hi0 hiz his hib hp hnp hr1 ho1 hob hrow hpair hll hblk1 hrow' hgb hwa HSR nO R0 D6 v9 v10 c0 HNUM HBLK HFULL hw
            have c0 := cell_of HBLK1.out 0
            simp at c0
            have D7 : Below u1.heap.size u1 u1.drew := (Below.refl _ _).drew
            go_upto_region 7 with fail
            go_region_law (first
              | (refine step_append_lies _ (by rfl) _ _ _ (by rfl) 0 49 i0 _ 3 56 Tryz.underlying22 HI0.out HIZ.out HIS.out HIB.out rfl (by omega) (.slice na1 nl nc1) nl (rowN L) (by rfl) (hown2.alloc _) ⟨u2.heap.size, 0, none⟩ 1 1 [.int .i64 y.id, .slice y.la y.ll y.lc, .slice y.pa y.pl y.pc] (by rfl) (by rfl) (World.news_of_block (cs := #[.int .i64 y.id, .slice y.la y.ll y.lc, .slice y.pa y.pl y.pc]) (t := 49) (fr := (0, 0)) (alloc_new u2 _)) (by simp [Value.oneCell']) (by omega) HBm HBy (Nat.zero_le _) (u2.heap.size + 1) (by simp) ?_; intro gg cap w5 hown5 hgrow hat5 hlt5
                 have hb5 : w5.heap[b]? = some (.cells #[.slice na1 nl nc1, .slice ea1 S.E.length ec1, .int .i64 (S.next + 1), .slice ma1 (S.made ++ [S.next]).length mc1] 69 (0, 0)) := by
                   rw [hgrow.block b (by simp; omega) (fun e => HGB.out b e.symm rfl), Below.heap_alloc u2 _ b (by omega), k2.block b hbl]
                   exact HBLK1.out
                 have d0 := cell_of hb5 0
                 have f5 := free_of hb5 0
                 simp at d0
                 clear hb5)
              | (go_simp
                 go_at_call 63
                 refine (HND.out _ D7).mono ?_
                 rintro e u2 ⟨⟨y, rfl, hy⟩, h2⟩
                 have k2 : Below u1.heap.size u1 u2 := D7.trans h2
                 have hs2 : u1.heap.size ≤ u2.heap.size := k2.size
                 have c0' : u2.cell? ⟨b, 0, none⟩ = some (.slice na1 nl nc1) := (k2.cell (p := ⟨b, 0, none⟩) hbl).trans c0
                 have c0'' : ∀ o, (u2.alloc o).cell? ⟨b, 0, none⟩ = some (.slice na1 nl nc1) := fun o => by rw [cell_past _ _ _ _ (by omega)]; exact c0'
                 have hown2 : u2.ownsRow 0 49 3 (.slice na1 nl nc1) nl (rowN L) := row_keep HROW.out fun g _ hl => k2.block g hl))
            all_goals
              go_wp2_with fail
              go_ret
              have hnl := HNL.out
              have hnx := HNX.out
              subst hnl hnx
              have hst := BoxCut.step HW.out HK0.out HW.out.lts HR1.out HW1.out HO1.out (HWA.out.putN k2 hy _ HROW.out HPAIR.out hgrow hown5 hat5 hlt5)
              exact ⟨by rw [HE0.out]; rfl, hst.2, fun _ => hst⟩
    · have hz' : (er != 0) = true := by simp [hz]
      go_wp2_with fail
      go_ret
      have hE : ez = er := by rw [HEZ.out, addNE, if_pos hz]
      exact ⟨by rw [hE]; rfl, Rest.of_below HK0.out, fun h => absurd (hE ▸ h) hz⟩
end Go.Proofs.YtdlmlpddkfnfmaaGreatDoor
