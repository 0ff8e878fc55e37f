/-
  What is proved here: what fresh.Delta answers: the difference, all that it holds in rows of its own in new blocks.
-/
import Derived.Test.YtakpifphpojbjaaGreatDoorHGraph
import Derived.Deep.RegionHeld3
namespace Go.Proofs.YtakpifphpojbjaaGreatDoor
open Go.RowKit
set_option linter.unusedVariables false

/-- What a difference's block holds. -/
def dl (g n h e : Value) (f t : Int) : Array Value := #[g, n, h, e, .int .i64 f, .int .i64 t]

def NsOwn2 (W w' : World) (X : List AN) (n : Nat) (e : Ending) : Prop := ∃ a c, e = .returned (.slice a n c) ∧ NsOwn (fun i => W.heap.size ≤ i) w' X (.slice a n c)
def EsOwn2 (W w' : World) (X : List AE) (n : Nat) (e : Ending) : Prop := ∃ a c, e = .returned (.slice a n c) ∧ EsOwn (fun i => W.heap.size ≤ i) w' X (.slice a n c)

def DeltaEnd (W w' : World) (G N : List AN) (H E : List AE) (f t : Int) (e : Ending) : Prop :=
  ∃ ga gc na nc ha hc ea ec, e = .returned (.agg #[.slice ga G.length gc, .slice na N.length nc, .slice ha H.length hc, .slice ea E.length ec, .int .i64 f, .int .i64 t]) ∧ NsOwn (fun i => W.heap.size ≤ i) w' G (.slice ga G.length gc) ∧ NsOwn (fun i => W.heap.size ≤ i) w' N (.slice na N.length nc) ∧ EsOwn (fun i => W.heap.size ≤ i) w' H (.slice ha H.length hc) ∧ EsOwn (fun i => W.heap.size ≤ i) w' E (.slice ea E.length ec)

theorem NsOwn.reads2 {A : Nat → Prop} {w : World} {X : List AN} {a : Option Addr} {c : Nat} (h : NsOwn A w X (.slice a X.length c)) : X.length ≤ c ∧ NsAt w X a X.length := by
  obtain ⟨a', c', he, h1, h2⟩ := h.reads
  injection he with e1 _ e3
  subst e1 e3
  exact ⟨h1, h2⟩

theorem EsOwn.reads2 {A : Nat → Prop} {w : World} {X : List AE} {a : Option Addr} {c : Nat} (h : EsOwn A w X (.slice a X.length c)) : X.length ≤ c ∧ EsAt w X a X.length := by
  obtain ⟨a', c', he, h1, h2⟩ := h.reads
  injection he with e1 _ e3
  subst e1 e3
  exact ⟨h1, h2⟩

theorem set2_other (w : World) (b o o' : Nat) (v v' : Value) (j : Nat) (hj : j ≠ b) : ((w.setCell ⟨b, o, none⟩ v).setCell ⟨b, o', none⟩ v').heap[j]? = w.heap[j]? :=
  (Below.heap_setCell _ ⟨b, o', none⟩ v' j hj).trans (Below.heap_setCell w ⟨b, o, none⟩ v j hj)

theorem set2_size (w : World) (b o o' : Nat) (v v' : Value) : ((w.setCell ⟨b, o, none⟩ v).setCell ⟨b, o', none⟩ v').heap.size = w.heap.size := by simp [World.setCell]

set_option maxHeartbeats 8000000 in
set_option maxRecDepth 100000 in
theorem freshDelta_any (G N : List AN) (H E : List AE) (ga : Option Addr) (gl gc : Nat) (na : Option Addr) (nl nc : Nat) (ha : Option Addr) (hl hc : Nat) (ea : Option Addr) (el ec : Nat) (f t : Int) (w : World)
    (hG : NsAt w G ga gl) (hN : NsAt w N na nl) (hH : EsAt w H ha hl) (hE : EsAt w E ea el) (hgl : gl ≤ 1000) (hnl : nl ≤ 1000) (hhl : hl ≤ 1000) (hel : el ≤ 1000) (oG : ∀ x ∈ G, x.ok) (oN : ∀ x ∈ N, x.ok) (oH : ∀ x ∈ H, x.ok) (oE : ∀ x ∈ E, x.ok) :
    Calls Tryz.prog 47 #[.agg #[.slice ga gl gc, .slice na nl nc, .slice ha hl hc, .slice ea el ec, .int .i64 f, .int .i64 t]] w fun e w' => DeltaEnd w w' G N H E f t e ∧ Below w.heap.size w w' := by
  obtain ⟨gn, hGn⟩ : ∃ z, z = G.length := ⟨_, rfl⟩
  have HG : Hid (∀ W, Below w.heap.size w W → Calls Tryz.prog 62 #[.slice ga gl gc, .func (.func 63) #[] #[]] W fun e w' => NsOwn2 W w' G gn e ∧ Below W.heap.size W w') := fun W kW => (each_nodes G ga gl gc W (hG.below kW) hgl oG).mono fun e w' ⟨⟨v, he, h⟩, k⟩ => ⟨by
    obtain ⟨a1, c1, rfl, _⟩ := h.reads
    rw [hGn]
    exact ⟨a1, c1, he, h⟩, k⟩
  obtain ⟨nn, hNn⟩ : ∃ z, z = N.length := ⟨_, rfl⟩
  have HN : Hid (∀ W, Below w.heap.size w W → Calls Tryz.prog 62 #[.slice na nl nc, .func (.func 63) #[] #[]] W fun e w' => NsOwn2 W w' N nn e ∧ Below W.heap.size W w') := fun W kW => (each_nodes N na nl nc W (hN.below kW) hnl oN).mono fun e w' ⟨⟨v, he, h⟩, k⟩ => ⟨by
    obtain ⟨a1, c1, rfl, _⟩ := h.reads
    rw [hNn]
    exact ⟨a1, c1, he, h⟩, k⟩
  obtain ⟨hn, hHn⟩ : ∃ z, z = H.length := ⟨_, rfl⟩
  have HH : Hid (∀ W, Below w.heap.size w W → Calls Tryz.prog 64 #[.slice ha hl hc, .func (.func 65) #[] #[]] W fun e w' => EsOwn2 W w' H hn e ∧ Below W.heap.size W w') := fun W kW => (each_edges H ha hl hc W (hH.below kW) hhl oH).mono fun e w' ⟨⟨v, he, h⟩, k⟩ => ⟨by
    obtain ⟨a1, c1, rfl, _⟩ := h.reads
    rw [hHn]
    exact ⟨a1, c1, he, h⟩, k⟩
  obtain ⟨en, hEn⟩ : ∃ z, z = E.length := ⟨_, rfl⟩
  have HE : Hid (∀ W, Below w.heap.size w W → Calls Tryz.prog 64 #[.slice ea el ec, .func (.func 65) #[] #[]] W fun e w' => EsOwn2 W w' E en e ∧ Below W.heap.size W w') := fun W kW => (each_edges E ea el ec W (hE.below kW) hel oE).mono fun e w' ⟨⟨v, he, h⟩, k⟩ => ⟨by
    obtain ⟨a1, c1, rfl, _⟩ := h.reads
    rw [hEn]
    exact ⟨a1, c1, he, h⟩, k⟩
  have HLEN := toHid (show gn = G.length ∧ nn = N.length ∧ hn = H.length ∧ en = E.length from ⟨hGn, hNn, hHn, hEn⟩)
  clear hG hN hH hE oG oN oH oE hgl hnl hhl hel hGn hNn hHn hEn
  have b0 : Below w.heap.size w ((w.alloc (.cells #[.slice ga gl gc, .slice na nl nc, .slice ha hl hc, .slice ea el ec, .int .i64 f, .int .i64 t] 41)).alloc (.cells #[.slice none 0 0, .slice none 0 0, .slice none 0 0, .slice none 0 0, .int .i64 0, .int .i64 0] 41)) := ((Below.refl _ _).alloc (Nat.le_refl _) _).alloc (by simp) _
  have hx := (Below.heap_alloc (w.alloc (.cells #[.slice ga gl gc, .slice na nl nc, .slice ha hl hc, .slice ea el ec, .int .i64 f, .int .i64 t] 41)) (.cells #[.slice none 0 0, .slice none 0 0, .slice none 0 0, .slice none 0 0, .int .i64 0, .int .i64 0] 41) w.heap.size (by simp)).trans (alloc_new w (.cells #[.slice ga gl gc, .slice na nl nc, .slice ha hl hc, .slice ea el ec, .int .i64 f, .int .i64 t] 41))
  have hy := alloc_two w (.cells #[.slice ga gl gc, .slice na nl nc, .slice ha hl hc, .slice ea el ec, .int .i64 f, .int .i64 t] 41) (.cells #[.slice none 0 0, .slice none 0 0, .slice none 0 0, .slice none 0 0, .int .i64 0, .int .i64 0] 41)
  have z0 : ((w.alloc (.cells #[.slice ga gl gc, .slice na nl nc, .slice ha hl hc, .slice ea el ec, .int .i64 f, .int .i64 t] 41)).alloc (.cells #[.slice none 0 0, .slice none 0 0, .slice none 0 0, .slice none 0 0, .int .i64 0, .int .i64 0] 41)).heap.size = w.heap.size + 2 := by simp
  have HB := toHid b0
  have HX := toHid hx
  have HY := toHid hy
  have HZ := toHid z0
  clear b0 hx hy z0
  go_enter Tryz.func47, Tryz.ntmps47
  go_upto_region 1 with fail
  generalize (w.alloc (.cells #[.slice ga gl gc, .slice na nl nc, .slice ha hl hc, .slice ea el ec, .int .i64 f, .int .i64 t] 41)).alloc (.cells #[.slice none 0 0, .slice none 0 0, .slice none 0 0, .slice none 0 0, .int .i64 0, .int .i64 0] 41) = W at HB HX HY HZ ⊢
  have s0 : w.heap.size < W.heap.size := by rw [HZ.out]; omega
  have x0 := cell_of HX.out 0
  have x1 := cell_of HX.out 1
  simp at x0 x1
  have hvW := HX.out
  have D0 : Below W.heap.size W W.drew := (Below.refl _ _).drew
  go_cut [] (fun wx => ∃ ga1 gc1 na1 nc1, wx.heap[w.heap.size]? = some (.cells #[.slice ga1 gn gc1, .slice na1 nn nc1, .slice ha hl hc, .slice ea el ec, .int .i64 f, .int .i64 t] 41 (0, 0)) ∧ wx.heap[w.heap.size + 1]? = some (.cells #[.slice none 0 0, .slice none 0 0, .slice none 0 0, .slice none 0 0, .int .i64 0, .int .i64 0] 41 (0, 0)) ∧ Below w.heap.size w wx ∧ w.heap.size + 2 ≤ wx.heap.size ∧ NsOwn (fun i => w.heap.size + 2 ≤ i) wx G (.slice ga1 gn gc1) ∧ NsOwn (fun i => w.heap.size + 2 ≤ i) wx N (.slice na1 nn nc1))
  case first =>
    clear hvW
    go_region_with
      (first
        | (go_at_call 62; refine (HN.out _ (HB.out.trans (k1.mono HB.out.size))).mono ?_; rintro e u2 ⟨⟨na1, nc1, rfl, hno⟩, h2⟩; have k2 : Below W.heap.size W u2 := k1.trans (h2.mono k1.size); have hv2 := (k2.block w.heap.size s0).trans HX.out; have y0 := cell_of hv2 0; have y1 := cell_of hv2 1; have f0 := free_of hv2 0; have f1 := free_of hv2 1; simp at y0 y1; have HNO := toHid hno; have HH2 := toHid h2; have HK2 := toHid k2; have HV2 := toHid hv2; clear hno h2 k2 hv2)
        | (go_at_call 62; refine (HG.out _ (HB.out.trans (D0.mono HB.out.size))).mono ?_; rintro e u1 ⟨⟨ga1, gc1, rfl, hgo⟩, h1⟩; have k1 : Below W.heap.size W u1 := D0.trans h1; have hv1 := (k1.block w.heap.size s0).trans HX.out; have z1 := cell_of hv1 1; simp at z1; clear hv1))
    all_goals
      go_wp2_with fail
      go_meet
      refine ⟨ga1, gc1, na1, nc1, ?_, ?_, ?_, ?_, ?_, ?_⟩
      · rw [set_here (set_here HV2.out _ _) _ _]
        rfl
      · rw [set2_other _ _ _ _ _ _ _ (by omega)]
        exact (HK2.out.block (w.heap.size + 1) (by rw [HZ.out]; omega)).trans HY.out
      · exact ((HB.out.trans (HK2.out.mono HB.out.size)).setCell (p := ⟨w.heap.size, _, none⟩) (Nat.le_refl _) _).setCell (p := ⟨w.heap.size, _, none⟩) (Nat.le_refl _) _
      · rw [set2_size]
        have := HK2.out.size
        rw [HZ.out] at this
        exact this
      · refine hgo.kept ⟨by rw [set2_size]; exact HH2.out.size, fun i hi hil => ⟨?_, ?_⟩⟩
        · have h3 : W.heap.size ≤ i := hi
          rw [HZ.out] at h3
          exact h3
        · have h3 : W.heap.size ≤ i := hi
          rw [HZ.out] at h3
          rw [set2_other _ _ _ _ _ _ _ (by omega)]
          exact HH2.out.block i hil
      · refine HNO.out.kept ⟨by rw [set2_size]; exact Nat.le_refl _, fun i hi hil => ⟨?_, ?_⟩⟩
        · have h3 := k1.size
          rw [HZ.out] at h3
          show w.heap.size + 2 ≤ i
          omega
        · have h3 := k1.size
          rw [HZ.out] at h3
          exact set2_other _ _ _ _ _ _ _ (by omega)
  case rest =>
    clear x0 x1 s0 D0 hvW HX HY HB HZ HG HN
    obtain ⟨ga1, gc1, na1, nc1, hvx, hrx, hbx, hsx, hgo, hno⟩ := hcut
    have HX := toHid hvx
    have HY := toHid hrx
    have HB := toHid hbx
    have HZ := toHid hsx
    have HGO := toHid hgo
    have HNO1 := toHid hno
    have s0 : w.heap.size < wc.heap.size := by omega
    have x2 := cell_of hvx 2
    have x3 := cell_of hvx 3
    simp at x2 x3
    clear hvx hrx hbx hgo hno hsx
    have D0 : Below wc.heap.size wc wc.drew := (Below.refl _ _).drew
    go_upto_region 2 with fail
    go_cut [] (fun wy => ∃ ha1 hc1 ea1 ec1, wy.heap[w.heap.size]? = some (.cells #[.slice ga1 gn gc1, .slice na1 nn nc1, .slice ha1 hn hc1, .slice ea1 en ec1, .int .i64 f, .int .i64 t] 41 (0, 0)) ∧ wy.heap[w.heap.size + 1]? = some (.cells #[.slice none 0 0, .slice none 0 0, .slice none 0 0, .slice none 0 0, .int .i64 0, .int .i64 0] 41 (0, 0)) ∧ Below w.heap.size w wy ∧ w.heap.size + 2 ≤ wy.heap.size ∧ (NsOwn (fun i => w.heap.size + 2 ≤ i) wy G (.slice ga1 gn gc1) ∧ NsOwn (fun i => w.heap.size + 2 ≤ i) wy N (.slice na1 nn nc1)) ∧ EsOwn (fun i => w.heap.size + 2 ≤ i) wy H (.slice ha1 hn hc1) ∧ EsOwn (fun i => w.heap.size + 2 ≤ i) wy E (.slice ea1 en ec1))
    case first =>
      go_region_with
        (first
          | (go_at_call 64; refine (HE.out _ (HB.out.trans (k1.mono HB.out.size))).mono ?_; rintro e u2 ⟨⟨ea1, ec1, rfl, hno⟩, h2⟩; have k2 : Below wc.heap.size wc u2 := k1.trans (h2.mono k1.size); have hv2 := (k2.block w.heap.size s0).trans HX.out; have y0 := cell_of hv2 2; have y1 := cell_of hv2 3; have f0 := free_of hv2 2; have f1 := free_of hv2 3; simp at y0 y1; have HNO := toHid hno; have HH2 := toHid h2; have HK2 := toHid k2; have HV2 := toHid hv2; clear hno h2 k2 hv2)
          | (go_at_call 64; refine (HH.out _ (HB.out.trans (D0.mono HB.out.size))).mono ?_; rintro e u1 ⟨⟨ha1, hc1, rfl, hgo⟩, h1⟩; have k1 : Below wc.heap.size wc u1 := D0.trans h1; have hv1 := (k1.block w.heap.size s0).trans HX.out; have z1 := cell_of hv1 3; simp at z1; clear hv1))
      all_goals
        go_wp2_with fail
        go_meet
        have hzz := HZ.out
        refine ⟨ha1, hc1, ea1, ec1, ?_, ?_, ?_, ?_, ⟨?_, ?_⟩, ?_, ?_⟩
        · rw [set_here (set_here HV2.out _ _) _ _]
          rfl
        · rw [set2_other _ _ _ _ _ _ _ (by omega)]
          exact (HK2.out.block (w.heap.size + 1) (by omega)).trans HY.out
        · exact ((HB.out.trans (HK2.out.mono HB.out.size)).setCell (p := ⟨w.heap.size, _, none⟩) (Nat.le_refl _) _).setCell (p := ⟨w.heap.size, _, none⟩) (Nat.le_refl _) _
        · rw [set2_size]
          exact Nat.le_trans hzz HK2.out.size
        · refine HGO.out.kept ⟨by rw [set2_size]; exact HK2.out.size, fun i hi hil => ⟨hi, ?_⟩⟩
          rw [set2_other _ _ _ _ _ _ _ (by omega)]
          exact HK2.out.block i hil
        · refine HNO1.out.kept ⟨by rw [set2_size]; exact HK2.out.size, fun i hi hil => ⟨hi, ?_⟩⟩
          rw [set2_other _ _ _ _ _ _ _ (by omega)]
          exact HK2.out.block i hil
        · refine hgo.kept ⟨by rw [set2_size]; exact HH2.out.size, fun i hi hil => ⟨?_, ?_⟩⟩
          · have h3 : wc.heap.size ≤ i := hi
            show w.heap.size + 2 ≤ i
            omega
          · have h3 : wc.heap.size ≤ i := hi
            rw [set2_other _ _ _ _ _ _ _ (by omega)]
            exact HH2.out.block i hil
        · refine HNO.out.kept ⟨by rw [set2_size]; exact Nat.le_refl _, fun i hi hil => ⟨?_, ?_⟩⟩
          · have h3 := k1.size
            show w.heap.size + 2 ≤ i
            omega
          · have h3 := k1.size
            exact set2_other _ _ _ _ _ _ _ (by omega)
    case rest =>
      clear x2 x3 s0 D0 HX HY HB HZ HH HE HGO HNO1
      obtain ⟨ha1, hc1, ea1, ec1, hvy, hry, hby, hsy, ⟨hgo, hno⟩, hho, heo⟩ := hcut
      have HRY := toHid hry
      have HBY := toHid hby
      have HSY := toHid hsy
      have HOW := toHid (show NsOwn (fun i => w.heap.size + 2 ≤ i) wc G (.slice ga1 gn gc1) ∧ NsOwn (fun i => w.heap.size + 2 ≤ i) wc N (.slice na1 nn nc1) ∧ EsOwn (fun i => w.heap.size + 2 ≤ i) wc H (.slice ha1 hn hc1) ∧ EsOwn (fun i => w.heap.size + 2 ≤ i) wc E (.slice ea1 en ec1) from ⟨hgo, hno, hho, heo⟩)
      have q0 := cell_of hvy 0
      have q1 := cell_of hvy 1
      have q2 := cell_of hvy 2
      have q3 := cell_of hvy 3
      have q4 := cell_of hvy 4
      have q5 := cell_of hvy 5
      have r0 := cell_of hry 0
      have r1 := cell_of hry 1
      have r2 := cell_of hry 2
      have r3 := cell_of hry 3
      have r4 := cell_of hry 4
      have r5 := cell_of hry 5
      have g0 := free_of hry 0
      have g1 := free_of hry 1
      have g2 := free_of hry 2
      have g3 := free_of hry 3
      have g4 := free_of hry 4
      have g5 := free_of hry 5
      simp at q0 q1 q2 q3 q4 q5 r0 r1 r2 r3 r4 r5
      clear hvy hry hby hgo hno hho heo
      go_wp2_with fail
      have eP : ∀ X : World, (((((X.setCell ⟨w.heap.size + 1, 0, none⟩ (.slice ga1 gn gc1)).setCell ⟨w.heap.size + 1, 1, none⟩ (.slice na1 nn nc1)).setCell ⟨w.heap.size + 1, 2, none⟩ (.slice ha1 hn hc1)).setCell ⟨w.heap.size + 1, 3, none⟩ (.slice ea1 en ec1)).setCell ⟨w.heap.size + 1, 4, none⟩ (.int .i64 f)).setCell ⟨w.heap.size + 1, 5, none⟩ (.int .i64 t) = putL X (w.heap.size + 1) 0 [.slice ga1 gn gc1, .slice na1 nn nc1, .slice ha1 hn hc1, .slice ea1 en ec1, .int .i64 f, .int .i64 t] := fun _ => rfl
      rw [eP]
      have E1 := putL_here [.slice ga1 gn gc1, .slice na1 nn nc1, .slice ha1 hn hc1, .slice ea1 en ec1, .int .i64 f, .int .i64 t] 0 wc _ HRY.out
      have hbb : Below w.heap.size w (putL wc (w.heap.size + 1) 0 [.slice ga1 gn gc1, .slice na1 nn nc1, .slice ha1 hn hc1, .slice ea1 en ec1, .int .i64 f, .int .i64 t]) := HBY.out.trans ((putL_bel (w.heap.size + 1) _ _ wc).mono (by omega))
      have hK : Keep (fun i => w.heap.size + 2 ≤ i) (fun i => w.heap.size ≤ i) wc (putL wc (w.heap.size + 1) 0 [.slice ga1 gn gc1, .slice na1 nn nc1, .slice ha1 hn hc1, .slice ea1 en ec1, .int .i64 f, .int .i64 t]) := ⟨by rw [putL_size]; exact Nat.le_refl _, fun i hi hl => ⟨by omega, putL_other _ _ _ _ i (by omega)⟩⟩
      generalize putL wc (w.heap.size + 1) 0 [.slice ga1 gn gc1, .slice na1 nn nc1, .slice ha1 hn hc1, .slice ea1 en ec1, .int .i64 f, .int .i64 t] = Y at E1 hbb hK ⊢
      have t0 := cell_of E1 0
      have t1 := cell_of E1 1
      have t2 := cell_of E1 2
      have t3 := cell_of E1 3
      have t4 := cell_of E1 4
      have t5 := cell_of E1 5
      simp [setL] at t0 t1 t2 t3 t4 t5
      refine bodyPost_ret (v := .agg #[.slice ga1 gn gc1, .slice na1 nn nc1, .slice ha1 hn hc1, .slice ea1 en ec1, .int .i64 f, .int .i64 t]) (by simp [results, Tryz.results47, go_sem, t0, t1, t2, t3, t4, t5]) rfl ⟨?_, hbb⟩
      obtain ⟨h1, h2, h3, h4⟩ := HOW.out
      obtain ⟨l1, l2, l3, l4⟩ := HLEN.out
      subst l1 l2 l3 l4
      exact ⟨ga1, gc1, na1, nc1, ha1, hc1, ea1, ec1, rfl, h1.kept hK, h2.kept hK, h3.kept hK, h4.kept hK⟩
end Go.Proofs.YtakpifphpojbjaaGreatDoor
