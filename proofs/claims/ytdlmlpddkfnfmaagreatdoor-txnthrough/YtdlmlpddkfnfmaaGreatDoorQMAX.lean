/-
  What is proved here: what the texts HDelta, HBetween prove, in one text.
-/
import Derived.Test.YtdlmlpddkfnfmaaGreatDoorQMAM
import Derived.Deep.RegionHeld3
import Derived.Test.YtdlmlpddkfnfmaaGreatDoorQMAN
import Derived.Test.YtdlmlpddkfnfmaaGreatDoorQMAE
namespace Go.Proofs.YtdlmlpddkfnfmaaGreatDoor
open Go.RowKit
set_option linter.unusedVariables false

/-- What a difference's block holds. -/
def dl (g n h e : Value) (f t : Int) : Array Value := #[g, n, h, e, .int .i64 f, .int .i64 t]

def NsOwn2 (W w' : World) (X : List AN) (n : Nat) (e : Ending) : Prop := ∃ a c, e = .returned (.slice a n c) ∧ NsOwn (fun i => W.heap.size ≤ i) w' X (.slice a n c)
def EsOwn2 (W w' : World) (X : List AE) (n : Nat) (e : Ending) : Prop := ∃ a c, e = .returned (.slice a n c) ∧ EsOwn (fun i => W.heap.size ≤ i) w' X (.slice a n c)

def DeltaEnd (W w' : World) (G N : List AN) (H E : List AE) (f t : Int) (e : Ending) : Prop :=
  ∃ ga gc na nc ha hc ea ec, e = .returned (.agg #[.slice ga G.length gc, .slice na N.length nc, .slice ha H.length hc, .slice ea E.length ec, .int .i64 f, .int .i64 t]) ∧ NsOwn (fun i => W.heap.size ≤ i) w' G (.slice ga G.length gc) ∧ NsOwn (fun i => W.heap.size ≤ i) w' N (.slice na N.length nc) ∧ EsOwn (fun i => W.heap.size ≤ i) w' H (.slice ha H.length hc) ∧ EsOwn (fun i => W.heap.size ≤ i) w' E (.slice ea E.length ec)

theorem NsOwn.reads2 {A : Nat → Prop} {w : World} {X : List AN} {a : Option Addr} {c : Nat} (h : NsOwn A w X (.slice a X.length c)) : X.length ≤ c ∧ NsAt w X a X.length := by
  obtain ⟨a', c', he, h1, h2⟩ := h.reads
  injection he with e1 _ e3
  subst e1 e3
  exact ⟨h1, h2⟩

theorem EsOwn.reads2 {A : Nat → Prop} {w : World} {X : List AE} {a : Option Addr} {c : Nat} (h : EsOwn A w X (.slice a X.length c)) : X.length ≤ c ∧ EsAt w X a X.length := by
  obtain ⟨a', c', he, h1, h2⟩ := h.reads
  injection he with e1 _ e3
  subst e1 e3
  exact ⟨h1, h2⟩

theorem set2_other (w : World) (b o o' : Nat) (v v' : Value) (j : Nat) (hj : j ≠ b) : ((w.setCell ⟨b, o, none⟩ v).setCell ⟨b, o', none⟩ v').heap[j]? = w.heap[j]? :=
  (Below.heap_setCell _ ⟨b, o', none⟩ v' j hj).trans (Below.heap_setCell w ⟨b, o, none⟩ v j hj)

theorem set2_size (w : World) (b o o' : Nat) (v v' : Value) : ((w.setCell ⟨b, o, none⟩ v).setCell ⟨b, o', none⟩ v').heap.size = w.heap.size := by simp [World.setCell]

set_option maxHeartbeats 8000000 in
set_option maxRecDepth 100000 in
theorem freshDelta_any (G N : List AN) (H E : List AE) (ga : Option Addr) (gl gc : Nat) (na : Option Addr) (nl nc : Nat) (ha : Option Addr) (hl hc : Nat) (ea : Option Addr) (el ec : Nat) (f t : Int) (w : World)
    (hG : NsAt w G ga gl) (hN : NsAt w N na nl) (hH : EsAt w H ha hl) (hE : EsAt w E ea el) (hgl : gl ≤ 1000) (hnl : nl ≤ 1000) (hhl : hl ≤ 1000) (hel : el ≤ 1000) (oG : ∀ x ∈ G, x.ok) (oN : ∀ x ∈ N, x.ok) (oH : ∀ x ∈ H, x.ok) (oE : ∀ x ∈ E, x.ok) :
    Calls Tryz.prog 47 #[.agg #[.slice ga gl gc, .slice na nl nc, .slice ha hl hc, .slice ea el ec, .int .i64 f, .int .i64 t]] w fun e w' => DeltaEnd w w' G N H E f t e ∧ Below w.heap.size w w' := by
  obtain ⟨gn, hGn⟩ : ∃ z, z = G.length := ⟨_, rfl⟩
  have HG : Hid (∀ W, Below w.heap.size w W → Calls Tryz.prog 62 #[.slice ga gl gc, .func (.func 63) #[] #[]] W fun e w' => NsOwn2 W w' G gn e ∧ Below W.heap.size W w') := fun W kW => (each_nodes G ga gl gc W (hG.below kW) hgl oG).mono fun e w' ⟨⟨v, he, h⟩, k⟩ => ⟨by
    obtain ⟨a1, c1, rfl, _⟩ := h.reads
    rw [hGn]
    exact ⟨a1, c1, he, h⟩, k⟩
  obtain ⟨nn, hNn⟩ : ∃ z, z = N.length := ⟨_, rfl⟩
  have HN : Hid (∀ W, Below w.heap.size w W → Calls Tryz.prog 62 #[.slice na nl nc, .func (.func 63) #[] #[]] W fun e w' => NsOwn2 W w' N nn e ∧ Below W.heap.size W w') := fun W kW => (each_nodes N na nl nc W (hN.below kW) hnl oN).mono fun e w' ⟨⟨v, he, h⟩, k⟩ => ⟨by
    obtain ⟨a1, c1, rfl, _⟩ := h.reads
    rw [hNn]
    exact ⟨a1, c1, he, h⟩, k⟩
  obtain ⟨hn, hHn⟩ : ∃ z, z = H.length := ⟨_, rfl⟩
  have HH : Hid (∀ W, Below w.heap.size w W → Calls Tryz.prog 64 #[.slice ha hl hc, .func (.func 65) #[] #[]] W fun e w' => EsOwn2 W w' H hn e ∧ Below W.heap.size W w') := fun W kW => (each_edges H ha hl hc W (hH.below kW) hhl oH).mono fun e w' ⟨⟨v, he, h⟩, k⟩ => ⟨by
    obtain ⟨a1, c1, rfl, _⟩ := h.reads
    rw [hHn]
    exact ⟨a1, c1, he, h⟩, k⟩
  obtain ⟨en, hEn⟩ : ∃ z, z = E.length := ⟨_, rfl⟩
  have HE : Hid (∀ W, Below w.heap.size w W → Calls Tryz.prog 64 #[.slice ea el ec, .func (.func 65) #[] #[]] W fun e w' => EsOwn2 W w' E en e ∧ Below W.heap.size W w') := fun W kW => (each_edges E ea el ec W (hE.below kW) hel oE).mono fun e w' ⟨⟨v, he, h⟩, k⟩ => ⟨by
    obtain ⟨a1, c1, rfl, _⟩ := h.reads
    rw [hEn]
    exact ⟨a1, c1, he, h⟩, k⟩
  have HLEN := toHid (show gn = G.length ∧ nn = N.length ∧ hn = H.length ∧ en = E.length from ⟨hGn, hNn, hHn, hEn⟩)
  clear hG hN hH hE oG oN oH oE hgl hnl hhl hel hGn hNn hHn hEn
  have b0 : Below w.heap.size w ((w.alloc (.cells #[.slice ga gl gc, .slice na nl nc, .slice ha hl hc, .slice ea el ec, .int .i64 f, .int .i64 t] 41)).alloc (.cells #[.slice none 0 0, .slice none 0 0, .slice none 0 0, .slice none 0 0, .int .i64 0, .int .i64 0] 41)) := ((Below.refl _ _).alloc (Nat.le_refl _) _).alloc (by simp) _
  have hx := (Below.heap_alloc (w.alloc (.cells #[.slice ga gl gc, .slice na nl nc, .slice ha hl hc, .slice ea el ec, .int .i64 f, .int .i64 t] 41)) (.cells #[.slice none 0 0, .slice none 0 0, .slice none 0 0, .slice none 0 0, .int .i64 0, .int .i64 0] 41) w.heap.size (by simp)).trans (alloc_new w (.cells #[.slice ga gl gc, .slice na nl nc, .slice ha hl hc, .slice ea el ec, .int .i64 f, .int .i64 t] 41))
  have hy := alloc_two w (.cells #[.slice ga gl gc, .slice na nl nc, .slice ha hl hc, .slice ea el ec, .int .i64 f, .int .i64 t] 41) (.cells #[.slice none 0 0, .slice none 0 0, .slice none 0 0, .slice none 0 0, .int .i64 0, .int .i64 0] 41)
  have z0 : ((w.alloc (.cells #[.slice ga gl gc, .slice na nl nc, .slice ha hl hc, .slice ea el ec, .int .i64 f, .int .i64 t] 41)).alloc (.cells #[.slice none 0 0, .slice none 0 0, .slice none 0 0, .slice none 0 0, .int .i64 0, .int .i64 0] 41)).heap.size = w.heap.size + 2 := by simp
  have HB := toHid b0
  have HX := toHid hx
  have HY := toHid hy
  have HZ := toHid z0
  clear b0 hx hy z0
  go_enter Tryz.func47, Tryz.ntmps47
  go_upto_region 1 with fail
  generalize (w.alloc (.cells #[.slice ga gl gc, .slice na nl nc, .slice ha hl hc, .slice ea el ec, .int .i64 f, .int .i64 t] 41)).alloc (.cells #[.slice none 0 0, .slice none 0 0, .slice none 0 0, .slice none 0 0, .int .i64 0, .int .i64 0] 41) = W at HB HX HY HZ ⊢
  have s0 : w.heap.size < W.heap.size := by rw [HZ.out]; omega
  have x0 := cell_of HX.out 0
  have x1 := cell_of HX.out 1
  simp at x0 x1
  have hvW := HX.out
  have D0 : Below W.heap.size W W.drew := (Below.refl _ _).drew
  go_cut [] (fun wx => ∃ ga1 gc1 na1 nc1, wx.heap[w.heap.size]? = some (.cells #[.slice ga1 gn gc1, .slice na1 nn nc1, .slice ha hl hc, .slice ea el ec, .int .i64 f, .int .i64 t] 41 (0, 0)) ∧ wx.heap[w.heap.size + 1]? = some (.cells #[.slice none 0 0, .slice none 0 0, .slice none 0 0, .slice none 0 0, .int .i64 0, .int .i64 0] 41 (0, 0)) ∧ Below w.heap.size w wx ∧ w.heap.size + 2 ≤ wx.heap.size ∧ NsOwn (fun i => w.heap.size + 2 ≤ i) wx G (.slice ga1 gn gc1) ∧ NsOwn (fun i => w.heap.size + 2 ≤ i) wx N (.slice na1 nn nc1))
  case first =>
    clear hvW
    go_region_with
      (first
        | (go_at_call 62; refine (HN.out _ (HB.out.trans (k1.mono HB.out.size))).mono ?_; rintro e u2 ⟨⟨na1, nc1, rfl, hno⟩, h2⟩; have k2 : Below W.heap.size W u2 := k1.trans (h2.mono k1.size); have hv2 := (k2.block w.heap.size s0).trans HX.out; have y0 := cell_of hv2 0; have y1 := cell_of hv2 1; have f0 := free_of hv2 0; have f1 := free_of hv2 1; simp at y0 y1; have HNO := toHid hno; have HH2 := toHid h2; have HK2 := toHid k2; have HV2 := toHid hv2; clear hno h2 k2 hv2)
        | (go_at_call 62; refine (HG.out _ (HB.out.trans (D0.mono HB.out.size))).mono ?_; rintro e u1 ⟨⟨ga1, gc1, rfl, hgo⟩, h1⟩; have k1 : Below W.heap.size W u1 := D0.trans h1; have hv1 := (k1.block w.heap.size s0).trans HX.out; have z1 := cell_of hv1 1; simp at z1; clear hv1))
    all_goals
      go_wp2_with fail
      go_meet
      refine ⟨ga1, gc1, na1, nc1, ?_, ?_, ?_, ?_, ?_, ?_⟩
      · rw [set_here (set_here HV2.out _ _) _ _]
        rfl
      · rw [set2_other _ _ _ _ _ _ _ (by omega)]
        exact (HK2.out.block (w.heap.size + 1) (by rw [HZ.out]; omega)).trans HY.out
      · exact ((HB.out.trans (HK2.out.mono HB.out.size)).setCell (p := ⟨w.heap.size, _, none⟩) (Nat.le_refl _) _).setCell (p := ⟨w.heap.size, _, none⟩) (Nat.le_refl _) _
      · rw [set2_size]
        have := HK2.out.size
        rw [HZ.out] at this
        exact this
      · refine hgo.kept ⟨by rw [set2_size]; exact HH2.out.size, fun i hi hil => ⟨?_, ?_⟩⟩
        · have h3 : W.heap.size ≤ i := hi
          rw [HZ.out] at h3
          exact h3
        · have h3 : W.heap.size ≤ i := hi
          rw [HZ.out] at h3
          rw [set2_other _ _ _ _ _ _ _ (by omega)]
          exact HH2.out.block i hil
      · refine HNO.out.kept ⟨by rw [set2_size]; exact Nat.le_refl _, fun i hi hil => ⟨?_, ?_⟩⟩
        · have h3 := k1.size
          rw [HZ.out] at h3
          show w.heap.size + 2 ≤ i
          omega
        · have h3 := k1.size
          rw [HZ.out] at h3
          exact set2_other _ _ _ _ _ _ _ (by omega)
  case rest =>
    clear x0 x1 s0 D0 hvW HX HY HB HZ HG HN
    obtain ⟨ga1, gc1, na1, nc1, hvx, hrx, hbx, hsx, hgo, hno⟩ := hcut
    have HX := toHid hvx
    have HY := toHid hrx
    have HB := toHid hbx
    have HZ := toHid hsx
    have HGO := toHid hgo
    have HNO1 := toHid hno
    have s0 : w.heap.size < wc.heap.size := by omega
    have x2 := cell_of hvx 2
    have x3 := cell_of hvx 3
    simp at x2 x3
    clear hvx hrx hbx hgo hno hsx
    have D0 : Below wc.heap.size wc wc.drew := (Below.refl _ _).drew
    go_upto_region 2 with fail
    go_cut [] (fun wy => ∃ ha1 hc1 ea1 ec1, wy.heap[w.heap.size]? = some (.cells #[.slice ga1 gn gc1, .slice na1 nn nc1, .slice ha1 hn hc1, .slice ea1 en ec1, .int .i64 f, .int .i64 t] 41 (0, 0)) ∧ wy.heap[w.heap.size + 1]? = some (.cells #[.slice none 0 0, .slice none 0 0, .slice none 0 0, .slice none 0 0, .int .i64 0, .int .i64 0] 41 (0, 0)) ∧ Below w.heap.size w wy ∧ w.heap.size + 2 ≤ wy.heap.size ∧ (NsOwn (fun i => w.heap.size + 2 ≤ i) wy G (.slice ga1 gn gc1) ∧ NsOwn (fun i => w.heap.size + 2 ≤ i) wy N (.slice na1 nn nc1)) ∧ EsOwn (fun i => w.heap.size + 2 ≤ i) wy H (.slice ha1 hn hc1) ∧ EsOwn (fun i => w.heap.size + 2 ≤ i) wy E (.slice ea1 en ec1))
    case first =>
      go_region_with
        (first
          | (go_at_call 64; refine (HE.out _ (HB.out.trans (k1.mono HB.out.size))).mono ?_; rintro e u2 ⟨⟨ea1, ec1, rfl, hno⟩, h2⟩; have k2 : Below wc.heap.size wc u2 := k1.trans (h2.mono k1.size); have hv2 := (k2.block w.heap.size s0).trans HX.out; have y0 := cell_of hv2 2; have y1 := cell_of hv2 3; have f0 := free_of hv2 2; have f1 := free_of hv2 3; simp at y0 y1; have HNO := toHid hno; have HH2 := toHid h2; have HK2 := toHid k2; have HV2 := toHid hv2; clear hno h2 k2 hv2)
          | (go_at_call 64; refine (HH.out _ (HB.out.trans (D0.mono HB.out.size))).mono ?_; rintro e u1 ⟨⟨ha1, hc1, rfl, hgo⟩, h1⟩; have k1 : Below wc.heap.size wc u1 := D0.trans h1; have hv1 := (k1.block w.heap.size s0).trans HX.out; have z1 := cell_of hv1 3; simp at z1; clear hv1))
      all_goals
        go_wp2_with fail
        go_meet
        have hzz := HZ.out
        refine ⟨ha1, hc1, ea1, ec1, ?_, ?_, ?_, ?_, ⟨?_, ?_⟩, ?_, ?_⟩
        · rw [set_here (set_here HV2.out _ _) _ _]
          rfl
        · rw [set2_other _ _ _ _ _ _ _ (by omega)]
          exact (HK2.out.block (w.heap.size + 1) (by omega)).trans HY.out
        · exact ((HB.out.trans (HK2.out.mono HB.out.size)).setCell (p := ⟨w.heap.size, _, none⟩) (Nat.le_refl _) _).setCell (p := ⟨w.heap.size, _, none⟩) (Nat.le_refl _) _
        · rw [set2_size]
          exact Nat.le_trans hzz HK2.out.size
        · refine HGO.out.kept ⟨by rw [set2_size]; exact HK2.out.size, fun i hi hil => ⟨hi, ?_⟩⟩
          rw [set2_other _ _ _ _ _ _ _ (by omega)]
          exact HK2.out.block i hil
        · refine HNO1.out.kept ⟨by rw [set2_size]; exact HK2.out.size, fun i hi hil => ⟨hi, ?_⟩⟩
          rw [set2_other _ _ _ _ _ _ _ (by omega)]
          exact HK2.out.block i hil
        · refine hgo.kept ⟨by rw [set2_size]; exact HH2.out.size, fun i hi hil => ⟨?_, ?_⟩⟩
          · have h3 : wc.heap.size ≤ i := hi
            show w.heap.size + 2 ≤ i
            omega
          · have h3 : wc.heap.size ≤ i := hi
            rw [set2_other _ _ _ _ _ _ _ (by omega)]
            exact HH2.out.block i hil
        · refine HNO.out.kept ⟨by rw [set2_size]; exact Nat.le_refl _, fun i hi hil => ⟨?_, ?_⟩⟩
          · have h3 := k1.size
            show w.heap.size + 2 ≤ i
            omega
          · have h3 := k1.size
            exact set2_other _ _ _ _ _ _ _ (by omega)
    case rest =>
      clear x2 x3 s0 D0 HX HY HB HZ HH HE HGO HNO1
      obtain ⟨ha1, hc1, ea1, ec1, hvy, hry, hby, hsy, ⟨hgo, hno⟩, hho, heo⟩ := hcut
      have HRY := toHid hry
      have HBY := toHid hby
      have HSY := toHid hsy
      have HOW := toHid (show NsOwn (fun i => w.heap.size + 2 ≤ i) wc G (.slice ga1 gn gc1) ∧ NsOwn (fun i => w.heap.size + 2 ≤ i) wc N (.slice na1 nn nc1) ∧ EsOwn (fun i => w.heap.size + 2 ≤ i) wc H (.slice ha1 hn hc1) ∧ EsOwn (fun i => w.heap.size + 2 ≤ i) wc E (.slice ea1 en ec1) from ⟨hgo, hno, hho, heo⟩)
      have q0 := cell_of hvy 0
      have q1 := cell_of hvy 1
      have q2 := cell_of hvy 2
      have q3 := cell_of hvy 3
      have q4 := cell_of hvy 4
      have q5 := cell_of hvy 5
      have r0 := cell_of hry 0
      have r1 := cell_of hry 1
      have r2 := cell_of hry 2
      have r3 := cell_of hry 3
      have r4 := cell_of hry 4
      have r5 := cell_of hry 5
      have g0 := free_of hry 0
      have g1 := free_of hry 1
      have g2 := free_of hry 2
      have g3 := free_of hry 3
      have g4 := free_of hry 4
      have g5 := free_of hry 5
      simp at q0 q1 q2 q3 q4 q5 r0 r1 r2 r3 r4 r5
      clear hvy hry hby hgo hno hho heo
      go_wp2_with fail
      have eP : ∀ X : World, (((((X.setCell ⟨w.heap.size + 1, 0, none⟩ (.slice ga1 gn gc1)).setCell ⟨w.heap.size + 1, 1, none⟩ (.slice na1 nn nc1)).setCell ⟨w.heap.size + 1, 2, none⟩ (.slice ha1 hn hc1)).setCell ⟨w.heap.size + 1, 3, none⟩ (.slice ea1 en ec1)).setCell ⟨w.heap.size + 1, 4, none⟩ (.int .i64 f)).setCell ⟨w.heap.size + 1, 5, none⟩ (.int .i64 t) = putL X (w.heap.size + 1) 0 [.slice ga1 gn gc1, .slice na1 nn nc1, .slice ha1 hn hc1, .slice ea1 en ec1, .int .i64 f, .int .i64 t] := fun _ => rfl
      rw [eP]
      have E1 := putL_here [.slice ga1 gn gc1, .slice na1 nn nc1, .slice ha1 hn hc1, .slice ea1 en ec1, .int .i64 f, .int .i64 t] 0 wc _ HRY.out
      have hbb : Below w.heap.size w (putL wc (w.heap.size + 1) 0 [.slice ga1 gn gc1, .slice na1 nn nc1, .slice ha1 hn hc1, .slice ea1 en ec1, .int .i64 f, .int .i64 t]) := HBY.out.trans ((putL_bel (w.heap.size + 1) _ _ wc).mono (by omega))
      have hK : Keep (fun i => w.heap.size + 2 ≤ i) (fun i => w.heap.size ≤ i) wc (putL wc (w.heap.size + 1) 0 [.slice ga1 gn gc1, .slice na1 nn nc1, .slice ha1 hn hc1, .slice ea1 en ec1, .int .i64 f, .int .i64 t]) := ⟨by rw [putL_size]; exact Nat.le_refl _, fun i hi hl => ⟨by omega, putL_other _ _ _ _ i (by omega)⟩⟩
      generalize putL wc (w.heap.size + 1) 0 [.slice ga1 gn gc1, .slice na1 nn nc1, .slice ha1 hn hc1, .slice ea1 en ec1, .int .i64 f, .int .i64 t] = Y at E1 hbb hK ⊢
      have t0 := cell_of E1 0
      have t1 := cell_of E1 1
      have t2 := cell_of E1 2
      have t3 := cell_of E1 3
      have t4 := cell_of E1 4
      have t5 := cell_of E1 5
      simp [setL] at t0 t1 t2 t3 t4 t5
      refine bodyPost_ret (v := .agg #[.slice ga1 gn gc1, .slice na1 nn nc1, .slice ha1 hn hc1, .slice ea1 en ec1, .int .i64 f, .int .i64 t]) (by simp [results, Tryz.results47, go_sem, t0, t1, t2, t3, t4, t5]) rfl ⟨?_, hbb⟩
      obtain ⟨h1, h2, h3, h4⟩ := HOW.out
      obtain ⟨l1, l2, l3, l4⟩ := HLEN.out
      subst l1 l2 l3 l4
      exact ⟨ga1, gc1, na1, nc1, ha1, hc1, ea1, ec1, rfl, h1.kept hK, h2.kept hK, h3.kept hK, h4.kept hK⟩

/-- A difference that may be read. -/
def DVal (w' : World) (G N : List AN) (H E : List AE) (f t : Int) (v : Value) : Prop :=
  ∃ ga gc na nc ha hc ea ec, v = .agg #[.slice ga G.length gc, .slice na N.length nc, .slice ha H.length hc, .slice ea E.length ec, .int .i64 f, .int .i64 t] ∧ NsAt w' G ga G.length ∧ NsAt w' N na N.length ∧ EsAt w' H ha H.length ∧ EsAt w' E ea E.length

theorem DVal.below {w w' : World} {G N : List AN} {H E : List AE} {f t : Int} {v : Value} (h : DVal w G N H E f t v) (k : Below w.heap.size w w') : DVal w' G N H E f t v := by
  obtain ⟨ga, gc, na, nc, ha, hc, ea, ec, h1, h2, h3, h4, h5⟩ := h
  exact ⟨ga, gc, na, nc, ha, hc, ea, ec, h1, h2.below k, h3.below k, h4.below k, h5.below k⟩

/-- A difference in rows of its own, in new blocks. -/
def DOwnV (W w' : World) (G N : List AN) (H E : List AE) (f t : Int) (v : Value) : Prop :=
  ∃ ga gc na nc ha hc ea ec, v = .agg #[.slice ga G.length gc, .slice na N.length nc, .slice ha H.length hc, .slice ea E.length ec, .int .i64 f, .int .i64 t] ∧ NsOwn (fun i => W.heap.size ≤ i) w' G (.slice ga G.length gc) ∧ NsOwn (fun i => W.heap.size ≤ i) w' N (.slice na N.length nc) ∧ EsOwn (fun i => W.heap.size ≤ i) w' H (.slice ha H.length hc) ∧ EsOwn (fun i => W.heap.size ≤ i) w' E (.slice ea E.length ec)

def zeroD : Value := .agg #[.slice none 0 0, .slice none 0 0, .slice none 0 0, .slice none 0 0, .int .i64 0, .int .i64 0]

/-- The answer of Between. -/
def BetEnd (W w' : World) (er : Int) (G N : List AN) (H E : List AE) (f t : Int) (e : Ending) : Prop :=
  ∃ v, e = .returned (.tuple #[v, .int .i64 er]) ∧ (er ≠ 0 → v = zeroD) ∧ (er = 0 → DOwnV W w' G N H E f t v)

def LkN (w' : World) (G : List AN) (n : Nat) (e : Ending) : Prop := ∃ a c, e = .returned (.slice a n c) ∧ NsAt w' G a n
def LkE (w' : World) (G : List AE) (n : Nat) (e : Ending) : Prop := ∃ a c, e = .returned (.slice a n c) ∧ EsAt w' G a n

theorem alloc_three0 (w : World) (o1 o2 o3 : Obj) : (((w.alloc o1).alloc o2).alloc o3).heap[w.heap.size]? = some o1 ∧ (((w.alloc o1).alloc o2).alloc o3).heap[w.heap.size + 1]? = some o2 ∧ (((w.alloc o1).alloc o2).alloc o3).heap[w.heap.size + 2]? = some o3 := by
  refine ⟨?_, ?_, ?_⟩
  · rw [Below.heap_alloc _ _ _ (by simp; omega), Below.heap_alloc _ _ _ (by simp)]
    exact alloc_new w o1
  · rw [Below.heap_alloc _ _ _ (by simp)]
    exact alloc_two w o1 o2
  · have := alloc_new ((w.alloc o1).alloc o2) o3
    simpa using this

theorem lackL_length {α : Type} (s : α → α → Bool) (A B : List α) : (lackL s A B).length ≤ A.length := List.length_filter_le _ _

theorem lackL_mem {α : Type} {s : α → α → Bool} {A B : List α} {x : α} (h : x ∈ lackL s A B) : x ∈ A := (List.mem_filter.1 h).1

set_option maxHeartbeats 8000000 in
set_option maxRecDepth 100000 in
theorem between_any (AN1 : List AN) (AE1 : List AE) (BN1 : List AN) (BE1 : List AE) (na : Option Addr) (nl nc : Nat) (ea : Option Addr) (el ec : Nat) (nx : Int) (ma : Option Addr) (ml mc : Nat) (fa : Option Addr) (fl fc : Nat) (mx : Int) (e1 e2 er : Int) (w : World)
    (hC1 : ∀ W, Below w.heap.size w W → Calls Tryz.prog 30 #[.agg #[.slice na nl nc, .slice ea el ec, .int .i64 nx]] W fun e w' => e = .returned (.int .i64 e1) ∧ Below W.heap.size W w')
    (hC2 : ∀ W, Below w.heap.size w W → Calls Tryz.prog 30 #[.agg #[.slice ma ml mc, .slice fa fl fc, .int .i64 mx]] W fun e w' => e = .returned (.int .i64 e2) ∧ Below W.heap.size W w')
    (her : er = if e1 = 0 then e2 else e1)
    (hok : er = 0 → NsAt w AN1 na nl ∧ EsAt w AE1 ea el ∧ NsAt w BN1 ma ml ∧ EsAt w BE1 fa fl ∧ (nl ≤ 1000 ∧ el ≤ 1000 ∧ ml ≤ 1000 ∧ fl ≤ 1000) ∧ (∀ x ∈ AN1, x.ok) ∧ (∀ x ∈ AE1, x.ok) ∧ (∀ x ∈ BN1, x.ok) ∧ (∀ x ∈ BE1, x.ok)) :
    Calls Tryz.prog 18 #[.agg #[.slice na nl nc, .slice ea el ec, .int .i64 nx], .agg #[.slice ma ml mc, .slice fa fl fc, .int .i64 mx]] w fun e w' => BetEnd w w' er (lackL sameN AN1 BN1) (lackL sameN BN1 AN1) (lackL sameE AE1 BE1) (lackL sameE BE1 AE1) nx mx e ∧ Below w.heap.size w w' := by
  obtain ⟨G, hG⟩ : ∃ z, z = lackL sameN AN1 BN1 := ⟨_, rfl⟩
  obtain ⟨N, hN⟩ : ∃ z, z = lackL sameN BN1 AN1 := ⟨_, rfl⟩
  obtain ⟨H, hH⟩ : ∃ z, z = lackL sameE AE1 BE1 := ⟨_, rfl⟩
  obtain ⟨E, hE⟩ : ∃ z, z = lackL sameE BE1 AE1 := ⟨_, rfl⟩
  rw [← hG, ← hN, ← hH, ← hE]
  have HGE := toHid (show G = lackL sameN AN1 BN1 ∧ N = lackL sameN BN1 AN1 ∧ H = lackL sameE AE1 BE1 ∧ E = lackL sameE BE1 AE1 from ⟨hG, hN, hH, hE⟩)
  have HC1 := toHid hC1
  have HC2 := toHid hC2
  have HER := toHid her
  have HOK := toHid hok
  clear hC1 hC2 her hok hG hN hH hE
  have b0 : Below w.heap.size w (((w.alloc (.cells #[.slice na nl nc, .slice ea el ec, .int .i64 nx] 25)).alloc (.cells #[.slice ma ml mc, .slice fa fl fc, .int .i64 mx] 25)).alloc (.cells #[.slice none 0 0, .slice none 0 0, .slice none 0 0, .slice none 0 0, .int .i64 0, .int .i64 0] 41)) := (((Below.refl _ _).alloc (Nat.le_refl _) _).alloc (by simp) _).alloc (by simp; omega) _
  have z0 : (((w.alloc (.cells #[.slice na nl nc, .slice ea el ec, .int .i64 nx] 25)).alloc (.cells #[.slice ma ml mc, .slice fa fl fc, .int .i64 mx] 25)).alloc (.cells #[.slice none 0 0, .slice none 0 0, .slice none 0 0, .slice none 0 0, .int .i64 0, .int .i64 0] 41)).heap.size = w.heap.size + 3 := by simp
  obtain ⟨a1, a2, a3⟩ := alloc_three0 w (.cells #[.slice na nl nc, .slice ea el ec, .int .i64 nx] 25) (.cells #[.slice ma ml mc, .slice fa fl fc, .int .i64 mx] 25) (.cells #[.slice none 0 0, .slice none 0 0, .slice none 0 0, .slice none 0 0, .int .i64 0, .int .i64 0] 41)
  have HB := toHid b0
  have HZ := toHid z0
  have HA1 := toHid a1
  have HA2 := toHid a2
  have HA3 := toHid a3
  clear b0 z0 a1 a2 a3
  go_enter Tryz.func18, Tryz.ntmps18
  go_upto_region 1 with fail
  generalize ((w.alloc (.cells #[.slice na nl nc, .slice ea el ec, .int .i64 nx] 25)).alloc (.cells #[.slice ma ml mc, .slice fa fl fc, .int .i64 mx] 25)).alloc (.cells #[.slice none 0 0, .slice none 0 0, .slice none 0 0, .slice none 0 0, .int .i64 0, .int .i64 0] 41) = W at HB HZ HA1 HA2 HA3 ⊢
  have HS : Hid (∀ W' : World, Below W.heap.size W W' → W'.cell? ⟨w.heap.size, 0, none⟩ = some (.slice na nl nc) ∧ W'.cell? ⟨w.heap.size, 1, none⟩ = some (.slice ea el ec) ∧ W'.cell? ⟨w.heap.size, 2, none⟩ = some (.int .i64 nx) ∧ W'.cell? ⟨w.heap.size + 1, 0, none⟩ = some (.slice ma ml mc) ∧ W'.cell? ⟨w.heap.size + 1, 1, none⟩ = some (.slice fa fl fc) ∧ W'.cell? ⟨w.heap.size + 1, 2, none⟩ = some (.int .i64 mx)) := by
    intro W' k
    have q : ∀ o, W'.cell? ⟨w.heap.size, o, none⟩ = _ := fun o => (k.cell (p := ⟨w.heap.size, o, none⟩) (by rw [HZ.out]; show w.heap.size < _; omega)).trans (cell_of HA1.out o)
    have q' : ∀ o, W'.cell? ⟨w.heap.size + 1, o, none⟩ = _ := fun o => (k.cell (p := ⟨w.heap.size + 1, o, none⟩) (by rw [HZ.out]; show w.heap.size + 1 < _; omega)).trans (cell_of HA2.out o)
    exact ⟨q 0, q 1, q 2, q' 0, q' 1, q' 2⟩
  have S0 := HS.out W (Below.refl _ _)
  have D0 : Below W.heap.size W W.drew := (Below.refl _ _).drew
  obtain ⟨x0, x1, x2, x3, x4, x5⟩ := S0
  go_cut [6] (fun s6 wx => s6 = .int .i64 er ∧ Below W.heap.size W wx)
  case first =>
    go_region_held3 (fun w' => w'.cell? ⟨w.heap.size, 0, none⟩ = some (.slice na nl nc) ∧ w'.cell? ⟨w.heap.size, 1, none⟩ = some (.slice ea el ec) ∧ w'.cell? ⟨w.heap.size, 2, none⟩ = some (.int .i64 nx) ∧ w'.cell? ⟨w.heap.size + 1, 0, none⟩ = some (.slice ma ml mc) ∧ w'.cell? ⟨w.heap.size + 1, 1, none⟩ = some (.slice fa fl fc) ∧ w'.cell? ⟨w.heap.size + 1, 2, none⟩ = some (.int .i64 mx))
      (first
        | exact S3
        | exact S2
        | exact S1
        | exact ⟨x0, x1, x2, x3, x4, x5⟩
        | go_keep)
      (first
        | (go_at_call 46; refine (or_two e1 e2 er HER.out u2.heap.size (u2.alloc (.cells #[.int .i64 e1, .int .i64 e2] 30)) (cell_of (alloc_new u2 _) 0) (cell_of (alloc_new u2 _) 1)).mono ?_; rintro e u4 ⟨rfl, rfl⟩)
        | (go_at_call 30; refine (HC2.out _ (HB.out.trans (k1.mono HB.out.size))).mono ?_; rintro e u2 ⟨rfl, h2⟩; have k2 : Below W.heap.size W u2 := k1.trans (h2.mono k1.size); have S2 := HS.out u2 k2; have k3 : Below W.heap.size W (u2.alloc (.cells #[.int .i64 e1, .int .i64 e2] 30)) := k2.alloc k2.size _; have S3 := HS.out _ k3)
        | (go_at_call 30; refine (HC1.out _ (HB.out.trans (D0.mono HB.out.size))).mono ?_; rintro e u1 ⟨rfl, h1⟩; have k1 : Below W.heap.size W u1 := D0.trans h1; have S1 := HS.out u1 k1))
    all_goals
      go_wp2_with fail
      go_meet
      exact ⟨rfl, k3⟩
  case rest =>
    obtain ⟨rfl, kc⟩ := hcut
    have HKC := toHid kc
    have hsc : w.heap.size + 3 ≤ wc.heap.size := by have := kc.size; rw [HZ.out] at this; exact this
    have HBC := toHid (HB.out.trans (kc.mono HB.out.size))
    have h3c := (kc.block (w.heap.size + 2) (by rw [HZ.out]; omega)).trans HA3.out
    have H3C := toHid h3c
    clear x0 x1 x2 x3 x4 x5 kc D0
    by_cases her : er = 0
    · have her' : (er != 0) = false := by simp [her]
      have HE0 := toHid her
      obtain ⟨p1, p2, p3, p4, ⟨l1, l2, l3, l4⟩, o1, o2, o3, o4⟩ := HOK.out her
      obtain ⟨e5, e6, e7, e8⟩ := HGE.out
      obtain ⟨gn, hgn⟩ : ∃ z, z = G.length := ⟨_, rfl⟩
      obtain ⟨nn, hnn⟩ : ∃ z, z = N.length := ⟨_, rfl⟩
      obtain ⟨hn, hhn⟩ : ∃ z, z = H.length := ⟨_, rfl⟩
      obtain ⟨en, hen⟩ : ∃ z, z = E.length := ⟨_, rfl⟩
      have L1 : Hid (∀ W, Below w.heap.size w W → Calls Tryz.prog 48 #[.slice na nl nc, .slice ma ml mc, .func (.func 49) #[] #[]] W fun e w' => LkN w' G gn e ∧ Below W.heap.size W w') := fun W kW => (lackN_any AN1 BN1 na nl nc ma ml mc W (p1.below kW) (p3.below kW) l1 o1 o3).mono fun e w' ⟨h, k⟩ => ⟨by
        obtain ⟨a, c, he, _, hat⟩ := h.reads k
        rw [← e5, ← hgn] at he hat
        exact ⟨a, c, he, hat⟩, k⟩
      have L2 : Hid (∀ W, Below w.heap.size w W → Calls Tryz.prog 48 #[.slice ma ml mc, .slice na nl nc, .func (.func 49) #[] #[]] W fun e w' => LkN w' N nn e ∧ Below W.heap.size W w') := fun W kW => (lackN_any BN1 AN1 ma ml mc na nl nc W (p3.below kW) (p1.below kW) l3 o3 o1).mono fun e w' ⟨h, k⟩ => ⟨by
        obtain ⟨a, c, he, _, hat⟩ := h.reads k
        rw [← e6, ← hnn] at he hat
        exact ⟨a, c, he, hat⟩, k⟩
      have L3 : Hid (∀ W, Below w.heap.size w W → Calls Tryz.prog 50 #[.slice ea el ec, .slice fa fl fc, .func (.func 51) #[] #[]] W fun e w' => LkE w' H hn e ∧ Below W.heap.size W w') := fun W kW => (lackE_any AE1 BE1 ea el ec fa fl fc W (p2.below kW) (p4.below kW) l2 o2 o4).mono fun e w' ⟨h, k⟩ => ⟨by
        obtain ⟨a, c, he, _, hat⟩ := h.reads k
        rw [← e7, ← hhn] at he hat
        exact ⟨a, c, he, hat⟩, k⟩
      have L4 : Hid (∀ W, Below w.heap.size w W → Calls Tryz.prog 50 #[.slice fa fl fc, .slice ea el ec, .func (.func 51) #[] #[]] W fun e w' => LkE w' E en e ∧ Below W.heap.size W w') := fun W kW => (lackE_any BE1 AE1 fa fl fc ea el ec W (p4.below kW) (p2.below kW) l4 o4 o2).mono fun e w' ⟨h, k⟩ => ⟨by
        obtain ⟨a, c, he, _, hat⟩ := h.reads k
        rw [← e8, ← hen] at he hat
        exact ⟨a, c, he, hat⟩, k⟩
      have hlens : gn ≤ 1000 ∧ nn ≤ 1000 ∧ hn ≤ 1000 ∧ en ≤ 1000 := by
        have q1 := lackL_length sameN AN1 BN1
        have q2 := lackL_length sameN BN1 AN1
        have q3 := lackL_length sameE AE1 BE1
        have q4 := lackL_length sameE BE1 AE1
        rw [← e5, ← hgn] at q1
        rw [← e6, ← hnn] at q2
        rw [← e7, ← hhn] at q3
        rw [← e8, ← hen] at q4
        obtain ⟨_, t1, t2⟩ := p1
        obtain ⟨_, t3, t4⟩ := p2
        obtain ⟨_, t5, t6⟩ := p3
        obtain ⟨_, t7, t8⟩ := p4
        have := t1.1; have := t2.1; have := t3.1; have := t4.1; have := t5.1; have := t6.1; have := t7.1; have := t8.1
        omega
      have HD : Hid (∀ W ga1 gc1 na1 nc1 ha1 hc1 ea1 ec1, NsAt W G ga1 gn → NsAt W N na1 nn → EsAt W H ha1 hn → EsAt W E ea1 en → Calls Tryz.prog 47 #[.agg #[.slice ga1 gn gc1, .slice na1 nn nc1, .slice ha1 hn hc1, .slice ea1 en ec1, .int .i64 nx, .int .i64 mx]] W fun e w' => (∃ ga1 gc1 na1 nc1 ha1 hc1 ea1 ec1, e = .returned (.agg #[.slice ga1 gn gc1, .slice na1 nn nc1, .slice ha1 hn hc1, .slice ea1 en ec1, .int .i64 nx, .int .i64 mx]) ∧ NsOwn (fun i => W.heap.size ≤ i) w' G (.slice ga1 gn gc1) ∧ NsOwn (fun i => W.heap.size ≤ i) w' N (.slice na1 nn nc1) ∧ EsOwn (fun i => W.heap.size ≤ i) w' H (.slice ha1 hn hc1) ∧ EsOwn (fun i => W.heap.size ≤ i) w' E (.slice ea1 en ec1)) ∧ Below W.heap.size W w') := fun W ga1 gc1 na1 nc1 ha1 hc1 ea1 ec1 t1 t2 t3 t4 => (freshDelta_any G N H E ga1 gn gc1 na1 nn nc1 ha1 hn hc1 ea1 en ec1 nx mx W t1 t2 t3 t4 hlens.1 hlens.2.1 hlens.2.2.1 hlens.2.2.2 (fun x hx => o1 x (lackL_mem (e5 ▸ hx))) (fun x hx => o3 x (lackL_mem (e6 ▸ hx))) (fun x hx => o2 x (lackL_mem (e7 ▸ hx))) (fun x hx => o4 x (lackL_mem (e8 ▸ hx)))).mono fun e w' ⟨h, k⟩ => ⟨by
        obtain ⟨ga2, gc2, na2, nc2, ha2, hc2, ea2, ec2, he, u1, u2, u3, u4⟩ := h
        rw [← hgn, ← hnn, ← hhn, ← hen] at he
        rw [← hgn] at u1
        rw [← hnn] at u2
        rw [← hhn] at u3
        rw [← hen] at u4
        exact ⟨ga2, gc2, na2, nc2, ha2, hc2, ea2, ec2, he, u1, u2, u3, u4⟩, k⟩
      have HLEN := toHid (show gn = G.length ∧ nn = N.length ∧ hn = H.length ∧ en = E.length from ⟨hgn, hnn, hhn, hen⟩)
      clear p1 p2 p3 p4 l1 l2 l3 l4 o1 o2 o3 o4 e5 e6 e7 e8 hgn hnn hhn hen hlens her HOK HGE HC1 HC2
      have S0 := HS.out wc HKC.out
      obtain ⟨x0, x1, x2, x3, x4, x5⟩ := S0
      have D0 : Below wc.heap.size wc wc.drew := (Below.refl _ _).drew
      go_wp2_with fail
      have HS2 : Hid (∀ W' : World, Below wc.heap.size wc W' → W'.cell? ⟨w.heap.size, 0, none⟩ = some (.slice na nl nc) ∧ W'.cell? ⟨w.heap.size, 1, none⟩ = some (.slice ea el ec) ∧ W'.cell? ⟨w.heap.size, 2, none⟩ = some (.int .i64 nx) ∧ W'.cell? ⟨w.heap.size + 1, 0, none⟩ = some (.slice ma ml mc) ∧ W'.cell? ⟨w.heap.size + 1, 1, none⟩ = some (.slice fa fl fc) ∧ W'.cell? ⟨w.heap.size + 1, 2, none⟩ = some (.int .i64 mx)) := fun W' k => HS.out W' (HKC.out.trans (k.mono HKC.out.size))
      have HB2 : Hid (∀ W' : World, Below wc.heap.size wc W' → Below w.heap.size w W') := fun W' k => HBC.out.trans (k.mono HBC.out.size)
      have HR6 : Hid (∀ u : World, Below wc.heap.size wc u → u.cell? ⟨w.heap.size + 2, 0, none⟩ = some (.slice none 0 0) ∧ u.cell? ⟨w.heap.size + 2, 1, none⟩ = some (.slice none 0 0) ∧ u.cell? ⟨w.heap.size + 2, 2, none⟩ = some (.slice none 0 0) ∧ u.cell? ⟨w.heap.size + 2, 3, none⟩ = some (.slice none 0 0) ∧ u.cell? ⟨w.heap.size + 2, 4, none⟩ = some (.int .i64 0) ∧ u.cell? ⟨w.heap.size + 2, 5, none⟩ = some (.int .i64 0) ∧ u.frozen? ⟨w.heap.size + 2, 0, none⟩ = false ∧ u.frozen? ⟨w.heap.size + 2, 1, none⟩ = false ∧ u.frozen? ⟨w.heap.size + 2, 2, none⟩ = false ∧ u.frozen? ⟨w.heap.size + 2, 3, none⟩ = false ∧ u.frozen? ⟨w.heap.size + 2, 4, none⟩ = false ∧ u.frozen? ⟨w.heap.size + 2, 5, none⟩ = false) := fun u k => by
        have h35 := (k.block (w.heap.size + 2) (by omega)).trans H3C.out
        exact ⟨cell_of h35 0, cell_of h35 1, cell_of h35 2, cell_of h35 3, cell_of h35 4, cell_of h35 5, free_of h35 0, free_of h35 1, free_of h35 2, free_of h35 3, free_of h35 4, free_of h35 5⟩
      have HS6 : Hid (∀ u : World, Below wc.heap.size wc u → ∀ v0 v1 v2 v3 v4 v5 : Value, ((((((u.setCell ⟨w.heap.size + 2, 0, none⟩ (v0)).setCell ⟨w.heap.size + 2, 1, none⟩ (v1)).setCell ⟨w.heap.size + 2, 2, none⟩ (v2)).setCell ⟨w.heap.size + 2, 3, none⟩ (v3)).setCell ⟨w.heap.size + 2, 4, none⟩ (v4)).setCell ⟨w.heap.size + 2, 5, none⟩ (v5)).cell? ⟨w.heap.size, 0, none⟩ = some (.slice na nl nc) ∧ ((((((u.setCell ⟨w.heap.size + 2, 0, none⟩ (v0)).setCell ⟨w.heap.size + 2, 1, none⟩ (v1)).setCell ⟨w.heap.size + 2, 2, none⟩ (v2)).setCell ⟨w.heap.size + 2, 3, none⟩ (v3)).setCell ⟨w.heap.size + 2, 4, none⟩ (v4)).setCell ⟨w.heap.size + 2, 5, none⟩ (v5)).cell? ⟨w.heap.size, 1, none⟩ = some (.slice ea el ec) ∧ ((((((u.setCell ⟨w.heap.size + 2, 0, none⟩ (v0)).setCell ⟨w.heap.size + 2, 1, none⟩ (v1)).setCell ⟨w.heap.size + 2, 2, none⟩ (v2)).setCell ⟨w.heap.size + 2, 3, none⟩ (v3)).setCell ⟨w.heap.size + 2, 4, none⟩ (v4)).setCell ⟨w.heap.size + 2, 5, none⟩ (v5)).cell? ⟨w.heap.size, 2, none⟩ = some (.int .i64 nx) ∧ ((((((u.setCell ⟨w.heap.size + 2, 0, none⟩ (v0)).setCell ⟨w.heap.size + 2, 1, none⟩ (v1)).setCell ⟨w.heap.size + 2, 2, none⟩ (v2)).setCell ⟨w.heap.size + 2, 3, none⟩ (v3)).setCell ⟨w.heap.size + 2, 4, none⟩ (v4)).setCell ⟨w.heap.size + 2, 5, none⟩ (v5)).cell? ⟨w.heap.size + 1, 0, none⟩ = some (.slice ma ml mc) ∧ ((((((u.setCell ⟨w.heap.size + 2, 0, none⟩ (v0)).setCell ⟨w.heap.size + 2, 1, none⟩ (v1)).setCell ⟨w.heap.size + 2, 2, none⟩ (v2)).setCell ⟨w.heap.size + 2, 3, none⟩ (v3)).setCell ⟨w.heap.size + 2, 4, none⟩ (v4)).setCell ⟨w.heap.size + 2, 5, none⟩ (v5)).cell? ⟨w.heap.size + 1, 1, none⟩ = some (.slice fa fl fc) ∧ ((((((u.setCell ⟨w.heap.size + 2, 0, none⟩ (v0)).setCell ⟨w.heap.size + 2, 1, none⟩ (v1)).setCell ⟨w.heap.size + 2, 2, none⟩ (v2)).setCell ⟨w.heap.size + 2, 3, none⟩ (v3)).setCell ⟨w.heap.size + 2, 4, none⟩ (v4)).setCell ⟨w.heap.size + 2, 5, none⟩ (v5)).cell? ⟨w.heap.size + 1, 2, none⟩ = some (.int .i64 mx)) := fun u k v0 v1 v2 v3 v4 v5 => by
        have q : ∀ b o, b ≠ w.heap.size + 2 → (putL u (w.heap.size + 2) 0 [v0, v1, v2, v3, v4, v5]).cell? ⟨b, o, none⟩ = u.cell? ⟨b, o, none⟩ := fun b o hb => World.cell?_of_block (a := ⟨b, o, none⟩) (putL_other _ _ _ _ b hb)
        obtain ⟨s0, s1, s2, s3, s4, s5⟩ := HS2.out u k
        exact ⟨(q _ _ (by omega)).trans s0, (q _ _ (by omega)).trans s1, (q _ _ (by omega)).trans s2, (q _ _ (by omega)).trans s3, (q _ _ (by omega)).trans s4, (q _ _ (by omega)).trans s5⟩
      clear HS HKC h3c
      go_region_held3 (fun w' => w'.cell? ⟨w.heap.size, 0, none⟩ = some (.slice na nl nc) ∧ w'.cell? ⟨w.heap.size, 1, none⟩ = some (.slice ea el ec) ∧ w'.cell? ⟨w.heap.size, 2, none⟩ = some (.int .i64 nx) ∧ w'.cell? ⟨w.heap.size + 1, 0, none⟩ = some (.slice ma ml mc) ∧ w'.cell? ⟨w.heap.size + 1, 1, none⟩ = some (.slice fa fl fc) ∧ w'.cell? ⟨w.heap.size + 1, 2, none⟩ = some (.int .i64 mx))
        (first
          | with_reducible exact S6
          | with_reducible exact S5
          | with_reducible exact S4
          | with_reducible exact S3
          | with_reducible exact S2
          | with_reducible exact S1
          | exact ⟨x0, x1, x2, x3, x4, x5⟩
          | go_keep)
        (first
          | (go_at_call 47; refine (HD.out u4 ga1 gc1 na1 nc1 ha1 hc1 ea1 ec1 t1' t2' t3' t4).mono ?_; rintro e u5 ⟨⟨ga1, gc1, na1, nc1, ha1, hc1, ea1, ec1, rfl, v1, v2, v3, v4⟩, h5⟩; have k5 : Below wc.heap.size wc u5 := k4.trans (h5.mono k4.size); have S5 := HS2.out u5 k5; obtain ⟨r0, r1, r2, r3, r4, r5, g0, g1, g2, g3, g4, g5⟩ := HR6.out u5 k5; have S6 := HS6.out u5 k5 (.slice ga1 gn gc1) (.slice na1 nn nc1) (.slice ha1 hn hc1) (.slice ea1 en ec1) (.int .i64 nx) (.int .i64 mx); have K5 := toHid k5; have V1 := toHid v1; have V2 := toHid v2; have V3 := toHid v3; have V4 := toHid v4; clear k5 v1 v2 v3 v4)
          | (go_at_call 50; refine (L4.out _ (HB2.out _ k3)).mono ?_; rintro e u4 ⟨⟨ea1, ec1, rfl, t4⟩, h4⟩; have k4 : Below wc.heap.size wc u4 := k3.trans (h4.mono k3.size); have S4 := HS2.out u4 k4; have t1' := t1.below (h2.trans (h3.mono h2.size)) |>.below (h4.mono (Nat.le_refl _)); have t2' := (t2.below h3).below h4; have t3' := t3.below h4)
          | (go_at_call 50; refine (L3.out _ (HB2.out _ k2)).mono ?_; rintro e u3 ⟨⟨ha1, hc1, rfl, t3⟩, h3⟩; have k3 : Below wc.heap.size wc u3 := k2.trans (h3.mono k2.size); have S3 := HS2.out u3 k3)
          | (go_at_call 48; refine (L2.out _ (HB2.out _ k1)).mono ?_; rintro e u2 ⟨⟨na1, nc1, rfl, t2⟩, h2⟩; have k2 : Below wc.heap.size wc u2 := k1.trans (h2.mono k1.size); have S2 := HS2.out u2 k2)
          | (go_at_call 48; refine (L1.out _ (HB2.out _ D0)).mono ?_; rintro e u1 ⟨⟨ga1, gc1, rfl, t1⟩, h1⟩; have k1 : Below wc.heap.size wc u1 := D0.trans h1; have S1 := HS2.out u1 k1))
      all_goals
        go_wp2_with fail
        have eP : ∀ X : World, (((((X.setCell ⟨w.heap.size + 2, 0, none⟩ (.slice ga1 gn gc1)).setCell ⟨w.heap.size + 2, 1, none⟩ (.slice na1 nn nc1)).setCell ⟨w.heap.size + 2, 2, none⟩ (.slice ha1 hn hc1)).setCell ⟨w.heap.size + 2, 3, none⟩ (.slice ea1 en ec1)).setCell ⟨w.heap.size + 2, 4, none⟩ (.int .i64 nx)).setCell ⟨w.heap.size + 2, 5, none⟩ (.int .i64 mx) = putL X (w.heap.size + 2) 0 [.slice ga1 gn gc1, .slice na1 nn nc1, .slice ha1 hn hc1, .slice ea1 en ec1, .int .i64 nx, .int .i64 mx] := fun _ => rfl
        rw [eP]
        have E1 := putL_here [.slice ga1 gn gc1, .slice na1 nn nc1, .slice ha1 hn hc1, .slice ea1 en ec1, .int .i64 nx, .int .i64 mx] 0 u5 _ (((K5.out.block (w.heap.size + 2) (by omega)).trans H3C.out))
        have hbb : Below w.heap.size w (putL u5 (w.heap.size + 2) 0 [.slice ga1 gn gc1, .slice na1 nn nc1, .slice ha1 hn hc1, .slice ea1 en ec1, .int .i64 nx, .int .i64 mx]) := (HB2.out u5 K5.out).trans ((putL_bel (w.heap.size + 2) _ _ u5).mono (by omega))
        have hK : Keep (fun i => u4.heap.size ≤ i) (fun i => w.heap.size ≤ i) u5 (putL u5 (w.heap.size + 2) 0 [.slice ga1 gn gc1, .slice na1 nn nc1, .slice ha1 hn hc1, .slice ea1 en ec1, .int .i64 nx, .int .i64 mx]) := ⟨by rw [putL_size]; exact Nat.le_refl _, fun i hi hl => ⟨by have hi' : u4.heap.size ≤ i := hi; have := k4.size; show w.heap.size ≤ i; omega, putL_other _ _ _ _ i (by have := k4.size; omega)⟩⟩
        generalize putL u5 (w.heap.size + 2) 0 [.slice ga1 gn gc1, .slice na1 nn nc1, .slice ha1 hn hc1, .slice ea1 en ec1, .int .i64 nx, .int .i64 mx] = Y at E1 hbb hK ⊢
        have t0 := cell_of E1 0
        have t1 := cell_of E1 1
        have t2 := cell_of E1 2
        have t3 := cell_of E1 3
        have t4 := cell_of E1 4
        have t5 := cell_of E1 5
        simp [setL] at t0 t1 t2 t3 t4 t5
        refine bodyPost_ret (v := .tuple #[.agg #[.slice ga1 gn gc1, .slice na1 nn nc1, .slice ha1 hn hc1, .slice ea1 en ec1, .int .i64 nx, .int .i64 mx], .int .i64 0]) (by simp [results, Tryz.results18, go_sem, t0, t1, t2, t3, t4, t5]) rfl ⟨⟨.agg #[.slice ga1 gn gc1, .slice na1 nn nc1, .slice ha1 hn hc1, .slice ea1 en ec1, .int .i64 nx, .int .i64 mx], by rw [HE0.out], fun h => absurd HE0.out h, fun _ => ?_⟩, hbb⟩
        have w1 := V1.out.kept hK
        have w2 := V2.out.kept hK
        have w3 := V3.out.kept hK
        have w4 := V4.out.kept hK
        obtain ⟨m1, m2, m3, m4⟩ := HLEN.out
        rw [m1] at w1 ⊢
        rw [m2] at w2 ⊢
        rw [m3] at w3 ⊢
        rw [m4] at w4 ⊢
        exact ⟨ga1, gc1, na1, nc1, ha1, hc1, ea1, ec1, rfl, w1, w2, w3, w4⟩
    · have her' : (er != 0) = true := by simp [her]
      have HE0 := toHid her
      have r0 := cell_of h3c 0
      have r1 := cell_of h3c 1
      have r2 := cell_of h3c 2
      have r3 := cell_of h3c 3
      have r4 := cell_of h3c 4
      have r5 := cell_of h3c 5
      have g0 := free_of h3c 0
      have g1 := free_of h3c 1
      have g2 := free_of h3c 2
      have g3 := free_of h3c 3
      have g4 := free_of h3c 4
      have g5 := free_of h3c 5
      simp at r0 r1 r2 r3 r4 r5
      clear her h3c
      go_wp2_with fail
      have eP : ∀ X : World, (((((X.setCell ⟨w.heap.size + 2, 0, none⟩ (.slice none 0 0)).setCell ⟨w.heap.size + 2, 1, none⟩ (.slice none 0 0)).setCell ⟨w.heap.size + 2, 2, none⟩ (.slice none 0 0)).setCell ⟨w.heap.size + 2, 3, none⟩ (.slice none 0 0)).setCell ⟨w.heap.size + 2, 4, none⟩ (.int .i64 0)).setCell ⟨w.heap.size + 2, 5, none⟩ (.int .i64 0) = putL X (w.heap.size + 2) 0 [.slice none 0 0, .slice none 0 0, .slice none 0 0, .slice none 0 0, .int .i64 0, .int .i64 0] := fun _ => rfl
      rw [eP]
      have E1 := putL_here [.slice none 0 0, .slice none 0 0, .slice none 0 0, .slice none 0 0, .int .i64 0, .int .i64 0] 0 wc _ H3C.out
      have hbb : Below w.heap.size w (putL wc (w.heap.size + 2) 0 [.slice none 0 0, .slice none 0 0, .slice none 0 0, .slice none 0 0, .int .i64 0, .int .i64 0]) := HBC.out.trans ((putL_bel (w.heap.size + 2) _ _ wc).mono (by omega))
      generalize putL wc (w.heap.size + 2) 0 [.slice none 0 0, .slice none 0 0, .slice none 0 0, .slice none 0 0, .int .i64 0, .int .i64 0] = Y at E1 hbb ⊢
      have t0 := cell_of E1 0
      have t1 := cell_of E1 1
      have t2 := cell_of E1 2
      have t3 := cell_of E1 3
      have t4 := cell_of E1 4
      have t5 := cell_of E1 5
      simp [setL] at t0 t1 t2 t3 t4 t5
      exact bodyPost_ret (v := .tuple #[zeroD, .int .i64 er]) (by simp [results, Tryz.results18, go_sem, t0, t1, t2, t3, t4, t5, zeroD]) rfl ⟨⟨zeroD, rfl, fun _ => rfl, fun h => absurd h HE0.out⟩, hbb⟩
end Go.Proofs.YtdlmlpddkfnfmaaGreatDoor
