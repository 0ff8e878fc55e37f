/-
  What is proved here: what the texts BTalDi, BDist, BAdd1, BTalAd prove, in one text.
-/
import Derived.Test.YtcfifihlfomccaaDoorQBAM
import Derived.Test.YtcfifihlfomccaaDoorQBAR
import Derived.Test.YtcfifihlfomccaaDoorQBAQ
import Derived.Test.YtcfifihlfomccaaDoorQBAN
namespace Go.Proofs.YtcfifihlfomccaaDoor
open Go.RowKit
set_option linter.unusedVariables false

set_option linter.unusedSimpArgs false

set_option maxHeartbeats 8000000 in
set_option maxRecDepth 100000 in
theorem talDi_any (B : Nat) (cp0 : Value) (Ls : List Cn) (w : World) (hB : B ≤ w.heap.size) (hT : Tabs B w)
    (hv : ∀ (W : World) (bo : Nat), w.heap.size ≤ bo → TInv w.heap.size bo [] W (.slice none 0 0) → Below w.heap.size w W → Calls Tryd.prog 40 #[.func (.func 47) #[] #[.pointer (some ⟨bo, 0, none⟩)], cp0] W fun e w' => e = .returned (.tuple #[]) ∧ ∃ M v', Good Ls M ∧ TInv w.heap.size bo M w' v' ∧ TStep bo (.slice none 0 0) v' W w') :
    Calls Tryd.prog 24 #[.func (.func 40) #[] #[cp0]] w fun e w' => TalEnd w.heap.size w' Ls e ∧ Below w.heap.size w w' := by
  have b0 : Below w.heap.size w (w.alloc (.cells #[.slice none 0 0] 23)) := (Below.refl _ _).alloc (Nat.le_refl _) _
  have h0 := alloc_new w (.cells #[.slice none 0 0] 23)
  have HV := toHid (hv _ w.heap.size (Nat.le_refl _) ⟨h0, World.ownsRow_nil _ _ _ _, by simp [Value.ownBlock], fun x hx => by cases hx⟩ b0)
  have HB0 := toHid b0
  have HTB := toHid hT
  clear hv b0 h0 hT
  go_enter Tryd.func24, Tryd.ntmps24
  go_wp2_with (go_at_call 40; refine HV.out.mono ?_)
  rintro e w1 ⟨rfl, M, v1, hgood, hinv, hst⟩
  have HG := toHid hgood
  have HI := toHid hinv
  have HB1 : Hid (Below w.heap.size w w1) := HB0.out.trans (hst.toBelow (Nat.le_refl _) (fun g hg => by cases hg) (by simp))
  have y0 := cell_of hinv.box 0
  simp at y0
  have hbo := blkB_lt hinv.box
  have HS := toHid (sortC_any w1 w.heap.size v1 M hinv.row (Nat.le_trans hgood.len (by decide)) fun x hx => ⟨LieA.kept (Nat.le_refl _) (fun i hi _ => ⟨hi.2, rfl⟩) _ _ _ (hinv.rows x hx), (hgood.ok x hx).2⟩)
  clear hgood hinv hst HV HB0
  go_wp2_with (go_at_call 48; refine HS.out.mono ?_)
  rintro e w2 ⟨rfl, M2, hperm, hsort, hrow2, hgrow⟩
  have y2 : w2.cell? ⟨w.heap.size, 0, none⟩ = some v1 := (World.cell?_of_block (hgrow.block w.heap.size hbo fun e => HI.out.nbo e.symm)).trans y0
  have hbo2 : w.heap.size < w2.heap.size := Nat.lt_of_lt_of_le hbo hgrow.size
  have HB2 : Hid (Below w.heap.size w w2) := ⟨hgrow.os.trans HB1.out.os, hgrow.tape.trans HB1.out.tape, hgrow.output.trans HB1.out.output, Nat.le_trans HB1.out.size hgrow.size, fun k hk => (hgrow.block k (Nat.lt_of_lt_of_le hk HB1.out.size) fun e => by have := (rowLt HI.out.row e.symm).1; omega).trans (HB1.out.block k hk)⟩
  have HOK : Hid (∀ x ∈ M2, (LiesS w2 x.L x.a x.l ∧ InL x.L) ∧ wtL x.L ≤ 1099511627776) := fun x hx => by
    have hm := hperm.mem_iff.1 hx
    exact ⟨⟨LieA.lies _ _ _ (LieA.kept hgrow.size (A' := fun _ => True) (fun i hi hl => ⟨trivial, hgrow.block i hl fun e => hi.2 e.symm⟩) _ _ _ (HI.out.rows x hm)), (HG.out.ok x hm).1⟩, (HG.out.ok x hm).2⟩
  have hlen2 : M2.length = M.length := hperm.length_eq
  obtain ⟨va, vn, vc, rfl⟩ : ∃ va vn vc, v1 = .slice va vn vc := by
    rcases hrow2.2 with ⟨h0, _⟩ | ⟨g', cap', cur, h0, _⟩
    · exact ⟨_, _, _, h0⟩
    · exact ⟨_, _, _, h0⟩
  have hTG := together_any del_ok M2 va vn vc w2 (ctsOwn (by rw [hlen2]; exact hrow2) (by rw [hlen2]; exact Nat.le_trans HG.out.len (by decide))) (fun x hx => ⟨(HOK.out x hx).1.1, (HOK.out x hx).2⟩) (by rw [absS_perm hperm]; exact HG.out.abs)
  have HBAG := toHid (tal_bag HG.out hperm hsort)
  have hF := tal_ok (P := fun x => (LiesS w2 x.L x.a x.l ∧ InL x.L) ∧ wtL x.L ≤ 1099511627776) (fun p n h => h) HOK.out
  have hFL : ((tgCs M2).filter fun c => !(c.n == 0)).length ≤ 900000 := by
    have h1 := tgCs_len M2 M2.length
    rw [List.take_length] at h1
    exact Nat.le_trans (List.length_filter_le _ _) (Nat.le_trans h1 (by rw [hlen2]; exact HG.out.len))
  generalize (tgCs M2).filter (fun c => !(c.n == 0)) = F at hTG HBAG hF hFL
  have HTG := toHid hTG
  have HF := toHid hF
  clear hTG hF hperm hsort hrow2 hgrow y0 hbo hlen2 HS HI HG HB1 HOK
  go_wp2_with (go_at_call 50; refine HTG.out.mono ?_)
  rintro e w3 ⟨v3, rfl, hrow3, k3⟩
  have HB3 := toHid (HB2.out.trans (k3.mono HB2.out.size))
  obtain ⟨va3, vn3, vc3, rfl⟩ : ∃ va vn vc, v3 = .slice va vn vc := by
    rcases hrow3.2 with ⟨h0, _⟩ | ⟨g', cap', cur, h0, _⟩
    · exact ⟨_, _, _, h0⟩
    · exact ⟨_, _, _, h0⟩
  have hF3 : ∀ x ∈ F, LiesS w3 x.L x.a x.l ∧ InL x.L ∧ wtL x.L ≤ 1099511627776 := fun x hx => ⟨LiesS.below k3 _ _ _ (HF.out x hx).1.1, (HF.out x hx).1.2, (HF.out x hx).2⟩
  obtain ⟨O, hO1, hO2, hO3⟩ := told_all B w3 (Nat.le_trans hB HB3.out.size) (HTB.out.below (HB3.out.mono hB)) F hF3
  have hat := ctsOwn hrow3 (Nat.le_trans hFL (by decide))
  have HC := toHid (check_bag O va3 vn3 vc3 w3 w3 ⟨by rw [hO1]; exact hat, hO2⟩ (Below.refl _ _))
  have HAT := toHid hat
  have HF3 := toHid hF3
  have HO1 := toHid hO1
  have HO3 : Hid (∀ x e, (x, e) ∈ O → RowTold x.L e ∧ wtL x.L ≤ 1099511627776) := fun x e hx => ⟨hO3 x e hx, (hF3 x (by rw [← hO1]; exact List.mem_map.2 ⟨_, hx, rfl⟩)).2.2⟩
  have HBG : Hid (IsBag (O.map fun y => y.1.cn) ∧ ∀ r, cnt (O.map fun y => y.1.cn) r = cnt Ls r) := by
    have e1 : (O.map fun y => y.1.cn) = F.map Ct.cn := by rw [← hO1, List.map_map]; rfl
    show _ ∧ _
    rw [e1]
    exact HBAG.out
  generalize hz0 : bagE O = z at HC
  have HZ0 := toHid hz0
  clear hrow3 k3 hF3 hO1 hO2 hO3 hat hz0 y2 hbo2 HTG HB2 HBAG HF
  go_wp2_with (go_at_call 7; refine HC.out.mono ?_)
  rintro e w4 ⟨rfl, k4⟩
  have HB4 := toHid (HB3.out.trans (k4.mono HB3.out.size))
  by_cases hz : z = 0
  · have hz' : (z != 0) = false := by simp [hz]
    have HE := toHid (freshBag_any F va3 vn3 vc3 w4 (HAT.out.below k4) fun x hx => ⟨LiesS.below k4 _ _ _ (HF3.out x hx).1, (HF3.out x hx).2.2⟩)
    have HZ := toHid hz
    clear hz k4 HC
    go_wp2_with (go_at_call 51; refine HE.out.mono ?_)
    rintro e w5 ⟨⟨v5, rfl, hv5⟩, k5⟩
    have HB5 := toHid (HB4.out.trans (k5.mono HB4.out.size))
    have HV5 : Hid (CtsNew w.heap.size w5 (O.map (·.1)) v5) := by
      rw [HO1.out]
      obtain ⟨P, p1, p2⟩ := hv5
      refine ⟨P, ⟨p1.1, p1.2.elim .inl fun ⟨g, cap, cur, e1, e2, e3⟩ => .inr ⟨g, cap, cur, e1, Nat.le_trans HB4.out.size e2, e3⟩⟩, p2.mono fun p x _ _ h => h.kept ⟨Nat.le_refl _, fun i hi _ => ⟨⟨Nat.le_trans HB4.out.size hi.1, hi.2⟩, rfl⟩⟩⟩
    clear hv5 k5
    go_wp2_with fail
    refine bodyPost_ret (v := .tuple #[v5, .int .i64 0]) (by simp [results, Tryd.results24, go_sem]) rfl ?_
    exact ⟨⟨O, HBG.out.1, HBG.out.2, HO3.out, .inr ⟨HZ0.out.trans HZ.out, v5, rfl, HV5.out⟩⟩, HB5.out⟩
  · have hz' : (z != 0) = true := by simp [hz]
    have HZ := toHid hz
    clear hz k4 HC
    go_wp2_with fail
    refine bodyPost_ret (v := .tuple #[.slice none 0 0, .int .i64 z]) (by simp [results, Tryd.results24, go_sem]) rfl ?_
    exact ⟨⟨O, HBG.out.1, HBG.out.2, HO3.out, .inl ⟨by rw [HZ0.out]; exact HZ.out, by rw [HZ0.out]⟩⟩, HB4.out⟩

set_option linter.unusedSimpArgs false

theorem absS_posC (X : List Ct) : absS (posC X) = (posC X).length := absS_ones _ fun x hx => by
  obtain ⟨y, _, rfl⟩ := List.mem_map.1 hx
  rfl

/-- What Distinct tells, in plain words. -/
def posX (X : List Cn) : List Cn := (X.filter fun c => decide (0 < c.2)).map fun c => (c.1, 1)

theorem posC_cn (X : List Ct) : (posC X).map Ct.cn = posX (X.map Ct.cn) := by
  unfold posC posX
  rw [List.filter_map, List.map_map, List.map_map]
  rfl

theorem posX_fit {X : List Cn} (h : Fit X) : Fit (posX X) := by
  have hm : ∀ c ∈ posX X, c.2 = 1 ∧ ∃ d ∈ X, d.1 = c.1 := fun c hc => by
    obtain ⟨d, hd, rfl⟩ := List.mem_map.1 hc
    exact ⟨rfl, d, (List.mem_filter.1 hd).1, rfl⟩
  refine ⟨?_, ⟨?_, fun c hc => by rw [(hm c hc).1]; decide⟩, fun c hc => ?_, fun c hc => by rw [(hm c hc).1]; decide⟩
  · unfold posX
    rw [List.length_map]
    exact Nat.le_trans (List.length_filter_le _ _) h.len
  · unfold posX
    rw [List.pairwise_map]
    exact h.bag.rises.filter _
  · obtain ⟨d, hd, e⟩ := (hm c hc).2
    rw [← e]
    exact h.rows d hd

theorem posX_twice (X : List Cn) : posX (posX X) = posX X := by
  have h : ∀ c ∈ posX X, c.2 = 1 := fun c hc => by
    obtain ⟨d, hd, rfl⟩ := List.mem_map.1 hc
    rfl
  generalize posX X = Y at h
  unfold posX
  rw [List.filter_eq_self.2 fun c hc => by rw [h c hc]; rfl]
  conv => rhs; rw [← List.map_id Y]
  exact List.map_congr_left fun c hc => Prod.ext rfl (h c hc).symm

set_option maxHeartbeats 4000000 in
set_option maxRecDepth 100000 in
theorem dist_good (B : Nat) (X : List Cn) (a : Option Addr) (l c : Nat) (w : World) (hB : B ≤ w.heap.size) (hT : Tabs B w) (hX : RB w X a l) :
    Calls Tryd.prog 15 #[.slice a l c] w fun e w' => (∃ a' l' c', e = .returned (.tuple #[.slice a' l' c', .int .i64 0]) ∧ RB w' (posX X) a' l') ∧ Below w.heap.size w w' := by
  obtain ⟨F, hF, hat, hlx, hok⟩ := hX.cts
  have hFX : Hid (posX X = (posC F).map Ct.cn) := by
    show _ = _
    rw [posC_cn, hF]
  obtain ⟨hfit, M, hM1, hM2, hM3, hM4⟩ := hX
  have b0 : Below w.heap.size w (w.alloc (.cells #[.slice a l c] 23)) := (Below.refl _ _).alloc (Nat.le_refl _) _
  have h0 := alloc_new w (.cells #[.slice a l c] 23)
  have z0 : (w.alloc (.cells #[.slice a l c] 23)).heap.size = w.heap.size + 1 := by simp
  have HCK : Hid (Calls Tryd.prog 7 #[.slice a l c] (w.alloc (.cells #[.slice a l c] 23)) fun e w' => e = .returned (.int .i64 0) ∧ Below (w.alloc (.cells #[.slice a l c] 23)).heap.size (w.alloc (.cells #[.slice a l c] 23)) w') := by
    have h := check_bag M a l c w (w.alloc (.cells #[.slice a l c] 23)) hM2 b0
    rw [hM4] at h
    exact h
  have HB0 := toHid b0
  have H0 := toHid h0
  have HZ := toHid z0
  have HF := toHid hF
  have HAT := toHid hat
  have HOK := toHid hok
  have HFIT := toHid (posX_fit hfit)
  have HTB := toHid hT
  have hl2 : l ≤ 2000 := by rw [hlx]; exact hfit.len
  have HFL : Hid (F.length = l) := hat.1.symm
  clear b0 h0 z0 hF hat hok hT hM1 hM2 hM3 hM4 hfit hlx
  go_enter Tryd.func15, Tryd.ntmps15
  go_wp2_with (go_at_call 7; refine HCK.out.mono ?_)
  rintro e w1 ⟨rfl, k1⟩
  have HB1 := toHid (HB0.out.trans (k1.mono HB0.out.size))
  have h1 := (k1.block _ (blkB_lt H0.out)).trans H0.out
  have hFl := HFL.out
  have HTA : Hid (Calls Tryd.prog 24 #[.func (.func 40) #[] #[.pointer (some ⟨w.heap.size, 0, none⟩)]] w1 fun e w' => TalEnd w1.heap.size w' ((posC F).map Ct.cn) e ∧ Below w1.heap.size w1 w') := by
    refine talDi_any B _ ((posC F).map Ct.cn) w1 (Nat.le_trans hB HB1.out.size) (HTB.out.below (HB1.out.mono hB)) fun W bo hbo hinv k => ?_
    have kw := HB1.out.trans (k.mono HB1.out.size)
    refine (distinct1_any w1.heap.size bo w.heap.size F a l c w W HB1.out.size kw k.size (blkB_lt h1) hbo ((k.block _ (blkB_lt h1)).trans h1) HAT.out (fun x hx => (HOK.out x hx).1) (by omega) hinv).mono ?_
    rintro e w' ⟨rfl, v', g1, g2⟩
    refine ⟨rfl, posC F, v', ⟨rfl, fun x hx => ?_, ?_, ?_⟩, g1, g2⟩
    · obtain ⟨y, hy, rfl⟩ := List.mem_map.1 hx
      have := HOK.out y (List.mem_filter.1 hy).1
      exact ⟨this.2.2.2.1.2.2, by have := this.2.2.2.2.2; show wtL y.L ≤ _; omega⟩
    · have := posC_len F
      rw [absS_posC]
      omega
    · have := posC_len F
      omega
  clear k1 h1 HCK HB0 H0 HZ hFl
  generalize hLs : (posC F).map Ct.cn = Ls at HTA hFX
  have HLS := toHid hLs
  clear hLs
  go_wp2_with (go_at_call 24; refine HTA.out.mono ?_)
  rintro e w2 ⟨hend, k2⟩
  have HB2 := toHid (HB1.out.trans (k2.mono HB1.out.size))
  obtain ⟨Y, y1, y2, y3⟩ := tal_end (Nat.le_trans hB HB2.out.size) (HTB.out.below (HB2.out.mono hB)) hend
  have hY : Y = posX X := bag_ext _ _ y1 HFIT.out.bag fun r => by rw [y2, hFX.out]
  subst hY
  rcases y3 with ⟨_, a', l', c', rfl, hr⟩ | ⟨hn, _⟩
  · have HR := toHid hr
    clear k2 hr hend y1 y2
    go_wp2_with fail
    refine bodyPost_ret (by simp [results, Tryd.results15, go_sem]; rfl) rfl ?_
    exact ⟨⟨a', l', c', rfl, HR.out⟩, HB2.out⟩
  · exact absurd HFIT.out hn

set_option maxHeartbeats 4000000 in
set_option maxRecDepth 100000 in
/-- Of a bag that isn't right its error is told. -/
theorem dist_bad (z : Int) (hz : z ≠ 0) (a : Option Addr) (l c : Nat) (w : World) (hC : ∀ W, Below w.heap.size w W → Calls Tryd.prog 7 #[.slice a l c] W fun e w' => e = .returned (.int .i64 z) ∧ Below W.heap.size W w') :
    Calls Tryd.prog 15 #[.slice a l c] w fun e w' => e = .returned (.tuple #[.slice none 0 0, .int .i64 z]) ∧ Below w.heap.size w w' := by
  have b0 : Below w.heap.size w (w.alloc (.cells #[.slice a l c] 23)) := (Below.refl _ _).alloc (Nat.le_refl _) _
  have HCK := toHid (hC _ b0)
  have HB0 := toHid b0
  have hz' : (z != 0) = true := by simp [hz]
  clear b0 hz hC
  go_enter Tryd.func15, Tryd.ntmps15
  go_wp2_with (go_at_call 7; refine HCK.out.mono ?_)
  rintro e w1 ⟨rfl, k1⟩
  have HB1 := toHid (HB0.out.trans (k1.mono HB0.out.size))
  clear k1
  go_wp2_with fail
  refine bodyPost_ret (v := .tuple #[.slice none 0 0, .int .i64 z]) (by simp [results, Tryd.results15, go_sem]) rfl ?_
  exact ⟨rfl, HB1.out⟩

set_option linter.unusedSimpArgs false

def mulC (k : Int) (x : Ct) : Ct := { x with n := k * x.n }

set_option maxHeartbeats 8000000 in
set_option maxRecDepth 100000 in
theorem add1_any (T0 bo ba bb bk : Nat) (X Y : List Ct) (k : Int) (a a' : Option Addr) (l c l' c' : Nat) (w0 w : World) (hw0 : w0.heap.size ≤ T0) (k0 : Below w0.heap.size w0 w) (hT : T0 ≤ w.heap.size) (hba : ba < T0) (hbb : bb < T0) (hbk : bk < T0) (hbo : T0 ≤ bo) (hax : w.heap[ba]? = some (.cells #[.slice a l c] 23 (0, 0))) (hbx : w.heap[bb]? = some (.cells #[.slice a' l' c'] 23 (0, 0))) (hkx : w.heap[bk]? = some (.cells #[.int .i64 k] 3 (0, 0))) (hX : CtsAt w0 X a l) (hY : CtsAt w0 Y a' l') (hL : ∀ x ∈ X, LiesS w0 x.L x.a x.l) (hL' : ∀ x ∈ Y, LiesS w0 x.L x.a x.l ∧ SmallN x) (hk : -1000 ≤ k ∧ k ≤ 1000) (hl9 : l ≤ 400000) (hl9' : l' ≤ 400000) (h : TInv T0 bo [] w (.slice none 0 0)) :
    Calls Tryd.prog 25 #[.func (.func 47) #[] #[.pointer (some ⟨bo, 0, none⟩)], .pointer (some ⟨ba, 0, none⟩), .pointer (some ⟨bb, 0, none⟩), .pointer (some ⟨bk, 0, none⟩)] w fun e w' => e = .returned (.tuple #[]) ∧ ∃ v', TInv T0 bo (X ++ Y.map (mulC k)) w' v' ∧ TStep bo (.slice none 0 0) v' w w' := by
  have HX := toHid hX
  have HY := toHid hY
  have HL := toHid hL
  have HL' := toHid hL'
  have H := toHid h
  have HK0 := toHid k0
  have y0 := cell_of hax 0
  simp at y0
  have HBX := toHid hbx
  have HKX := toHid hkx
  have HL0 := toHid hX.1
  have HL0' := toHid hY.1
  have hbl := blkB_lt hax
  have HKK := toHid hk
  clear hX hY hL hL' h hax hbx hkx k0 hk
  go_enter Tryd.func25, Tryd.ntmps25
  go_wp2_with fail
  go_loopg [11] l (fun g s11 wr => ∃ (i : Nat) (v : Value), i ≤ l ∧ l - i ≤ g ∧ s11 = .int .i64 i ∧ TInv T0 bo (X.take i) wr v ∧ TStep bo (.slice none 0 0) v w wr)
  case atStart => exact ⟨0, _, Nat.zero_le _, by omega, rfl, H.out, TStep.refl _ _ _⟩
  case round =>
    clear y0
    obtain ⟨i, v, hi, hg, rfl, hinv, hst⟩ := hrel
    have HI := toHid hinv
    have HS := toHid hst
    clear hinv hst
    by_cases hlt : i < l
    · have hil : (i : Int) < l := by omega
      obtain ⟨x, hx, _⟩ := drop_get (L := X) (i := i) (by have := HL0.out; omega)
      obtain ⟨b, off, rfl, hb, hc⟩ := HX.out.2.2 (by omega)
      obtain ⟨c0, c1⟩ := hc i x hx
      have hbel : Below T0 w wr := HS.out.toBelow hbo (fun g hg => by cases hg) hT
      have d0 := (hbel.cell (p := ⟨b, off + i * 2, none⟩) (by show b < T0; omega)).trans ((HK0.out.cell (p := ⟨b, off + i * 2, none⟩) hb).trans c0)
      have d1 := (hbel.cell (p := ⟨b, off + i * 2 + 1, none⟩) (by show b < T0; omega)).trans ((HK0.out.cell (p := ⟨b, off + i * 2 + 1, none⟩) hb).trans c1)
      have HA : Hid (Below wr.heap.size wr (wr.alloc (cObj x))) := (Below.refl _ _).alloc (Nat.le_refl _) _
      have HN := toHid (alloc_new wr (cObj x))
      have HLx := toHid (HL.out x (List.mem_of_getElem? hx))
      have HTK : Hid (X.take (i + 1) = X.take i ++ [x]) := by
        show _ = _
        rw [List.take_add_one, hx]
        rfl
      have hblr : b < wr.heap.size := by have := HS.out.size; have := HK0.out.size; omega
      clear c0 c1 hc hx hbel
      go_upto_region 3 with fail
      have HI1 := toHid (HI.out.below HA.out)
      have HS1 := toHid (HS.out.trans (TStep.below (bo := bo) (v := v) HA.out))
      generalize wr.alloc (cObj x) = W1 at HA HN HI1 HS1 ⊢
      generalize wr.heap.size = bx at HN ⊢
      have x0 := cell_of HN.out 0
      have x1 := cell_of HN.out 1
      simp at x0 x1
      have hbx := blkB_lt HN.out
      clear d0 d1 hblr HA HI HS
      have HC := toHid (tally1_any T0 bo (X.take i) x W1 v (Nat.le_trans hT HS1.out.size) HI1.out (by rw [List.length_take]; omega) (lie_ahead hw0 HK0.out hT hbo HI1.out HS1.out HLx.out))
      go_wp2_with fail
      refine HC.out.mono ?_
      rintro e w1 ⟨rfl, v1, hi1, hs1⟩
      have HI2 := toHid hi1
      have HS2 := toHid (HS1.out.trans hs1)
      clear hi1 hs1 x0 x1
      go_wp2_with fail
      go_roundg (l - (i + 1))
      case measure => omega
      case rel =>
        refine ⟨i + 1, v1, by omega, Nat.le_refl _, by go_num, ?_, HS2.out⟩
        rw [HTK.out]
        exact HI2.out
    · have he : i = l := by omega
      subst he
      have HI0 : Hid (TInv T0 bo (X ++ (Y.take 0).map (mulC k)) wr v) := by
        have h1 := HI.out
        rw [List.take_of_length_le (by have := HL0.out; omega)] at h1
        show TInv T0 bo (X ++ []) wr v
        rw [List.append_nil]
        exact h1
      have hbel : Below T0 w wr := HS.out.toBelow hbo (fun g hg => by cases hg) hT
      have g0 := cell_of ((hbel.block bb hbb).trans HBX.out) 0
      simp at g0
      have hbbl : bb < wr.heap.size := Nat.lt_of_lt_of_le hbb (Nat.le_trans hT HS.out.size)
      have hlx : X.length = i := HL0.out.symm
      have HLX := toHid hlx
      clear HI HL HX hbel hlx
      obtain ⟨wq, hwq⟩ : ∃ wq, wq = wr := ⟨_, rfl⟩
      rw [← hwq]
      have HS : Hid (TStep bo (.slice none 0 0) v w wq) := by rw [hwq]; exact HS.out
      have HI0 : Hid (TInv T0 bo (X ++ (Y.take 0).map (mulC k)) wq v) := by rw [hwq]; exact HI0.out
      rw [← hwq] at g0 hbbl
      clear hwq
      go_wp2_with fail
      go_loopg [24] l' (fun g s24 wr => ∃ (i : Nat) (v : Value), i ≤ l' ∧ l' - i ≤ g ∧ s24 = .int .i64 i ∧ TInv T0 bo (X ++ (Y.take i).map (mulC k)) wr v ∧ TStep bo (.slice none 0 0) v w wr)
      case atStart => exact ⟨0, _, Nat.zero_le _, by omega, rfl, HI0.out, HS.out⟩
      case round =>
        clear g0 HI0 HS hbbl
        obtain ⟨j, v2, hj, hg, rfl, hinv, hst⟩ := hrel
        have HI := toHid hinv
        have HS := toHid hst
        clear hinv hst
        by_cases hlt : j < l'
        · have hil : (j : Int) < l' := by omega
          obtain ⟨x, hx, _⟩ := drop_get (L := Y) (i := j) (by have := HL0'.out; omega)
          obtain ⟨b, off, rfl, hb, hc⟩ := HY.out.2.2 (by omega)
          obtain ⟨c0, c1⟩ := hc j x hx
          have hbel : Below T0 w wr := HS.out.toBelow hbo (fun g hg => by cases hg) hT
          have d0 := (hbel.cell (p := ⟨b, off + j * 2, none⟩) (by show b < T0; omega)).trans ((HK0.out.cell (p := ⟨b, off + j * 2, none⟩) hb).trans c0)
          have d1 := (hbel.cell (p := ⟨b, off + j * 2 + 1, none⟩) (by show b < T0; omega)).trans ((HK0.out.cell (p := ⟨b, off + j * 2 + 1, none⟩) hb).trans c1)
          have HA : Hid (Below wr.heap.size wr (wr.alloc (cObj x))) := (Below.refl _ _).alloc (Nat.le_refl _) _
          have HN := toHid (alloc_new wr (cObj x))
          have HLx := toHid (HL'.out x (List.mem_of_getElem? hx))
          have HTK : Hid (X ++ (Y.take (j + 1)).map (mulC k) = (X ++ (Y.take j).map (mulC k)) ++ [mulC k x]) := by
            show _ = _
            rw [List.take_add_one, hx, Option.toList_some, List.map_append, List.append_assoc]
            rfl
          have hblr : b < wr.heap.size := by have := HS.out.size; have := HK0.out.size; omega
          have HKB := toHid (((Nat.lt_of_lt_of_le hbk (Nat.le_trans hT HS.out.size) : bk < wr.heap.size)))
          have HKC := toHid ((HA.out.block bk HKB.out).trans ((hbel.block bk hbk).trans HKX.out))
          clear c0 c1 hc hx hbel
          go_upto_region 8 with fail
          have HI1 := toHid (HI.out.below HA.out)
          have HS1 := toHid (HS.out.trans (TStep.below (bo := bo) (v := v2) HA.out))
          generalize wr.alloc (cObj x) = W1 at HA HN HI1 HS1 HKC ⊢
          generalize wr.heap.size = bx at HN ⊢
          have x0 := cell_of HN.out 0
          have x1 := cell_of HN.out 1
          have q0 := cell_of HKC.out 0
          simp at x0 x1 q0
          have hbx := blkB_lt HN.out
          have hbk1 := blkB_lt HKC.out
          have hsm := HLx.out.2
          have hmul : -1099511627776000 ≤ k * x.n ∧ k * x.n ≤ 1099511627776000 := by
            have h1 := hsm.2.1
            have h2 := hsm.2.2
            have h3 := HKK.out.1
            have h4 := HKK.out.2
            have h5 : (k * x.n).natAbs ≤ 1000 * 1099511627776 := by
              rw [Int.natAbs_mul]
              exact Nat.mul_le_mul (by omega) (by omega)
            omega
          have hwm : IntKind.i64.wrap (k * x.n) = k * x.n := by rw [IntKind.wrap_i64]; omega
          have hwm2 : wrap64 (k * x.n) = k * x.n := by unfold wrap64; omega
          clear d0 d1 hblr HA HI HS hsm hmul
          have hc1 := tally1_any T0 bo (X ++ (Y.take j).map (mulC k)) (mulC k x) W1 v2 (Nat.le_trans hT HS1.out.size) HI1.out (by rw [List.length_append, List.length_map, List.length_take]; have := HLX.out; omega) (lie_ahead hw0 HK0.out hT hbo HI1.out HS1.out HLx.out.1)
          have HC : Hid (Calls Tryd.prog 47 #[.slice x.a x.l x.c, .int .i64 (k * x.n), .pointer (some ⟨bo, 0, none⟩)] W1 fun e w' => e = .returned (.tuple #[]) ∧ ∃ v', TInv T0 bo ((X ++ (Y.take j).map (mulC k)) ++ [mulC k x]) w' v' ∧ TStep bo v2 v' W1 w') := hc1
          clear hc1
          go_wp2_with fail
          refine HC.out.mono ?_
          rintro e w1 ⟨rfl, v1, hi1, hs1⟩
          have HI2 := toHid hi1
          have HS2 := toHid (HS1.out.trans hs1)
          clear hi1 hs1 x0 x1 q0 hwm hwm2
          go_wp2_with fail
          go_roundg (l' - (j + 1))
          case measure => omega
          case rel =>
            refine ⟨j + 1, v1, by omega, Nat.le_refl _, by go_num, ?_, HS2.out⟩
            rw [HTK.out]
            exact HI2.out
        · have he : j = l' := by omega
          subst he
          have HTK : Hid (Y.take j = Y) := List.take_of_length_le (by have := HL0'.out; omega)
          go_wp2_with fail
          go_end0
          refine ⟨rfl, v2, ?_, HS.out⟩
          have h1 := HI.out
          rw [HTK.out] at h1
          exact h1

set_option linter.unusedSimpArgs false

set_option maxHeartbeats 8000000 in
set_option maxRecDepth 100000 in
theorem talAd_any (B : Nat) (cp0 cp1 cp2 : Value) (Ls : List Cn) (w : World) (hB : B ≤ w.heap.size) (hT : Tabs B w)
    (hv : ∀ (W : World) (bo : Nat), w.heap.size ≤ bo → TInv w.heap.size bo [] W (.slice none 0 0) → Below w.heap.size w W → Calls Tryd.prog 25 #[.func (.func 47) #[] #[.pointer (some ⟨bo, 0, none⟩)], cp0, cp1, cp2] W fun e w' => e = .returned (.tuple #[]) ∧ ∃ M v', Good Ls M ∧ TInv w.heap.size bo M w' v' ∧ TStep bo (.slice none 0 0) v' W w') :
    Calls Tryd.prog 24 #[.func (.func 25) #[] #[cp0, cp1, cp2]] w fun e w' => TalEnd w.heap.size w' Ls e ∧ Below w.heap.size w w' := by
  have b0 : Below w.heap.size w (w.alloc (.cells #[.slice none 0 0] 23)) := (Below.refl _ _).alloc (Nat.le_refl _) _
  have h0 := alloc_new w (.cells #[.slice none 0 0] 23)
  have HV := toHid (hv _ w.heap.size (Nat.le_refl _) ⟨h0, World.ownsRow_nil _ _ _ _, by simp [Value.ownBlock], fun x hx => by cases hx⟩ b0)
  have HB0 := toHid b0
  have HTB := toHid hT
  clear hv b0 h0 hT
  go_enter Tryd.func24, Tryd.ntmps24
  go_wp2_with (go_at_call 25; refine HV.out.mono ?_)
  rintro e w1 ⟨rfl, M, v1, hgood, hinv, hst⟩
  have HG := toHid hgood
  have HI := toHid hinv
  have HB1 : Hid (Below w.heap.size w w1) := HB0.out.trans (hst.toBelow (Nat.le_refl _) (fun g hg => by cases hg) (by simp))
  have y0 := cell_of hinv.box 0
  simp at y0
  have hbo := blkB_lt hinv.box
  have HS := toHid (sortC_any w1 w.heap.size v1 M hinv.row (Nat.le_trans hgood.len (by decide)) fun x hx => ⟨LieA.kept (Nat.le_refl _) (fun i hi _ => ⟨hi.2, rfl⟩) _ _ _ (hinv.rows x hx), (hgood.ok x hx).2⟩)
  clear hgood hinv hst HV HB0
  go_wp2_with (go_at_call 48; refine HS.out.mono ?_)
  rintro e w2 ⟨rfl, M2, hperm, hsort, hrow2, hgrow⟩
  have y2 : w2.cell? ⟨w.heap.size, 0, none⟩ = some v1 := (World.cell?_of_block (hgrow.block w.heap.size hbo fun e => HI.out.nbo e.symm)).trans y0
  have hbo2 : w.heap.size < w2.heap.size := Nat.lt_of_lt_of_le hbo hgrow.size
  have HB2 : Hid (Below w.heap.size w w2) := ⟨hgrow.os.trans HB1.out.os, hgrow.tape.trans HB1.out.tape, hgrow.output.trans HB1.out.output, Nat.le_trans HB1.out.size hgrow.size, fun k hk => (hgrow.block k (Nat.lt_of_lt_of_le hk HB1.out.size) fun e => by have := (rowLt HI.out.row e.symm).1; omega).trans (HB1.out.block k hk)⟩
  have HOK : Hid (∀ x ∈ M2, (LiesS w2 x.L x.a x.l ∧ InL x.L) ∧ wtL x.L ≤ 1099511627776) := fun x hx => by
    have hm := hperm.mem_iff.1 hx
    exact ⟨⟨LieA.lies _ _ _ (LieA.kept hgrow.size (A' := fun _ => True) (fun i hi hl => ⟨trivial, hgrow.block i hl fun e => hi.2 e.symm⟩) _ _ _ (HI.out.rows x hm)), (HG.out.ok x hm).1⟩, (HG.out.ok x hm).2⟩
  have hlen2 : M2.length = M.length := hperm.length_eq
  obtain ⟨va, vn, vc, rfl⟩ : ∃ va vn vc, v1 = .slice va vn vc := by
    rcases hrow2.2 with ⟨h0, _⟩ | ⟨g', cap', cur, h0, _⟩
    · exact ⟨_, _, _, h0⟩
    · exact ⟨_, _, _, h0⟩
  have hTG := together_any del_ok M2 va vn vc w2 (ctsOwn (by rw [hlen2]; exact hrow2) (by rw [hlen2]; exact Nat.le_trans HG.out.len (by decide))) (fun x hx => ⟨(HOK.out x hx).1.1, (HOK.out x hx).2⟩) (by rw [absS_perm hperm]; exact HG.out.abs)
  have HBAG := toHid (tal_bag HG.out hperm hsort)
  have hF := tal_ok (P := fun x => (LiesS w2 x.L x.a x.l ∧ InL x.L) ∧ wtL x.L ≤ 1099511627776) (fun p n h => h) HOK.out
  have hFL : ((tgCs M2).filter fun c => !(c.n == 0)).length ≤ 900000 := by
    have h1 := tgCs_len M2 M2.length
    rw [List.take_length] at h1
    exact Nat.le_trans (List.length_filter_le _ _) (Nat.le_trans h1 (by rw [hlen2]; exact HG.out.len))
  generalize (tgCs M2).filter (fun c => !(c.n == 0)) = F at hTG HBAG hF hFL
  have HTG := toHid hTG
  have HF := toHid hF
  clear hTG hF hperm hsort hrow2 hgrow y0 hbo hlen2 HS HI HG HB1 HOK
  go_wp2_with (go_at_call 50; refine HTG.out.mono ?_)
  rintro e w3 ⟨v3, rfl, hrow3, k3⟩
  have HB3 := toHid (HB2.out.trans (k3.mono HB2.out.size))
  obtain ⟨va3, vn3, vc3, rfl⟩ : ∃ va vn vc, v3 = .slice va vn vc := by
    rcases hrow3.2 with ⟨h0, _⟩ | ⟨g', cap', cur, h0, _⟩
    · exact ⟨_, _, _, h0⟩
    · exact ⟨_, _, _, h0⟩
  have hF3 : ∀ x ∈ F, LiesS w3 x.L x.a x.l ∧ InL x.L ∧ wtL x.L ≤ 1099511627776 := fun x hx => ⟨LiesS.below k3 _ _ _ (HF.out x hx).1.1, (HF.out x hx).1.2, (HF.out x hx).2⟩
  obtain ⟨O, hO1, hO2, hO3⟩ := told_all B w3 (Nat.le_trans hB HB3.out.size) (HTB.out.below (HB3.out.mono hB)) F hF3
  have hat := ctsOwn hrow3 (Nat.le_trans hFL (by decide))
  have HC := toHid (check_bag O va3 vn3 vc3 w3 w3 ⟨by rw [hO1]; exact hat, hO2⟩ (Below.refl _ _))
  have HAT := toHid hat
  have HF3 := toHid hF3
  have HO1 := toHid hO1
  have HO3 : Hid (∀ x e, (x, e) ∈ O → RowTold x.L e ∧ wtL x.L ≤ 1099511627776) := fun x e hx => ⟨hO3 x e hx, (hF3 x (by rw [← hO1]; exact List.mem_map.2 ⟨_, hx, rfl⟩)).2.2⟩
  have HBG : Hid (IsBag (O.map fun y => y.1.cn) ∧ ∀ r, cnt (O.map fun y => y.1.cn) r = cnt Ls r) := by
    have e1 : (O.map fun y => y.1.cn) = F.map Ct.cn := by rw [← hO1, List.map_map]; rfl
    show _ ∧ _
    rw [e1]
    exact HBAG.out
  generalize hz0 : bagE O = z at HC
  have HZ0 := toHid hz0
  clear hrow3 k3 hF3 hO1 hO2 hO3 hat hz0 y2 hbo2 HTG HB2 HBAG HF
  go_wp2_with (go_at_call 7; refine HC.out.mono ?_)
  rintro e w4 ⟨rfl, k4⟩
  have HB4 := toHid (HB3.out.trans (k4.mono HB3.out.size))
  by_cases hz : z = 0
  · have hz' : (z != 0) = false := by simp [hz]
    have HE := toHid (freshBag_any F va3 vn3 vc3 w4 (HAT.out.below k4) fun x hx => ⟨LiesS.below k4 _ _ _ (HF3.out x hx).1, (HF3.out x hx).2.2⟩)
    have HZ := toHid hz
    clear hz k4 HC
    go_wp2_with (go_at_call 51; refine HE.out.mono ?_)
    rintro e w5 ⟨⟨v5, rfl, hv5⟩, k5⟩
    have HB5 := toHid (HB4.out.trans (k5.mono HB4.out.size))
    have HV5 : Hid (CtsNew w.heap.size w5 (O.map (·.1)) v5) := by
      rw [HO1.out]
      obtain ⟨P, p1, p2⟩ := hv5
      refine ⟨P, ⟨p1.1, p1.2.elim .inl fun ⟨g, cap, cur, e1, e2, e3⟩ => .inr ⟨g, cap, cur, e1, Nat.le_trans HB4.out.size e2, e3⟩⟩, p2.mono fun p x _ _ h => h.kept ⟨Nat.le_refl _, fun i hi _ => ⟨⟨Nat.le_trans HB4.out.size hi.1, hi.2⟩, rfl⟩⟩⟩
    clear hv5 k5
    go_wp2_with fail
    refine bodyPost_ret (v := .tuple #[v5, .int .i64 0]) (by simp [results, Tryd.results24, go_sem]) rfl ?_
    exact ⟨⟨O, HBG.out.1, HBG.out.2, HO3.out, .inr ⟨HZ0.out.trans HZ.out, v5, rfl, HV5.out⟩⟩, HB5.out⟩
  · have hz' : (z != 0) = true := by simp [hz]
    have HZ := toHid hz
    clear hz k4 HC
    go_wp2_with fail
    refine bodyPost_ret (v := .tuple #[.slice none 0 0, .int .i64 z]) (by simp [results, Tryd.results24, go_sem]) rfl ?_
    exact ⟨⟨O, HBG.out.1, HBG.out.2, HO3.out, .inl ⟨by rw [HZ0.out]; exact HZ.out, by rw [HZ0.out]⟩⟩, HB4.out⟩
end Go.Proofs.YtcfifihlfomccaaDoor
