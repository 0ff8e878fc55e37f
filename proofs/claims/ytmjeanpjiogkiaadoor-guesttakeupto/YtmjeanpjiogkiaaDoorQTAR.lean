/-
  What is proved here: what the texts BTalDu, GuDue, BX prove, in one text.
-/
import Derived.Test.YtmjeanpjiogkiaaDoorQTAM
import Derived.Test.YtmjeanpjiogkiaaDoorQTAQ
import Derived.Test.YtmjeanpjiogkiaaDoorQTAN
namespace Go.Proofs.YtmjeanpjiogkiaaDoor
open Go.RowKit
set_option linter.unusedVariables false

set_option linter.unusedSimpArgs false

set_option maxHeartbeats 8000000 in
set_option maxRecDepth 100000 in
theorem talDu_any (B : Nat) (cp0 : Value) (Ls : List Cn) (w : World) (hB : B ≤ w.heap.size) (hT : Tabs B w)
    (hv : ∀ (W : World) (bo : Nat), w.heap.size ≤ bo → TInv w.heap.size bo [] W (.slice none 0 0) → Below w.heap.size w W → Calls Tryd.prog 41 #[.func (.func 46) #[] #[.pointer (some ⟨bo, 0, none⟩)], cp0] W fun e w' => e = .returned (.tuple #[]) ∧ ∃ M v', Good Ls M ∧ TInv w.heap.size bo M w' v' ∧ TStep bo (.slice none 0 0) v' W w') :
    Calls Tryd.prog 32 #[.func (.func 41) #[] #[cp0]] w fun e w' => TalEnd w.heap.size w' Ls e ∧ Below w.heap.size w w' := by
  have b0 : Below w.heap.size w (w.alloc (.cells #[.slice none 0 0] 26)) := (Below.refl _ _).alloc (Nat.le_refl _) _
  have h0 := alloc_new w (.cells #[.slice none 0 0] 26)
  have HV := toHid (hv _ w.heap.size (Nat.le_refl _) ⟨h0, World.ownsRow_nil _ _ _ _, by simp [Value.ownBlock], fun x hx => by cases hx⟩ b0)
  have HB0 := toHid b0
  have HTB := toHid hT
  clear hv b0 h0 hT
  go_enter Tryd.func32, Tryd.ntmps32
  go_wp2_with (go_at_call 41; refine HV.out.mono ?_)
  rintro e w1 ⟨rfl, M, v1, hgood, hinv, hst⟩
  have HG := toHid hgood
  have HI := toHid hinv
  have HB1 : Hid (Below w.heap.size w w1) := HB0.out.trans (hst.toBelow (Nat.le_refl _) (fun g hg => by cases hg) (by simp))
  have y0 := cell_of hinv.box 0
  simp at y0
  have hbo := blkB_lt hinv.box
  have HS := toHid (sortC_any w1 w.heap.size v1 M hinv.row (Nat.le_trans hgood.len (by decide)) fun x hx => ⟨LieA.kept (Nat.le_refl _) (fun i hi _ => ⟨hi.2, rfl⟩) _ _ _ (hinv.rows x hx), (hgood.ok x hx).2⟩)
  clear hgood hinv hst HV HB0
  go_wp2_with (go_at_call 47; refine HS.out.mono ?_)
  rintro e w2 ⟨rfl, M2, hperm, hsort, hrow2, hgrow⟩
  have y2 : w2.cell? ⟨w.heap.size, 0, none⟩ = some v1 := (World.cell?_of_block (hgrow.block w.heap.size hbo fun e => HI.out.nbo e.symm)).trans y0
  have hbo2 : w.heap.size < w2.heap.size := Nat.lt_of_lt_of_le hbo hgrow.size
  have HB2 : Hid (Below w.heap.size w w2) := ⟨hgrow.os.trans HB1.out.os, hgrow.tape.trans HB1.out.tape, hgrow.output.trans HB1.out.output, Nat.le_trans HB1.out.size hgrow.size, fun k hk => (hgrow.block k (Nat.lt_of_lt_of_le hk HB1.out.size) fun e => by have := (rowLt HI.out.row e.symm).1; omega).trans (HB1.out.block k hk)⟩
  have HOK : Hid (∀ x ∈ M2, (LiesS w2 x.L x.a x.l ∧ InL x.L) ∧ wtL x.L ≤ 1099511627776) := fun x hx => by
    have hm := hperm.mem_iff.1 hx
    exact ⟨⟨LieA.lies _ _ _ (LieA.kept hgrow.size (A' := fun _ => True) (fun i hi hl => ⟨trivial, hgrow.block i hl fun e => hi.2 e.symm⟩) _ _ _ (HI.out.rows x hm)), (HG.out.ok x hm).1⟩, (HG.out.ok x hm).2⟩
  have hlen2 : M2.length = M.length := hperm.length_eq
  obtain ⟨va, vn, vc, rfl⟩ : ∃ va vn vc, v1 = .slice va vn vc := by
    rcases hrow2.2 with ⟨h0, _⟩ | ⟨g', cap', cur, h0, _⟩
    · exact ⟨_, _, _, h0⟩
    · exact ⟨_, _, _, h0⟩
  have hTG := together_any del_ok M2 va vn vc w2 (ctsOwn (by rw [hlen2]; exact hrow2) (by rw [hlen2]; exact Nat.le_trans HG.out.len (by decide))) (fun x hx => ⟨(HOK.out x hx).1.1, (HOK.out x hx).2⟩) (by rw [absS_perm hperm]; exact HG.out.abs)
  have HBAG := toHid (tal_bag HG.out hperm hsort)
  have hF := tal_ok (P := fun x => (LiesS w2 x.L x.a x.l ∧ InL x.L) ∧ wtL x.L ≤ 1099511627776) (fun p n h => h) HOK.out
  have hFL : ((tgCs M2).filter fun c => !(c.n == 0)).length ≤ 900000 := by
    have h1 := tgCs_len M2 M2.length
    rw [List.take_length] at h1
    exact Nat.le_trans (List.length_filter_le _ _) (Nat.le_trans h1 (by rw [hlen2]; exact HG.out.len))
  generalize (tgCs M2).filter (fun c => !(c.n == 0)) = F at hTG HBAG hF hFL
  have HTG := toHid hTG
  have HF := toHid hF
  clear hTG hF hperm hsort hrow2 hgrow y0 hbo hlen2 HS HI HG HB1 HOK
  go_wp2_with (go_at_call 49; refine HTG.out.mono ?_)
  rintro e w3 ⟨v3, rfl, hrow3, k3⟩
  have HB3 := toHid (HB2.out.trans (k3.mono HB2.out.size))
  obtain ⟨va3, vn3, vc3, rfl⟩ : ∃ va vn vc, v3 = .slice va vn vc := by
    rcases hrow3.2 with ⟨h0, _⟩ | ⟨g', cap', cur, h0, _⟩
    · exact ⟨_, _, _, h0⟩
    · exact ⟨_, _, _, h0⟩
  have hF3 : ∀ x ∈ F, LiesS w3 x.L x.a x.l ∧ InL x.L ∧ wtL x.L ≤ 1099511627776 := fun x hx => ⟨LiesS.below k3 _ _ _ (HF.out x hx).1.1, (HF.out x hx).1.2, (HF.out x hx).2⟩
  obtain ⟨O, hO1, hO2, hO3⟩ := told_all B w3 (Nat.le_trans hB HB3.out.size) (HTB.out.below (HB3.out.mono hB)) F hF3
  have hat := ctsOwn hrow3 (Nat.le_trans hFL (by decide))
  have HC := toHid (check_bag O va3 vn3 vc3 w3 w3 ⟨by rw [hO1]; exact hat, hO2⟩ (Below.refl _ _))
  have HAT := toHid hat
  have HF3 := toHid hF3
  have HO1 := toHid hO1
  have HO3 : Hid (∀ x e, (x, e) ∈ O → RowTold x.L e ∧ wtL x.L ≤ 1099511627776) := fun x e hx => ⟨hO3 x e hx, (hF3 x (by rw [← hO1]; exact List.mem_map.2 ⟨_, hx, rfl⟩)).2.2⟩
  have HBG : Hid (IsBag (O.map fun y => y.1.cn) ∧ ∀ r, cnt (O.map fun y => y.1.cn) r = cnt Ls r) := by
    have e1 : (O.map fun y => y.1.cn) = F.map Ct.cn := by rw [← hO1, List.map_map]; rfl
    show _ ∧ _
    rw [e1]
    exact HBAG.out
  generalize hz0 : bagE O = z at HC
  have HZ0 := toHid hz0
  clear hrow3 k3 hF3 hO1 hO2 hO3 hat hz0 y2 hbo2 HTG HB2 HBAG HF
  go_wp2_with (go_at_call 18; refine HC.out.mono ?_)
  rintro e w4 ⟨rfl, k4⟩
  have HB4 := toHid (HB3.out.trans (k4.mono HB3.out.size))
  by_cases hz : z = 0
  · have hz' : (z != 0) = false := by simp [hz]
    have HE := toHid (freshBag_any F va3 vn3 vc3 w4 (HAT.out.below k4) fun x hx => ⟨LiesS.below k4 _ _ _ (HF3.out x hx).1, (HF3.out x hx).2.2⟩)
    have HZ := toHid hz
    clear hz k4 HC
    go_wp2_with (go_at_call 21; refine HE.out.mono ?_)
    rintro e w5 ⟨⟨v5, rfl, hv5⟩, k5⟩
    have HB5 := toHid (HB4.out.trans (k5.mono HB4.out.size))
    have HV5 : Hid (CtsNew w.heap.size w5 (O.map (·.1)) v5) := by
      rw [HO1.out]
      obtain ⟨P, p1, p2⟩ := hv5
      refine ⟨P, ⟨p1.1, p1.2.elim .inl fun ⟨g, cap, cur, e1, e2, e3⟩ => .inr ⟨g, cap, cur, e1, Nat.le_trans HB4.out.size e2, e3⟩⟩, p2.mono fun p x _ _ h => h.kept ⟨Nat.le_refl _, fun i hi _ => ⟨⟨Nat.le_trans HB4.out.size hi.1, hi.2⟩, rfl⟩⟩⟩
    clear hv5 k5
    go_wp2_with fail
    refine bodyPost_ret (v := .tuple #[v5, .int .i64 0]) (by simp [results, Tryd.results32, go_sem]) rfl ?_
    exact ⟨⟨O, HBG.out.1, HBG.out.2, HO3.out, .inr ⟨HZ0.out.trans HZ.out, v5, rfl, HV5.out⟩⟩, HB5.out⟩
  · have hz' : (z != 0) = true := by simp [hz]
    have HZ := toHid hz
    clear hz k4 HC
    go_wp2_with fail
    refine bodyPost_ret (v := .tuple #[.slice none 0 0, .int .i64 z]) (by simp [results, Tryd.results32, go_sem]) rfl ?_
    exact ⟨⟨O, HBG.out.1, HBG.out.2, HO3.out, .inl ⟨by rw [HZ0.out]; exact HZ.out, by rw [HZ0.out]⟩⟩, HB4.out⟩

set_option linter.unusedSimpArgs false

/-- These counts are those of these bags. -/
def MOk (XS : List (List Cn)) (M : List Ct) : Prop := M.map Ct.cn = XS.flatten ∧ ∀ x ∈ M, InL x.L ∧ wtL x.L ≤ 1099511627776 ∧ SmallN x

theorem sumL_flat : ∀ XS : List (List Cn), XS.flatten.length = sumL XS
  | [] => rfl
  | X :: XS => by rw [List.flatten_cons, List.length_append, sumL_flat XS]; rfl

theorem MOk.len {XS : List (List Cn)} {M : List Ct} (h : MOk XS M) : M.length = sumL XS := by
  rw [← sumL_flat, ← h.1, List.length_map]

theorem MOk.snoc {XS : List (List Cn)} {M F : List Ct} {X : List Cn} (h : MOk XS M) (hF : F.map Ct.cn = X) (hok : ∀ x ∈ F, InL x.L ∧ wtL x.L ≤ 1099511627776 ∧ SmallN x) : MOk (XS ++ [X]) (M ++ F) := by
  refine ⟨by rw [List.map_append, h.1, hF, List.flatten_append, List.flatten_cons, List.flatten_nil, List.append_nil], fun x hx => ?_⟩
  rcases List.mem_append.1 hx with hx | hx
  · exact h.2 x hx
  · exact hok x hx

theorem sumL_take (XS : List (List Cn)) (i : Nat) : sumL (XS.take i) ≤ sumL XS := by
  have h := sumL_append (XS.take i) (XS.drop i)
  rw [List.take_append_drop] at h
  omega

set_option maxHeartbeats 8000000 in
set_option maxRecDepth 100000 in
theorem due1_any (T0 bo bu : Nat) (v0 : Int) (XS : List (List Cn)) (a : Option Addr) (l c : Nat) (f : Bool) (t : Int) (w0 w : World) (hw0 : w0.heap.size ≤ T0) (k0 : Below w0.heap.size w0 w) (hT : T0 ≤ w.heap.size) (hbu : bu < T0) (hbo : T0 ≤ bo) (hux : w.heap[bu]? = some (gObj v0 a l c f t)) (hQ : GQ w0 XS a l) (hs : sumL XS ≤ 900000) (h : TInv T0 bo [] w (.slice none 0 0)) :
    Calls Tryd.prog 41 #[.func (.func 46) #[] #[.pointer (some ⟨bo, 0, none⟩)], .pointer (some ⟨bu, 0, none⟩)] w fun e w' => e = .returned (.tuple #[]) ∧ ∃ M v', MOk XS M ∧ TInv T0 bo M w' v' ∧ TStep bo (.slice none 0 0) v' w w' := by
  obtain ⟨Q, hQX, hQI, hQz⟩ := hQ
  have HQ := toHid hQI.at'
  have HQR : Hid (∀ q ∈ Q, RB w0 q.X q.a q.l) := fun q hq => (hQI.bags q hq).right (hQz q hq)
  have hmx : l ≤ 2000000 := hQI.at'.2.1
  have H := toHid h
  have HK0 := toHid k0
  have HQX := toHid hQX
  have HL0 := toHid hQI.at'.1
  have HSM := toHid hs
  have y1 := cell_of hux 1
  simp at y1
  have hbl := blkB_lt hux
  clear hQX hQI hQz hs h k0 hux
  go_enter Tryd.func41, Tryd.ntmps41
  go_wp2_with fail
  go_loopg [10] l (fun g s10 wr => ∃ (i : Nat) (v : Value) (M : List Ct), i ≤ l ∧ l - i ≤ g ∧ s10 = .int .i64 i ∧ MOk (XS.take i) M ∧ TInv T0 bo M wr v ∧ TStep bo (.slice none 0 0) v w wr)
  case atStart => exact ⟨0, _, [], Nat.zero_le _, by omega, rfl, ⟨rfl, fun x hx => (by cases hx)⟩, H.out, TStep.refl _ _ _⟩
  case round =>
    clear y1
    obtain ⟨i, v, M, hi, hg, rfl, hM, hinv, hst⟩ := hrel
    have HI := toHid hinv
    have HS := toHid hst
    have HM := toHid hM
    clear hinv hst hM
    by_cases hlt : i < l
    · have hil : (i : Int) < l := by omega
      obtain ⟨q, hq, _⟩ := drop_get (L := Q) (i := i) (by have := HL0.out; omega)
      obtain ⟨b, off, rfl, hb, hc⟩ := HQ.out.2.2 (by omega)
      have c0 := hc i q hq
      have hbel : Below T0 w wr := HS.out.toBelow hbo (fun g hg => by cases hg) hT
      have d0 := (hbel.cell (p := ⟨b, off + i, none⟩) (by show b < T0; omega)).trans ((HK0.out.cell (p := ⟨b, off + i, none⟩) hb).trans c0)
      have hblr : b < wr.heap.size := by have := HS.out.size; have := HK0.out.size; omega
      obtain ⟨F, hF, hat, hlx, hok⟩ := (HQR.out q (List.mem_of_getElem? hq)).cts
      have hXi : XS[i]? = some q.X := by rw [← HQX.out, List.getElem?_map, hq]; rfl
      have hl2 : q.l ≤ 2000 := by rw [hlx]; exact (HQR.out q (List.mem_of_getElem? hq)).1.len
      have HTK : Hid (XS.take (i + 1) = XS.take i ++ [q.X]) := by
        show _ = _
        rw [List.take_add_one, hXi]
        rfl
      have HSI : Hid (M.length + q.l ≤ 900000) := by
        have h1 := sumL_take XS (i + 1)
        have h2 := HSM.out
        rw [HTK.out, sumL_append, ← HM.out.len] at h1
        have h3 : sumL [q.X] = q.X.length := by simp [sumL]
        rw [h3, ← hlx] at h1
        show _ ≤ _
        omega
      have HF := toHid hF
      have HAT := toHid hat
      have HOK := toHid hok
      have HLF := toHid hat.1
      obtain ⟨wq, hwq⟩ : ∃ wq, wq = wr := ⟨_, rfl⟩
      rw [← hwq] at d0 hblr ⊢
      have HS0 : Hid (TStep bo (.slice none 0 0) v w wq) := by rw [hwq]; exact HS.out
      have HI0 : Hid (TInv T0 bo (M ++ F.take 0) wq v) := by
        rw [hwq, List.take_zero, List.append_nil]
        exact HI.out
      obtain ⟨qa, ql, qc, qz, qX⟩ := q
      clear c0 hc hq hbel hF hat hok hwq HI HS hXi hlx
      go_wp2_with fail
      go_loopg [16] ql (fun g s16 wr => ∃ (j : Nat) (v : Value), j ≤ ql ∧ ql - j ≤ g ∧ s16 = .int .i64 j ∧ TInv T0 bo (M ++ F.take j) wr v ∧ TStep bo (.slice none 0 0) v w wr)
      case atStart => exact ⟨0, _, Nat.zero_le _, by omega, rfl, HI0.out, HS0.out⟩
      case round =>
        clear d0 HI0 HS0 hblr
        obtain ⟨j, v2, hj, hg2, rfl, hinv, hst⟩ := hrel
        have HI := toHid hinv
        have HS := toHid hst
        clear hinv hst
        by_cases hlj : j < ql
        · have hjl : (j : Int) < ql := by omega
          obtain ⟨x, hx, _⟩ := drop_get (L := F) (i := j) (by have := HLF.out; omega)
          obtain ⟨b2, off2, ea, hb2, hc2⟩ := HAT.out.2.2 (by show 0 < ql; omega)
          have ea : qa = some ⟨b2, off2, none⟩ := ea
          subst ea
          obtain ⟨c0, c1⟩ := hc2 j x hx
          have hbel : Below T0 w wr := HS.out.toBelow hbo (fun g hg => by cases hg) hT
          have d0 := (hbel.cell (p := ⟨b2, off2 + j * 2, none⟩) (by show b2 < T0; omega)).trans ((HK0.out.cell (p := ⟨b2, off2 + j * 2, none⟩) hb2).trans c0)
          have d1 := (hbel.cell (p := ⟨b2, off2 + j * 2 + 1, none⟩) (by show b2 < T0; omega)).trans ((HK0.out.cell (p := ⟨b2, off2 + j * 2 + 1, none⟩) hb2).trans c1)
          have HA : Hid (Below wr.heap.size wr (wr.alloc (cObj x))) := (Below.refl _ _).alloc (Nat.le_refl _) _
          have HN := toHid (alloc_new wr (cObj x))
          have HLx := toHid (HOK.out x (List.mem_of_getElem? hx))
          have HTJ : Hid (M ++ F.take (j + 1) = (M ++ F.take j) ++ [x]) := by
            show _ = _
            rw [List.take_add_one, hx, List.append_assoc]
            rfl
          have hblr : b2 < wr.heap.size := by have := HS.out.size; have := HK0.out.size; omega
          clear c0 c1 hc2 hx hbel
          go_upto_region 6 with fail
          have HI1 := toHid (HI.out.below HA.out)
          have HS1 := toHid (HS.out.trans (TStep.below (bo := bo) (v := v2) HA.out))
          generalize wr.alloc (cObj x) = W1 at HA HN HI1 HS1 ⊢
          generalize wr.heap.size = bx at HN ⊢
          have x0 := cell_of HN.out 0
          have x1 := cell_of HN.out 1
          simp at x0 x1
          have hbx := blkB_lt HN.out
          clear d0 d1 hblr HA HI HS
          have HC := toHid (tally1_any T0 bo (M ++ F.take j) x W1 v2 (Nat.le_trans hT HS1.out.size) HI1.out (by rw [List.length_append, List.length_take]; have := HSI.out; omega) (lie_ahead hw0 HK0.out hT hbo HI1.out HS1.out HLx.out.1))
          go_wp2_with fail
          refine HC.out.mono ?_
          rintro e w1 ⟨rfl, v1, hi1, hs1⟩
          have HI2 := toHid hi1
          have HS2 := toHid (HS1.out.trans hs1)
          clear hi1 hs1 x0 x1
          go_wp2_with fail
          go_roundg (ql - (j + 1))
          case measure => omega
          case rel =>
            refine ⟨j + 1, v1, by omega, Nat.le_refl _, by go_num, ?_, HS2.out⟩
            rw [HTJ.out]
            exact HI2.out
        · have he : j = ql := by omega
          subst he
          have HI3 : Hid (TInv T0 bo (M ++ F) wr v2) := by
            have h1 := HI.out
            rw [List.take_of_length_le (by have := HLF.out; omega)] at h1
            exact h1
          have HM3 : Hid (MOk (XS.take (i + 1)) (M ++ F)) := by
            show MOk _ _
            rw [HTK.out]
            exact HM.out.snoc HF.out fun x hx => ⟨(HOK.out x hx).2.2.2.1.2.2, by have := (HOK.out x hx).2.2.2.2.2; omega, (HOK.out x hx).2.2.2.2.1⟩
          clear HI
          go_wp2_with fail
          go_roundg (l - (i + 1))
          case measure => omega
          case rel => exact ⟨i + 1, v2, M ++ F, by omega, Nat.le_refl _, by go_num, HM3.out, HI3.out, HS.out⟩
    · have he : i = l := by omega
      subst he
      have HMM : Hid (MOk XS M) := by
        have h1 := HM.out
        rw [List.take_of_length_le (by rw [← HQX.out, List.length_map]; have := HL0.out; omega)] at h1
        exact h1
      go_wp2_with fail
      go_end0
      exact ⟨rfl, M, v, HMM.out, HI.out, HS.out⟩

set_option linter.unusedSimpArgs false

/-- What is told of rows, each so often. -/
def cntX : Option (List T) → List Cn → Int
  | _, [] => 0
  | p, c :: r => if rowTE c.1 ≠ 0 then rowTE c.1 else if (c.2 == 0 || (match p with | none => false | some q => decide (0 ≤ ordL q c.1))) = true then 6 else if 1099511627776 < c.2 ∨ c.2 < -1099511627776 then 9 else cntX (some c.1) r

/-- What is told of a bag. -/
def bagX (X : List Cn) : Int := if 2000 < X.length then 2 else cntX none X

theorem cntE_is : ∀ (O : List (Ct × Int)) (p : Option Ct), (∀ x e, (x, e) ∈ O → RowTold x.L e) → cntE p O = cntX (p.map Ct.L) (O.map fun y => y.1.cn)
  | [], _, _ => rfl
  | (x, e) :: O, p, h => by
    have he : e = rowTE x.L := (h x e (List.mem_cons_self ..)).is
    have ih := cntE_is O (some x) fun y f hy => h y f (List.mem_cons_of_mem _ hy)
    show (if e ≠ 0 then e else if badC p x = true then 6 else if 1099511627776 < x.n ∨ x.n < -1099511627776 then 9 else cntE (some x) O) = _
    rw [ih, he]
    cases p <;> rfl

theorem bagE_is {O : List (Ct × Int)} (h : ∀ x e, (x, e) ∈ O → RowTold x.L e) : bagE O = bagX (O.map fun y => y.1.cn) := by
  unfold bagE bagX
  rw [List.length_map, cntE_is O none h]
  rfl

/-- What tally answers, errors too. -/
theorem tal_endX {B B1 : Nat} {w' : World} (hB : B ≤ w'.heap.size) (hT : Tabs B w') {Ls : List Cn} {e : Ending} (h : TalEnd B1 w' Ls e) :
    ∃ X, IsBag X ∧ (∀ r, cnt X r = cnt Ls r) ∧ ((bagX X = 0 ∧ ∃ a l c, e = .returned (.tuple #[.slice a l c, .int .i64 0]) ∧ RB w' X a l) ∨ (bagX X ≠ 0 ∧ e = .returned (.tuple #[.slice none 0 0, .int .i64 (bagX X)]))) := by
  obtain ⟨X, x1, x2, x3⟩ := tal_end hB hT h
  obtain ⟨O, h1, h2, h3, h4⟩ := h
  have hX : X = O.map fun y => y.1.cn := bag_ext _ _ x1 h1 fun r => by rw [x2, h2]
  have hE := bagE_is fun x e hx => (h3 x e hx).1
  have hi := fit_iff fun x e hx => (h3 x e hx).1
  rw [← hX] at hE hi
  refine ⟨X, x1, x2, ?_⟩
  rcases x3 with ⟨hf, x3⟩ | ⟨hn, z, hz, rfl⟩
  · exact .inl ⟨by rw [← hE]; exact hi.2 hf, x3⟩
  · refine .inr ⟨fun h0 => hn (hi.1 (hE.trans h0)), ?_⟩
    rcases h4 with ⟨_, h4⟩ | ⟨h0, _⟩
    · rw [h4, hE]
    · exact absurd (hi.1 h0) hn

/-- What is handed back is the bag of these, or its error. -/
def Told (w' : World) (f : List T → Int) (sa : Option Addr) (sl : Nat) (ze : Int) : Prop := ∃ Z, IsBag Z ∧ (∀ r, cnt Z r = f r) ∧ ((bagX Z = 0 ∧ ze = 0 ∧ RB w' Z sa sl) ∨ (bagX Z ≠ 0 ∧ ze = bagX Z ∧ sl = 0))

theorem Told.below {w w' : World} (k : Below w.heap.size w w') {f : List T → Int} {sa : Option Addr} {sl : Nat} {ze : Int} (h : Told w f sa sl ze) : Told w' f sa sl ze := by
  obtain ⟨Z, z1, z2, z3⟩ := h
  exact ⟨Z, z1, z2, z3.imp (fun g => ⟨g.1, g.2.1, g.2.2.below k⟩) id⟩

theorem tal_told {B B1 : Nat} {w' : World} (hB : B ≤ w'.heap.size) (hT : Tabs B w') {Ls : List Cn} {e : Ending} (h : TalEnd B1 w' Ls e) : ∃ sa sl sc ze, e = .returned (.tuple #[.slice sa sl sc, .int .i64 ze]) ∧ Told w' (cnt Ls) sa sl ze := by
  obtain ⟨Z, z1, z2, z3⟩ := tal_endX hB hT h
  rcases z3 with ⟨h0, a1, l1, c1, rfl, hr⟩ | ⟨h0, rfl⟩
  · exact ⟨a1, l1, c1, 0, rfl, Z, z1, z2, .inl ⟨h0, rfl, hr⟩⟩
  · exact ⟨none, 0, 0, _, rfl, Z, z1, z2, .inr ⟨h0, rfl, rfl⟩⟩
end Go.Proofs.YtmjeanpjiogkiaaDoor
