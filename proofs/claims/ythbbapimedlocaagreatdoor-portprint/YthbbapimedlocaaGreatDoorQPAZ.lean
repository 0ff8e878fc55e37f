/-
  What is proved here: what the texts PtGraph prove, in one text.
-/
import Derived.Test.YthbbapimedlocaaGreatDoorQPAY
import Derived.Test.YthbbapimedlocaaGreatDoorQPAR
namespace Go.Proofs.YthbbapimedlocaaGreatDoor
open Go.RowKit
set_option linter.unusedVariables false

set_option linter.unusedSimpArgs false

set_option maxHeartbeats 16000000 in
set_option maxRecDepth 100000 in
theorem writerGraph_any (B0 : Nat) (N : List AN) (E : List AE) (na : Option Addr) (nl nc : Nat) (ea : Option Addr) (el ec : Nat) (nx : Int) (b : Nat) (w0 w : World) (hN : NsAt w0 N na nl) (hE : EsAt w0 E ea el) (h40 : nl ≤ 40) (h60 : el ≤ 60) (hnx : I64 nx) (oN : ∀ x ∈ N, OkN x) (oE : ∀ x ∈ E, OkE x) (hB0 : B0 ≤ w0.heap.size) (hT : Tabs B0 w0) (hP : Pow10 B0 w0) (hW : Below w0.heap.size w0 w) (hA : WrAt w0.heap.size b [] false w) :
    Calls Tryz.prog 13 #[.pointer (some ⟨b, 0, none⟩), .agg #[.slice na nl nc, .slice ea el ec, .int .i64 nx]] w fun e w' => (∃ v, e = .returned v) ∧ WrAt w0.heap.size b (outG nx N E) (!fitG N E) w' ∧ WKeep w0.heap.size b w w' := by
  obtain ⟨i0, hif, hz0, hz1, hz2⟩ := info_strC
  obtain ⟨QN, hQN, pN⟩ := hN
  obtain ⟨QE, hQE, pE⟩ := hE
  have HNL : Hid (nl = N.length) := hQN.1.trans pN.1
  have HEL : Hid (el = E.length) := hQE.1.trans pE.1
  have HQN := toHid hQN
  have HQE := toHid hQE
  have HPN := toHid pN
  have HPE := toHid pE
  have HON := toHid oN
  have HOE := toHid oE
  have HW := toHid hW
  have hBb := hA.base
  have hbl0 := hA.lt
  have HIT : Hid (∀ (W : World) (n : Int), Below w0.heap.size w0 W → I64 n → Calls Tryz.prog 23 #[.int .i64 n] W fun e w' => e = .returned (.string ⟨(Lib.itoa n).toArray⟩) ∧ Below W.heap.size W w') := fun W n k hn => itoa_any B0 n W (Nat.le_trans hB0 k.size) hn.1 hn.2 (hP.below (k.mono hB0))
  have HLINE : Hid (∀ (X : List AP) (pa : Option Addr) (pl pc : Nat) (Wd : List ByteArray) (n g c : Nat) (l : List UInt8) (lg : Bool) (W : World), Wd.length = n → PsAt w0 X pa pl → OkP X → Below w0.heap.size w0 W → (∀ (j : Nat) x, Wd[j]? = some x → W.cell? ⟨g, j, none⟩ = some (.string x)) → g < W.heap.size → n ≤ c → n ≤ 6 → (∀ x ∈ Wd, x.size ≤ 21) → WrAt w0.heap.size b l lg W → l.length ≤ 1000000000 →
      Calls Tryz.prog 31 #[.pointer (some ⟨b, 0, none⟩), .slice pa pl pc, .slice (some ⟨g, 0, none⟩) n c] W fun e w' => (∃ v, e = .returned v) ∧ WrAt w0.heap.size b (l ++ lineW (Wd.map bS) X) (lg || !fitP X) w' ∧ WKeep w0.heap.size b W w') := fun X pa pl pc Wd n g c l lg W hn hX oX k hws hg hwc h6 h21 hA hl => by
    subst hn
    have hpl : pl ≤ 6 := by
      obtain ⟨Q, q1, q2⟩ := hX
      rw [q1.1, q2.1]
      exact oX.1
    have hj := join_len (ws := Wd.map bS) (by simpa using h6) (fun x hx => by
      obtain ⟨y, hy, rfl⟩ := List.mem_map.1 hx
      rw [bS_size]
      exact h21 y hy)
    exact line_any B0 X pa pl pc Wd g c b l lg w0 W hX hpl oX.2.1 oX.2.2 hB0 hT hP k hws hg hwc (by omega) h6 hA hl
  have HLN : Hid (∀ i, i ≤ nl → (outsN (N.take i)).length ≤ 40 * LW) := fun i hi => by
    have := flat_len (f := outN) (k := LW) (L := N.take i) fun x hx => outN_len (oN x (List.mem_of_mem_take hx))
    exact Nat.le_trans this (Nat.mul_le_mul_right _ (by rw [List.length_take]; omega))
  have HLE : Hid (∀ i, i ≤ el → (outsE (E.take i)).length ≤ 60 * LW) := fun i hi => by
    have := flat_len (f := outE) (k := LW) (L := E.take i) fun x hx => outE_len (oE x (List.mem_of_mem_take hx))
    exact Nat.le_trans this (Nat.mul_le_mul_right _ (by rw [List.length_take]; omega))
  have hhl := head_len hnx
  have b0 : Below w.heap.size w (w.alloc (.cells #[.slice na nl nc, .slice ea el ec, .int .i64 nx] 25)) := (Below.refl _ _).alloc (Nat.le_refl _) _
  have HG := toHid (alloc_new w (.cells #[.slice na nl nc, .slice ea el ec, .int .i64 nx] 25))
  have HA := toHid (hA.below b0)
  have HK := toHid (WKeep.of_below (b := b) b0 hW.size)
  have HB := toHid (hW.trans (b0.mono hW.size))
  clear hQN hQE pN pE oN oE hP hT hW hA b0
  go_enter Tryz.func13, Tryz.ntmps13
  go_upto_region 1 with fail
  generalize w.alloc (.cells #[.slice na nl nc, .slice ea el ec, .int .i64 nx] 25) = W at HG HA HK HB ⊢
  have hgb : w.heap.size ≠ b := by omega
  generalize w.heap.size = gb at HG hgb ⊢
  have x2 := cell_of HG.out 2
  simp at x2
  have hbl := lt_blkX HG.out
  obtain ⟨I0, hI0⟩ : ∃ I0 : ByteArray, I0 = ⟨(Lib.itoa nx).toArray⟩ := ⟨_, rfl⟩
  have hIb : bS I0 = Lib.itoa nx := by rw [hI0]; exact bS_of _
  have hIs : I0.size ≤ 21 := by rw [← bS_size, hIb]; exact itoa_len hnx
  have HC0 := toHid (HIT.out W nx HB.out hnx)
  rw [← hI0] at HC0
  have HIB := toHid hIb
  clear hI0 hIb
  go_wp2_with fail
  refine HC0.out.mono ?_
  rintro e w1 ⟨rfl, k1⟩
  have k1' : Below W.heap.size W (w1.alloc (.cells #[.string ⟨#[110, 101, 120, 116]⟩, .string I0] 9)) := k1.alloc k1.size _
  have HG1 := toHid ((k1'.block _ hbl).trans HG.out)
  have HC1 := toHid (HLINE.out [] none 0 0 [⟨#[110, 101, 120, 116]⟩, I0] 2 w1.heap.size 2 [] false (w1.alloc (.cells #[.string ⟨#[110, 101, 120, 116]⟩, .string I0] 9)) rfl ⟨[], ⟨rfl, Nat.zero_le _, fun h => absurd h (by decide)⟩, Pair2.nil⟩ ⟨by simp, fun _ h => absurd h List.not_mem_nil, fun _ h => absurd h List.not_mem_nil⟩ (HB.out.trans (k1'.mono HB.out.size)) (fun j x hx => by
      have hn := alloc_new w1 (.cells #[.string ⟨#[110, 101, 120, 116]⟩, .string I0] 9)
      match j, hx with
      | 0, hx => simp at hx; subst hx; exact cell_of hn 0
      | 1, hx => simp at hx; subst hx; exact cell_of hn 1
      | j + 2, hx => simp at hx) (by simp) (Nat.le_refl _) (by simp) (fun x hx => by
      simp only [List.mem_cons, List.not_mem_nil, or_false] at hx
      rcases hx with rfl | rfl
      · show (4 : Nat) ≤ 21; omega
      · exact hIs) (HA.out.below k1') (by simp))
  have HK1 := toHid (HK.out.trans (WKeep.of_below k1' HB.out.size))
  have HB1 := toHid (HB.out.trans (k1'.mono HB.out.size))
  clear k1 k1' HC0 HG HA HK x2 hbl
  have HHD : Hid (lineW (([⟨#[110, 101, 120, 116]⟩, I0] : List ByteArray).map bS) [] = headW nx) := by
    show _ = _
    simp only [List.map_cons, List.map_nil]
    rw [HIB.out]
    rfl
  rw [HHD.out, List.nil_append] at HC1
  go_wp2_with fail
  refine HC1.out.mono ?_
  rintro e w2 ⟨⟨v0, rfl⟩, hA2, hK2⟩
  obtain ⟨hd, hhd⟩ : ∃ hd, hd = headW nx := ⟨_, rfl⟩
  rw [← hhd] at hA2 hhl
  have HHD2 := toHid hhd
  have HA2 : Hid (WrAt w0.heap.size b (hd ++ outsN (N.take 0)) (!((N.take 0).all fun x => fitP x.props)) w2) := by
    show WrAt _ _ _ _ _
    simpa [outsN, fitP] using hA2
  have HK2 := toHid (HK1.out.trans hK2)
  have HG2 := toHid (hK2.block HG1.out hgb (by decide))
  have HB2 := toHid (HB1.out.trans hK2.low)
  clear hA2 hK2 HC1 HK1 HG1 HB1 HHD hhd HIB hIs
  have x0 := cell_of HG2.out 0
  simp at x0
  have hbl := lt_blkX HG2.out
  go_wp2_with fail
  clear x0 hbl
  go_loopg [20] nl (fun g s20 wr => ∃ i : Nat, i ≤ nl ∧ nl - i ≤ g ∧ s20 = .int .i64 i ∧ WrAt w0.heap.size b (hd ++ outsN (N.take i)) (!((N.take i).all fun x => fitP x.props)) wr ∧ WKeep w0.heap.size b w2 wr)
  case atStart => exact ⟨0, Nat.zero_le _, by omega, rfl, HA2.out, WKeep.refl _ _ _⟩
  case round =>
    clear HA2
    obtain ⟨i, hi, hg, rfl, hai, hki⟩ := hrel
    have HAI := toHid hai
    have HKI := toHid hki
    clear hai hki
    have HW2 := toHid (HB2.out.trans HKI.out.low)
    have hzr : w0.heap.size ≤ wr.heap.size := HW2.out.size
    have hoi := HLN.out i hi
    have hll : (hd ++ outsN (N.take i)).length ≤ 30 + 40 * LW := by rw [List.length_append]; omega
    by_cases hlt : i < nl
    · have hil : (i : Int) < nl := by omega
      obtain ⟨-, -, hat⟩ := HQN.out.below HW2.out
      obtain ⟨bb, off, ha, hb, hc⟩ := hat (by omega)
      subst ha
      obtain ⟨y, hy, _⟩ := drop_get (L := QN) (i := i) (by have := HQN.out.1; omega)
      obtain ⟨yi, yL, ya, yl, yc, yP, yp, yq, yr⟩ := y
      obtain ⟨d0, d1, d2⟩ := hc i _ hy
      obtain ⟨x, hx, hyx⟩ := HPN.out.left hy
      have hox := HON.out x (List.mem_of_getElem? hx)
      obtain ⟨e1, e2, hst, hpa, hpp⟩ := hyx
      simp only at d0 d1 d2 e1 e2 hst hpa hpp
      have HPS : Hid (PsAt w0 x.props yp yq) := ⟨yP, hpa, hpp⟩
      have HST := toHid hst
      have HSN : Hid (outsN (N.take (i + 1)) = outsN (N.take i) ++ outN x) := flat_snoc hx
      have HFN : Hid (((N.take (i + 1)).all fun x => fitP x.props) = (((N.take i).all fun x => fitP x.props) && fitP x.props)) := all_snoc (f := fun x : AN => fitP x.props) hx
      have HOX := toHid hox
      have hid2 : I64 yi := by rw [e1]; exact hox.id
      have HE1 := toHid e1
      have HE2 := toHid e2
      have k2 : Below wr.heap.size wr (wr.alloc (.cells #[.int .i64 yi, .slice ya yl yc, .slice yp yq yr] 49)) := (Below.refl _ _).alloc (Nat.le_refl _) _
      have HX2 := toHid (alloc_new wr (.cells #[.int .i64 yi, .slice ya yl yc, .slice yp yq yr] 49))
      obtain ⟨I, hI⟩ : ∃ I : ByteArray, I = ⟨(Lib.itoa yi).toArray⟩ := ⟨_, rfl⟩
      have HIB : Hid (bS I = Lib.itoa x.id) := by rw [hI, bS_of, HE1.out]; exact toHid rfl
      have hIs : I.size ≤ 21 := by rw [hI, ← bS_size, bS_of]; exact itoa_len hid2
      have HC := toHid (HIT.out _ yi (HW2.out.trans (k2.mono hzr)) hid2)
      rw [← hI] at HC
      have HA3 := toHid (HAI.out.below k2)
      have HK3 := toHid (HKI.out.trans (WKeep.of_below k2 hzr))
      have HW3 := toHid (HW2.out.trans (k2.mono hzr))
      have hbw := HAI.out.lt
      clear hI hc hy hx hat hst hpa hpp hox e1 e2 k2 HAI HKI
      generalize ((N.take i).all fun x => fitP x.props) = fx at HA3 HFN
      generalize outsN (N.take i) = ON at HA3 HSN hll hoi
      go_upto_region 5 with fail
      generalize wr.alloc (.cells #[.int .i64 yi, .slice ya yl yc, .slice yp yq yr] 49) = W2 at HX2 HC HA3 HK3 HW3 ⊢
      have hbn : wr.heap.size ≠ b := by omega
      clear d0 d1 d2 HW2 hzr
      generalize wr.heap.size = bx at HX2 hbn hbw ⊢
      have y0 := cell_of HX2.out 0
      simp at y0
      have hbl := lt_blkX HX2.out
      go_wp2_with fail
      refine HC.out.mono ?_
      rintro e w3 ⟨rfl, k3⟩
      have kw : Below W2.heap.size W2 (w3.alloc (.cells #[.string ⟨#[110, 111, 100, 101]⟩, .string I] 9)) := k3.alloc k3.size _
      have HX3 := toHid ((kw.block _ hbl).trans HX2.out)
      have HW4 := toHid (HW3.out.trans (kw.mono HW3.out.size))
      have hown0 := own_built w3 (.string ⟨#[110, 111, 100, 101]⟩) (.string I) 9
      have hbx3 : bx < w3.heap.size := Nat.lt_of_lt_of_le hbl k3.size
      have hz3 : w0.heap.size ≤ w3.heap.size := Nat.le_trans HW3.out.size k3.size
      have ka : Below w3.heap.size w3 (w3.alloc (.cells #[.string ⟨#[110, 111, 100, 101]⟩, .string I] 9)) := (Below.refl _ _).alloc (Nat.le_refl _) _
      have HAK : Hid (∀ W', Below w3.heap.size (w3.alloc (.cells #[.string ⟨#[110, 111, 100, 101]⟩, .string I] 9)) W' → WrAt w0.heap.size b (hd ++ ON) (!fx) W' ∧ WKeep w0.heap.size b w2 W') := fun W' k =>
        ⟨(HA3.out.below k3).below (ka.trans k), (HK3.out.trans (WKeep.of_below k3 HW3.out.size)).trans (WKeep.of_below (ka.trans k) hz3)⟩
      have hsz3 : (w3.alloc (.cells #[.string ⟨#[110, 111, 100, 101]⟩, .string I] 9)).heap.size = w3.heap.size + 1 := by simp
      obtain ⟨YC, hYC⟩ : ∃ YC : List ByteArray, YC = yL.map fun s => ⟨#[58]⟩ ++ s := ⟨_, rfl⟩
      have HYC := toHid hYC
      clear hYC
      obtain ⟨WN, hWN⟩ : ∃ WN : List ByteArray, WN = [⟨#[110, 111, 100, 101]⟩, I] := ⟨_, rfl⟩
      have HO0 : Hid ((w3.alloc (.cells #[.string ⟨#[110, 111, 100, 101]⟩, .string I] 9)).ownsRow w3.heap.size 9 1 (.slice (some ⟨w3.heap.size, 0, none⟩) 2 2) (2 + 0) (strB (WN ++ YC.take 0))) := by
        rw [hWN]
        exact hown0
      have HWN := toHid hWN
      have hWNl : WN.length = 2 := by rw [hWN]; rfl
      clear k3 kw ka HC HX2 HA3 HK3 HW3 y0 hbl hown0 hWN
      go_upto_region 6 with fail
      generalize w3.alloc (.cells #[.string ⟨#[110, 111, 100, 101]⟩, .string I] 9) = W3 at HX3 HAK HW4 HO0 hsz3 ⊢
      generalize w3.heap.size = B3 at HO0 hbx3 hz3 hsz3 HAK ⊢
      have y1 := cell_of HX3.out 1
      simp at y1
      have hbl3 := lt_blkX HX3.out
      have hll2 := HST.out.2.1
      have HLL := toHid HST.out.1
      have hl4 : yl ≤ 4 := by rw [HLL.out, HE2.out]; exact HOX.out.labs
      have HLAB : Hid (∀ s ∈ yL, s.size ≤ 12) := by rw [HE2.out]; exact HOX.out.lab
      go_wp2_with fail
      clear y1 hbl3
      go_loopg [6, 31] yl (fun g s6 s31 wq => ∃ j : Nat, j ≤ yl ∧ yl - j ≤ g ∧ s31 = .int .i64 j ∧ wq.ownsRow B3 9 1 s6 (2 + j) (strB (WN ++ YC.take j)) ∧ Below B3 W3 wq)
      case atStart => exact ⟨0, Nat.zero_le _, by omega, rfl, HO0.out, Below.refl _ _⟩
      case round =>
        clear HO0
        obtain ⟨j, hj, hg2, rfl, hown, hkq⟩ := hrel
        have OW := toHid hown
        obtain ⟨gq, cq, rfl, hgq, hcq, hcells⟩ := own_cells hown (by omega)
        have HCELLS := toHid hcells
        have HKQ := toHid hkq
        clear hown hkq hcells
        have HWQ := toHid (HW4.out.trans (HKQ.out.mono hz3))
        have hzq : B3 < wr.heap.size := by have := HKQ.out.size; omega
        by_cases hlt2 : j < yl
        · have hjl : (j : Int) < yl := by omega
          obtain ⟨b5, off5, ha5, hb5, hc5⟩ := (HST.out.below HWQ.out).2.2 (by omega)
          obtain ⟨t, ht, hd5⟩ := drop_get (L := yL) (i := j) (by have := HLL.out; omega)
          obtain ⟨_, d5⟩ := hc5 j t ht
          have hts := HLAB.out t (List.mem_of_getElem? ht)
          have c1 : ¬ 9223372036854775807 < 1 + t.size := by omega
          have HTS : Hid (strB (WN ++ YC.take (j + 1)) = strB (WN ++ YC.take j) ++ [.string (⟨#[58]⟩ ++ t)]) := by
            show _ = _
            have hyt : YC[j]? = some (⟨#[58]⟩ ++ t) := by rw [HYC.out, List.getElem?_map, ht]; rfl
            rw [List.take_add_one, hyt]
            simp [strB]
          clear hc5 ht hd5 hts
          subst ha5
          go_wp2_with (at_builtin; refine wpList_append_own _ rfl _ _ 46 rfl B3 9 i0 (.string ⟨#[]⟩) 1 16 Tryz.underlying46 hif hz0 hz1 hz2 rfl (by decide) _ _ _ rfl (ownsRow_allocC OW.out _) ⟨wr.heap.size, 0, none⟩ 1 1 [.string (⟨#[58]⟩ ++ t)] rfl rfl (one_newC _ _ _) (fun x hx => by simp at hx; subst hx; rfl) (by unfold maxLen; omega) (by omega) (by simp; omega) ?_)
          intro v3 w5 hown3 hg3 _
          have hb3 : Below B3 wr w5 := ((Below.refl _ _).alloc (by omega) _).grown hg3 (by simp; omega) (fun k hk => row_blockC OW.out k hk)
          have HB5 := toHid (HKQ.out.trans hb3)
          rw [← HTS.out] at hown3
          have O5 := toHid hown3
          clear hown3 hg3 hb3 d5 c1
          go_wp2_with fail
          go_roundg (yl - (j + 1))
          case measure => omega
          case rel => exact ⟨j + 1, by omega, Nat.le_refl _, by go_num, O5.out, HB5.out⟩
        · have hjl : ¬ (j : Int) < yl := by omega
          have hjn : j = yl := by omega
          have HTK : Hid (YC.take j = x.labs.map fun s => ⟨#[58]⟩ ++ s) := by
            show _ = _
            rw [List.take_of_length_le (by rw [HYC.out, List.length_map]; have := HLL.out; omega), HYC.out, HE2.out]
          rw [HTK.out] at HCELLS
          have HXQ := toHid ((HKQ.out.block bx hbx3).trans HX3.out)
          have y2 := cell_of HXQ.out 2
          simp at y2
          have hblq := lt_blkX HXQ.out
          have HAQ : Hid (WrAt w0.heap.size b (hd ++ ON) (!fx) wr) := (HAK.out _ HKQ.out).1
          have hlab := HOX.out.labs
          have HC4 := toHid (HLINE.out x.props yp yq yr _ (2 + j) gq cq (hd ++ ON) (!fx) wr (by rw [List.length_append, hWNl, List.length_map, ← HE2.out]; have := HLL.out; omega) HPS.out HOX.out.props HWQ.out HCELLS.out hgq hcq (by omega) (fun z hz => by
            rw [HWN.out] at hz
            rcases List.mem_append.1 hz with h | h
            · simp only [List.mem_cons, List.not_mem_nil, or_false] at h
              rcases h with rfl | rfl
              · show (4 : Nat) ≤ 21; omega
              · exact hIs
            · obtain ⟨s, hs, rfl⟩ := List.mem_map.1 h
              have h1 := HOX.out.lab s hs
              have h2 : (⟨#[58]⟩ ++ s : ByteArray).size = 1 + s.size := by rw [← bS_size, bS_app, List.length_append, bS_size s]; rfl
              show (⟨#[58]⟩ ++ s : ByteArray).size ≤ 21
              omega) HAQ.out (by unfold LW at hll; omega))
          have HLW : Hid (lineW ((WN ++ x.labs.map fun s : ByteArray => (⟨#[58]⟩ ++ s : ByteArray)).map bS) x.props = outN x) := by
            show _ = _
            have e : ∀ l : List ByteArray, (l.map fun s : ByteArray => (⟨#[58]⟩ ++ s : ByteArray)).map bS = l.map fun s => [58] ++ bS s := fun l => by
              rw [List.map_map]
              exact List.map_congr_left fun s _ => bS_app _ s
            have e2 : (WN ++ x.labs.map fun s : ByteArray => (⟨#[58]⟩ ++ s : ByteArray)).map bS = wordsN x := by
              rw [List.map_append, e, HWN.out]
              unfold wordsN
              rw [List.map_cons, List.map_cons, List.map_nil, HIB.out]
              exact congrArg (fun z => z :: _) (bS_of [110, 111, 100, 101])
            rw [e2]
            rfl
          rw [HLW.out] at HC4
          clear HLW HCELLS hgq hcq OW hjn hlab hWNl hll hoi HST HLL HTK
          go_wp2_with fail
          refine HC4.out.mono ?_
          rintro e w5 ⟨⟨v5, rfl⟩, hA5, hK5⟩
          have HA5 : Hid (WrAt w0.heap.size b (hd ++ outsN (N.take (i + 1))) (!((N.take (i + 1)).all fun x => fitP x.props)) w5) := by
            show WrAt _ _ _ _ _
            rw [HSN.out, HFN.out, ← List.append_assoc]
            cases fx <;> cases hf : fitP x.props <;> simpa [hf] using hA5
          have HK5 := toHid ((HAK.out _ HKQ.out).2.trans hK5)
          clear hA5 hK5 HC4 y2 hblq
          go_wp2_with fail
          go_roundg (nl - (i + 1))
          case measure => omega
          case rel => exact ⟨i + 1, by omega, Nat.le_refl _, by go_num, HA5.out, HK5.out⟩
    · have hil : ¬ (i : Int) < nl := by omega
      have hin : i = nl := by omega
      subst hin
      have HTN : Hid (N.take i = N) := List.take_of_length_le (by have := HNL.out; omega)
      rw [HTN.out] at HAI hll
      obtain ⟨w6, rfl⟩ : ∃ z, z = wr := ⟨_, rfl⟩
      have HG6 := toHid (HKI.out.block HG2.out hgb (by decide))
      have HK6 := toHid (HK2.out.trans HKI.out)
      have x1 := cell_of HG6.out 1
      simp at x1
      have hbl := lt_blkX HG6.out
      obtain ⟨PN, hPN⟩ : ∃ PN, PN = hd ++ outsN N := ⟨_, rfl⟩
      obtain ⟨fn, hfn⟩ : ∃ fn, fn = (N.all fun x => fitP x.props) := ⟨_, rfl⟩
      rw [← hPN] at HAI hll
      rw [← hfn] at HAI
      have HPNE := toHid hPN
      have HFNE := toHid hfn
      have HA6 : Hid (WrAt w0.heap.size b (PN ++ outsE (E.take 0)) (!(fn && (E.take 0).all fun x => fitP x.props)) w6) := by
        show WrAt _ _ _ _ _
        simpa [outsE] using HAI.out
      clear hPN hfn HAI HKI HG2 HG6 HB2 HK2
      go_wp2_with fail
      clear x1 hbl
      go_loopg [50] el (fun g s50 wr => ∃ j : Nat, j ≤ el ∧ el - j ≤ g ∧ s50 = .int .i64 j ∧ WrAt w0.heap.size b (PN ++ outsE (E.take j)) (!(fn && (E.take j).all fun x => fitP x.props)) wr ∧ WKeep w0.heap.size b w6 wr)
      case atStart => exact ⟨0, Nat.zero_le _, by omega, rfl, HA6.out, WKeep.refl _ _ _⟩
      case round =>
        clear HA6
        obtain ⟨j, hj, hg2, rfl, haj, hkj⟩ := hrel
        have HAJ := toHid haj
        have HKJ := toHid hkj
        clear haj hkj
        have HW7 := toHid (HW2.out.trans HKJ.out.low)
        have hz7 : w0.heap.size ≤ wr.heap.size := HW7.out.size
        have hoj := HLE.out j hj
        have hll3 : (PN ++ outsE (E.take j)).length ≤ 30 + 100 * LW := by rw [List.length_append]; omega
        by_cases hlt2 : j < el
        · have hjl : (j : Int) < el := by omega
          obtain ⟨-, -, hat⟩ := HQE.out.below HW7.out
          obtain ⟨bb, off, ha, hb, hc⟩ := hat (by omega)
          subst ha
          obtain ⟨y, hy, _⟩ := drop_get (L := QE) (i := j) (by have := HQE.out.1; omega)
          obtain ⟨yi, yf, yd, yt, yP, yp, yq, yr⟩ := y
          obtain ⟨-, d0, d1, d2, d3, d4⟩ := hc j _ hy
          obtain ⟨x, hx, hyx⟩ := HPE.out.left hy
          have hox := HOE.out x (List.mem_of_getElem? hx)
          obtain ⟨e1, e2, e3, e4, -, hpa, hpp⟩ := hyx
          simp only at d0 d1 d2 d3 d4 e1 e2 e3 e4 hpa hpp
          have HPS : Hid (PsAt w0 x.props yp yq) := ⟨yP, hpa, hpp⟩
          have HSN : Hid (outsE (E.take (j + 1)) = outsE (E.take j) ++ outE x) := flat_snoc hx
          have HFN : Hid (((E.take (j + 1)).all fun x => fitP x.props) = (((E.take j).all fun x => fitP x.props) && fitP x.props)) := all_snoc (f := fun x : AE => fitP x.props) hx
          have HOX := toHid hox
          have i1 : I64 yi := by rw [e1]; exact hox.id
          have i2 : I64 yf := by rw [e2]; exact hox.frm
          have i3 : I64 yd := by rw [e3]; exact hox.dst
          have hyt : yt.size ≤ 12 := by rw [e4]; exact hox.typ
          have k2 : Below wr.heap.size wr (wr.alloc (.cells #[.int .i64 yi, .int .i64 yf, .int .i64 yd, .string yt, .slice yp yq yr] 53)) := (Below.refl _ _).alloc (Nat.le_refl _) _
          have HX2 := toHid (alloc_new wr (.cells #[.int .i64 yi, .int .i64 yf, .int .i64 yd, .string yt, .slice yp yq yr] 53))
          have hbw := HAJ.out.lt
          have HA7 := toHid (HAJ.out.below k2)
          have HK7 := toHid (HKJ.out.trans (WKeep.of_below k2 hz7))
          have HW8 := toHid (HW7.out.trans (k2.mono hz7))
          obtain ⟨I1, hI1⟩ : ∃ I : ByteArray, I = ⟨(Lib.itoa yi).toArray⟩ := ⟨_, rfl⟩
          obtain ⟨I2, hI2⟩ : ∃ I : ByteArray, I = ⟨(Lib.itoa yf).toArray⟩ := ⟨_, rfl⟩
          obtain ⟨I3, hI3⟩ : ∃ I : ByteArray, I = ⟨(Lib.itoa yd).toArray⟩ := ⟨_, rfl⟩
          have hs1 : I1.size ≤ 21 := by rw [hI1, ← bS_size, bS_of]; exact itoa_len i1
          have hs2 : I2.size ≤ 21 := by rw [hI2, ← bS_size, bS_of]; exact itoa_len i2
          have hs3 : I3.size ≤ 21 := by rw [hI3, ← bS_size, bS_of]; exact itoa_len i3
          obtain ⟨TY, hTY⟩ : ∃ TY : ByteArray, TY = ⟨#[58]⟩ ++ yt := ⟨_, rfl⟩
          have hTYs : TY.size ≤ 21 := by rw [hTY, ← bS_size, bS_app, List.length_append, bS_size yt]; simp [bS]; omega
          have HLW : Hid (lineW (([⟨#[101, 100, 103, 101]⟩, I1, I2, I3, TY] : List ByteArray).map bS) x.props = outE x) := by
            show _ = _
            unfold outE wordsE
            rw [← e1, ← e2, ← e3, ← e4, hI1, hI2, hI3, hTY]
            simp only [List.map_cons, List.map_nil, bS_of, bS_app]
          have HI1 : Hid (∀ W', Below w0.heap.size w0 W' → Calls Tryz.prog 23 #[.int .i64 yi] W' fun e w' => e = .returned (.string I1) ∧ Below W'.heap.size W' w') := fun W' k => by rw [hI1]; exact HIT.out W' yi k i1
          have HI2 : Hid (∀ W', Below w0.heap.size w0 W' → Calls Tryz.prog 23 #[.int .i64 yf] W' fun e w' => e = .returned (.string I2) ∧ Below W'.heap.size W' w') := fun W' k => by rw [hI2]; exact HIT.out W' yf k i2
          have HI3 : Hid (∀ W', Below w0.heap.size w0 W' → Calls Tryz.prog 23 #[.int .i64 yd] W' fun e w' => e = .returned (.string I3) ∧ Below W'.heap.size W' w') := fun W' k => by rw [hI3]; exact HIT.out W' yd k i3
          have HTYE := toHid hTY
          have c1 : ¬ 9223372036854775807 < 1 + yt.size := by omega
          generalize ((E.take j).all fun x => fitP x.props) = fx at HA7 HFN
          generalize outsE (E.take j) = OE at HA7 HSN hll3 hoj
          clear hI1 hI2 hI3 hTY hc hy hx hat hpa hpp hox e1 e2 e3 e4 k2 i1 i2 i3 HAJ HKJ
          go_upto_region 16 with fail
          generalize wr.alloc (.cells #[.int .i64 yi, .int .i64 yf, .int .i64 yd, .string yt, .slice yp yq yr] 53) = W1 at HX2 HA7 HK7 HW8 ⊢
          have hbn : wr.heap.size ≠ b := by omega
          clear d0 d1 d2 d3 d4 HW7 hz7
          generalize wr.heap.size = bx at HX2 hbn hbw ⊢
          have HS : Hid (∀ W' : World, WKeep w0.heap.size b W1 W' → W'.cell? ⟨bx, 0, none⟩ = some (.int .i64 yi) ∧ W'.cell? ⟨bx, 1, none⟩ = some (.int .i64 yf) ∧ W'.cell? ⟨bx, 2, none⟩ = some (.int .i64 yd) ∧ W'.cell? ⟨bx, 3, none⟩ = some (.string yt) ∧ W'.cell? ⟨bx, 4, none⟩ = some (.slice yp yq yr)) := fun W' k => by
            have q := k.block HX2.out hbn (by decide)
            exact ⟨cell_of q 0, cell_of q 1, cell_of q 2, cell_of q 3, cell_of q 4⟩
          have D0 : Below W1.heap.size W1 W1.drew := (Below.refl _ _).drew
          obtain ⟨x0, x1, x2, x3, x4⟩ := HS.out W1 (WKeep.refl _ _ _)
          have hbl := lt_blkX HX2.out
          have hz8 : w0.heap.size ≤ W1.heap.size := HW8.out.size
          have HKO : Hid (∀ W', Below W1.heap.size W1 W' → WKeep w0.heap.size b W1 W') := fun W' k => WKeep.of_below k hz8
          have HWO : Hid (∀ W', Below W1.heap.size W1 W' → Below w0.heap.size w0 W') := fun W' k => HW8.out.trans (k.mono hz8)
          have HLN2 : Hid (∀ u : World, Below W1.heap.size W1 u → Calls Tryz.prog 31 #[.pointer (some ⟨b, 0, none⟩), .slice yp yq yr, .slice (some ⟨u.heap.size, 0, none⟩) 5 5] (u.alloc (.cells #[.string ⟨#[101, 100, 103, 101]⟩, .string I1, .string I2, .string I3, .string (⟨#[58]⟩ ++ yt)] 9)) fun e w' => (∃ v, e = .returned v) ∧ WrAt w0.heap.size b (PN ++ outsE (E.take (j + 1))) (!(fn && (E.take (j + 1)).all fun x => fitP x.props)) w' ∧ WKeep w0.heap.size b W1 w') := fun u k => by
            have hn := alloc_new u (.cells #[.string ⟨#[101, 100, 103, 101]⟩, .string I1, .string I2, .string I3, .string (⟨#[58]⟩ ++ yt)] 9)
            have kk : Below W1.heap.size W1 (u.alloc (.cells #[.string ⟨#[101, 100, 103, 101]⟩, .string I1, .string I2, .string I3, .string (⟨#[58]⟩ ++ yt)] 9)) := k.alloc k.size _
            have h := HLINE.out x.props yp yq yr [⟨#[101, 100, 103, 101]⟩, I1, I2, I3, TY] 5 u.heap.size 5 (PN ++ OE) (!(fn && fx)) _ rfl HPS.out HOX.out.props (HWO.out _ kk) (fun j x hx => by
              rw [← HTYE.out] at hn
              match j, hx with
              | 0, hx => simp at hx; subst hx; rw [← HTYE.out]; exact cell_of hn 0
              | 1, hx => simp at hx; subst hx; rw [← HTYE.out]; exact cell_of hn 1
              | 2, hx => simp at hx; subst hx; rw [← HTYE.out]; exact cell_of hn 2
              | 3, hx => simp at hx; subst hx; rw [← HTYE.out]; exact cell_of hn 3
              | 4, hx => simp at hx; subst hx; rw [← HTYE.out]; exact cell_of hn 4
              | j + 5, hx => simp at hx) (by simp) (Nat.le_refl _) (by omega) (fun z hz => by
              simp only [List.mem_cons, List.not_mem_nil, or_false] at hz
              rcases hz with rfl | rfl | rfl | rfl | rfl
              · show (4 : Nat) ≤ 21; omega
              · exact hs1
              · exact hs2
              · exact hs3
              · exact hTYs) (HA7.out.below kk) (by unfold LW at hll3; omega)
            refine h.mono fun e w' ⟨h1, h2, h3⟩ => ⟨h1, ?_, (HKO.out _ kk).trans h3⟩
            rw [HLW.out, List.append_assoc, ← HSN.out] at h2
            rw [HFN.out]
            cases fn <;> cases fx <;> cases hf : fitP x.props <;> simpa [hf] using h2
          clear HA7
          go_region_held3 (fun W' => W'.cell? ⟨bx, 0, none⟩ = some (.int .i64 yi) ∧ W'.cell? ⟨bx, 1, none⟩ = some (.int .i64 yf) ∧ W'.cell? ⟨bx, 2, none⟩ = some (.int .i64 yd) ∧ W'.cell? ⟨bx, 3, none⟩ = some (.string yt) ∧ W'.cell? ⟨bx, 4, none⟩ = some (.slice yp yq yr))
            (first
              | exact S4
              | exact S3
              | exact S2'
              | exact S1'
              | exact ⟨x0, x1, x2, x3, x4⟩
              | exact HS.out _ (HKO.out _ D0)
              | go_keep)
            (first
              | (go_at_call 31; refine (HLN2.out _ k3).mono ?_; rintro e u4 ⟨⟨v4, rfl⟩, ha4, hk4⟩; have S4 := HS.out u4 hk4)
              | (go_at_call 23; refine (HI3.out _ (HWO.out _ k2)).mono ?_; rintro e u3 ⟨rfl, h3⟩; have k3 : Below W1.heap.size W1 u3 := k2.trans (h3.mono k2.size); have S3 := HS.out u3 (HKO.out _ k3))
              | (go_at_call 23; refine (HI2.out _ (HWO.out _ k1)).mono ?_; rintro e u2 ⟨rfl, h2⟩; have k2 : Below W1.heap.size W1 u2 := k1.trans (h2.mono k1.size); have S2' := HS.out u2 (HKO.out _ k2))
              | (go_at_call 23; refine (HI1.out _ (HWO.out _ D0)).mono ?_; rintro e u1 ⟨rfl, h1⟩; have k1 : Below W1.heap.size W1 u1 := D0.trans h1; have S1' := HS.out u1 (HKO.out _ k1)))
          all_goals
            go_wp2_with fail
            go_roundg (el - (j + 1))
            case measure => omega
            case rel => exact ⟨j + 1, by omega, Nat.le_refl _, by go_num, ha4, HK7.out.trans hk4⟩
        · have hjl : ¬ (j : Int) < el := by omega
          have hjn : j = el := by omega
          subst hjn
          have HTE : Hid (E.take j = E) := List.take_of_length_le (by have := HEL.out; omega)
          rw [HTE.out] at HAJ
          have HFG : Hid ((fn && E.all fun x => fitP x.props) = fitG N E) := by rw [HFNE.out]; exact toHid rfl
          have HOG : Hid (PN ++ outsE E = outG nx N E) := by rw [HPNE.out, HHD2.out]; exact toHid rfl
          go_wp2_with fail
          go_end0
          refine ⟨⟨_, rfl⟩, ?_, HK6.out.trans HKJ.out⟩
          rw [← HOG.out, ← HFG.out]
          exact HAJ.out
end Go.Proofs.YthbbapimedlocaaGreatDoor
