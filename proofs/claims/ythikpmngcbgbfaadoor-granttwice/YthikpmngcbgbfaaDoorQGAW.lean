/-
  What is proved here: what the texts GtLawT prove, in one text.
-/
import Derived.Test.YthikpmngcbgbfaaDoorQGAU
import Derived.Test.YthikpmngcbgbfaaDoorQGAV
namespace Go.Proofs.YthikpmngcbgbfaaDoor
open Go.RowKit
set_option linter.unusedVariables false

set_option linter.unusedSimpArgs false

theorem has_more {G G' : List ByteArray} (h : ∀ s ∈ G, hasS G' s = true) : ∀ s, hasS G s = true → hasS G' s = true := by
  intro s hs
  unfold hasS at hs
  obtain ⟨x, hx, e⟩ := List.any_eq_true.1 hs
  have e' : s.toList = x.toList := by simpa using e
  have := h x hx
  unfold hasS at this ⊢
  rw [e']
  exact this

/-- Texts that are handed back. -/
def SlEnd (w' : World) (R : List ByteArray) (e : Ending) : Prop := ∃ la ll lc, e = .returned (.slice la ll lc) ∧ StrsAt w' R la ll

set_option maxHeartbeats 4000000 in
set_option maxRecDepth 100000 in
theorem labs_any (L : List Gt) (a : Option Addr) (l c : Nat) (who : ByteArray) (p : Nat) (w : World) (hL : GtsOk w L a l) (hp : w.cell? ⟨p, 0, none⟩ = some (.slice a l c)) (hpl : p < w.heap.size) :
    Calls Tryd.prog 16 #[.string who, .pointer (some ⟨p, 0, none⟩)] w fun e w' => SlEnd w' (labsOf L who) e ∧ Below w.heap.size w w' := by
  obtain ⟨R, hR⟩ : ∃ R, R = labsOf L who := ⟨_, rfl⟩
  rw [← hR]
  have HLN := toHid hL.1.1
  have hmx := hL.1.2.1
  have HL := toHid hL
  have HR : Hid (R = labsOf (L.drop 0) who) := hR
  clear hL hR
  go_enter Tryd.func16, Tryd.ntmps16
  go_wp2_with fail
  clear hp hpl
  go_loopg [8] l (fun g s8 wr => ∃ i : Nat, i ≤ l ∧ l - i ≤ g ∧ s8 = .int .i64 i ∧ Below w.heap.size w wr ∧ R = labsOf (L.drop i) who)
  case atStart => exact ⟨0, Nat.zero_le _, by omega, rfl, Below.refl _ _, HR.out⟩
  case round =>
    clear HR
    obtain ⟨i, hi, hg, rfl, hbw, hre⟩ := hrel
    have HRE := toHid hre
    have HBW := toHid hbw
    clear hre hbw
    by_cases hlt : i < l
    · have hil : (i : Int) < l := by omega
      have HLR := HL.out.below HBW.out
      obtain ⟨b, off, ha, hb, hc⟩ := HLR.1.2.2 (by omega)
      subst ha
      obtain ⟨x, hx, hd⟩ := drop_get (L := L) (i := i) (by have := HLN.out; omega)
      obtain ⟨_, d1, d2⟩ := hc i x hx
      have HSX := toHid (HLR.2 x (List.mem_of_getElem? hx))
      have hyx : toW who x = (x.who.toList == who.toList) := rfl
      have HK1 : Hid (Below wr.heap.size wr (wr.alloc (.cells #[.string x.who, .slice x.la x.ll x.lc] 54))) := (Below.refl _ _).alloc (Nat.le_refl _) _
      have HRE2 : Hid (R = if toW who x = true then x.labs else labsOf (L.drop (i + 1)) who) := by
        show _ = _
        rw [HRE.out, labsOf, find_drop hd, labsOf]
        cases toW who x <;> simp
      clear hc hx hd HRE HLR
      cases hs : toW who x with
      | false =>
        have H5 : Hid (R = labsOf (L.drop (i + 1)) who) := by rw [HRE2.out, if_neg (by simp [hs])]; exact toHid rfl
        rw [hyx] at hs
        clear HRE2 hyx
        go_wp2_with fail
        go_roundg (l - (i + 1))
        case measure => omega
        case rel => exact ⟨i + 1, by omega, Nat.le_refl _, by go_num, HBW.out.trans (HK1.out.mono HBW.out.size), H5.out⟩
      | true =>
        have H5 : Hid (R = x.labs) := by rw [HRE2.out, if_pos hs]; exact toHid rfl
        rw [hyx] at hs
        clear HRE2 hyx
        go_wp2_with fail
        go_ret
        exact ⟨⟨x.la, x.ll, x.lc, rfl, by rw [H5.out]; exact HSX.out.below HK1.out⟩, HBW.out.trans (HK1.out.mono HBW.out.size)⟩
    · have hil : ¬ (i : Int) < l := by omega
      have H5 : Hid (R = []) := by rw [HRE.out, List.drop_eq_nil_of_le (by have := HLN.out; omega)]; exact toHid rfl
      clear HRE
      go_wp2_with fail
      go_ret
      exact ⟨⟨none, 0, 0, rfl, by rw [H5.out]; exact ⟨rfl, by omega, fun h => absurd h (Nat.lt_irrefl _)⟩⟩, HBW.out⟩

set_option maxHeartbeats 16000000 in
set_option maxRecDepth 100000 in
theorem law_twice (B : Nat) (L : List Gt) (a : Option Addr) (l c : Nat) (who other : ByteArray) (N : List Nd) (E : List Ed) (na : Option Addr) (nl nc : Nat) (ea : Option Addr) (el ec : Nat) (nx : Int) (w : World) (hB : B ≤ w.heap.size) (hT : Tabs B w) (hL : GtsOk w L a l) (hlc : l ≤ c) (hG : GrOk w N E na nl ea el) :
    Calls Tryd.prog 5 #[.slice a l c, .string who, .string other, .agg #[.slice na nl nc, .slice ea el ec, .int .i64 nx]] w fun e w' => e = .returned (.bool true) ∧ Below w.heap.size w w' := by
  obtain ⟨XN, XE, hX⟩ : ∃ XN XE, gE N E nx = 0 → Pair2 (NdIn w) N XN ∧ Pair2 (EdIn w) E XE ∧ ∀ made, Rt ⟨XN, XE, nx, made⟩ := by
    by_cases h : gE N E nx = 0
    · obtain ⟨XN, XE, h1⟩ := gr_rightP hG h
      exact ⟨XN, XE, fun _ => h1⟩
    · exact ⟨[], [], fun k => absurd k h⟩
  have hX2 : ∀ W, Below w.heap.size w W → gE N E nx = 0 → Pair2 (NdIn W) N XN ∧ Pair2 (EdIn W) E XE ∧ (∀ x ∈ XN, x.ok) ∧ (∀ x ∈ XE, x.ok) := fun W k h => by
    obtain ⟨p1, p2, p3⟩ := hX h
    exact ⟨p1.mono fun p x _ _ h => h.below k, p2.mono fun p x _ _ h => h.below k, (p3 []).nok, (p3 []).eok⟩
  have HS : Hid (∀ W wh, Below w.heap.size w W → Calls Tryd.prog 6 #[.slice a l c, .string wh, .agg #[.slice na nl nc, .slice ea el ec, .int .i64 nx]] W fun e w' => SeeEnd w' (sgE L wh (gE N E nx)) (seenN (labsOf L wh) XN) (seenE (seenN (labsOf L wh) XN) XE) nx e ∧ Below W.heap.size W w') := fun W wh k => see_any L a l c wh N E na nl nc ea el ec nx XN XE W (hL.below k) hlc (hG.below k) (hX2 W k)
  have HOK : Hid (sgE L who (gE N E nx) = 0 → (∀ x ∈ seenN (labsOf L who) XN, x.ok) ∧ (∀ x ∈ seenE (seenN (labsOf L who) XN) XE, x.ok)) := fun h0 => by
    have r := seen_rt (G := labsOf L who) ((hX (sgE_gE h0)).2.2 [])
    exact ⟨r.nok, r.eok⟩
  have HS2 : Hid (sgE L who (gE N E nx) = 0 → ∀ W xa xc ya yc, Below w.heap.size w W → NsAt W (seenN (labsOf L who) XN) xa (seenN (labsOf L who) XN).length → EsAt W (seenE (seenN (labsOf L who) XN) XE) ya (seenE (seenN (labsOf L who) XN) XE).length → Calls Tryd.prog 6 #[.slice a l c, .string who, .agg #[.slice xa (seenN (labsOf L who) XN).length xc, .slice ya (seenE (seenN (labsOf L who) XN) XE).length yc, .int .i64 nx]] W fun e w' => SeeEnd w' 0 (seenN (labsOf L who) XN) (seenE (seenN (labsOf L who) XN) XE) nx e ∧ Below W.heap.size W w') := fun h0 W xa xc ya yc k hn he => by
    have h00 := sgE_gE h0
    have r := seen_rt (G := labsOf L who) ((hX h00).2.2 [])
    obtain ⟨N2, E2, ⟨g1, g2⟩, q1, q2⟩ := gr_backP B (Nat.le_trans hB k.size) (hT.below (k.mono hB)) r hn he
    have g2' : gE N2 E2 nx = 0 := g2
    have h1 := see_any L a l c who N2 E2 xa (seenN (labsOf L who) XN).length xc ya (seenE (seenN (labsOf L who) XN) XE).length yc nx _ _ W (hL.below k) hlc g1 (fun _ => ⟨q1, q2, r.nok, r.eok⟩)
    have h2 : sgE L who (gE N2 E2 nx) = 0 := by rw [g2']; rw [h00] at h0; exact h0
    rw [h2] at h1
    have h3 : seenN (labsOf L who) (seenN (labsOf L who) XN) = seenN (labsOf L who) XN := seenN_twice _ _
    have h4 : seenE (seenN (labsOf L who) XN) (seenE (seenN (labsOf L who) XN) XE) = seenE (seenN (labsOf L who) XN) XE := seenE_twice _ _
    simp only [h3, h4] at h1
    exact h1
  have HLB : Hid (∀ W wh p, Below w.heap.size w W → W.cell? ⟨p, 0, none⟩ = some (.slice a l c) → p < W.heap.size → Calls Tryd.prog 16 #[.string wh, .pointer (some ⟨p, 0, none⟩)] W fun e w' => SlEnd w' (labsOf L wh) e ∧ Below W.heap.size W w') := fun W wh p k h1 h2 => labs_any L a l c wh p W (hL.below k) h1 h2
  have HMORE : Hid ((∀ s ∈ labsOf L who, hasS (labsOf L other) s = true) → (∀ x ∈ seenN (labsOf L who) XN, hasA (seenN (labsOf L other) XN) x.id = true) ∧ (seenE (seenN (labsOf L who) XN) XE).length ≤ (seenE (seenN (labsOf L other) XN) XE).length) := fun h => by
    have hm := has_more h
    exact ⟨fun x hx => hasA_mem.2 ⟨x, seenN_more hm hx, rfl⟩, seenE_more hm XN XE⟩
  have HSW : Hid (∀ W, Below w.heap.size w W → Calls Tryd.prog 6 #[.slice a l c, .string who, .agg #[.slice na nl nc, .slice ea el ec, .int .i64 nx]] W fun e w' => SeeEnd w' (sgE L who (gE N E nx)) (seenN (labsOf L who) XN) (seenE (seenN (labsOf L who) XN) XE) nx e ∧ Below W.heap.size W w') := fun W k => HS.out W who k
  have HSO : Hid (∀ W, Below w.heap.size w W → Calls Tryd.prog 6 #[.slice a l c, .string other, .agg #[.slice na nl nc, .slice ea el ec, .int .i64 nx]] W fun e w' => SeeEnd w' (sgE L other (gE N E nx)) (seenN (labsOf L other) XN) (seenE (seenN (labsOf L other) XN) XE) nx e ∧ Below W.heap.size W w') := fun W k => HS.out W other k
  have HLW : Hid (∀ W p, Below w.heap.size w W → W.cell? ⟨p, 0, none⟩ = some (.slice a l c) → p < W.heap.size → Calls Tryd.prog 16 #[.string who, .pointer (some ⟨p, 0, none⟩)] W fun e w' => SlEnd w' (labsOf L who) e ∧ Below W.heap.size W w') := fun W p k h1 h2 => HLB.out W who p k h1 h2
  have HLO : Hid (∀ W p, Below w.heap.size w W → W.cell? ⟨p, 0, none⟩ = some (.slice a l c) → p < W.heap.size → Calls Tryd.prog 16 #[.string other, .pointer (some ⟨p, 0, none⟩)] W fun e w' => SlEnd w' (labsOf L other) e ∧ Below W.heap.size W w') := fun W p k h1 h2 => HLB.out W other p k h1 h2
  clear hX hX2 hL hG hT HS HLB
  generalize sgE L other (gE N E nx) = er2 at HSO
  generalize sgE L who (gE N E nx) = er at HOK HS2 HSW
  generalize seenE (seenN (labsOf L who) XN) XE = YE at HOK HS2 HSW HMORE
  generalize seenN (labsOf L who) XN = YN at HOK HS2 HSW HMORE
  generalize seenE (seenN (labsOf L other) XN) XE = ZE at HSO HMORE
  generalize seenN (labsOf L other) XN = ZN at HSO HMORE
  generalize labsOf L who = GW at HLW HMORE
  generalize labsOf L other = GO at HLO HMORE
  have b0 : Below w.heap.size w ((w.alloc (.cells #[.slice a l c] 22)).alloc (.cells #[.slice na nl nc, .slice ea el ec, .int .i64 nx] 26)) := ((Below.refl _ _).alloc (Nat.le_refl _) _).alloc (by simp) _
  have h0 : ((w.alloc (.cells #[.slice a l c] 22)).alloc (.cells #[.slice na nl nc, .slice ea el ec, .int .i64 nx] 26)).heap[w.heap.size]? = some (.cells #[.slice a l c] 22 (0, 0)) := bk_alP (bk_newP rfl)
  have h1 : ((w.alloc (.cells #[.slice a l c] 22)).alloc (.cells #[.slice na nl nc, .slice ea el ec, .int .i64 nx] 26)).heap[w.heap.size + 1]? = some (.cells #[.slice na nl nc, .slice ea el ec, .int .i64 nx] 26 (0, 0)) := bk_newP (by simp)
  have HB0 := toHid b0
  have HA := toHid h0
  have HG := toHid h1
  clear b0 h0 h1
  go_enter Tryd.func5, Tryd.ntmps5
  go_upto_region 1 with fail
  generalize (w.alloc (.cells #[.slice a l c] 22)).alloc (.cells #[.slice na nl nc, .slice ea el ec, .int .i64 nx] 26) = W at HB0 HA HG ⊢
  have a0 := cell_of HA.out 0
  have x0 := cell_of HG.out 0
  have x1 := cell_of HG.out 1
  have x2 := cell_of HG.out 2
  simp at a0 x0 x1 x2
  have hbl := lt_block HG.out
  have hbl2 := lt_block HA.out
  go_wp2_with fail
  refine (HSW.out _ HB0.out).mono ?_
  rintro e w1 ⟨hse, k1⟩
  have HB1 := toHid (HB0.out.trans (k1.mono HB0.out.size))
  have HA1 := toHid ((k1.block _ (lt_block HA.out)).trans HA.out)
  have HG1 := toHid ((k1.block _ (lt_block HG.out)).trans HG.out)
  clear k1 a0 x0 x1 x2 hbl hbl2 HA HG HB0 HSW
  rcases hse with ⟨h0, rfl⟩ | ⟨h0, xa, xc, ya, yc, rfl, hn, he⟩
  · have h0' : (er != 0) = true := by simp [h0]
    have k2 : Below w1.heap.size w1 (w1.alloc (.cells #[.slice none 0 0, .slice none 0 0, .int .i64 0] 26)) := (Below.refl _ _).alloc (Nat.le_refl _) _
    have HB2 := toHid (HB1.out.trans (k2.mono HB1.out.size))
    clear k2
    go_upto_region 2 with fail
    generalize w1.alloc (.cells #[.slice none 0 0, .slice none 0 0, .int .i64 0] 26) = W2 at HB2 ⊢
    go_wp2_with fail
    refine (granted_true W2).mono ?_
    rintro e w3 ⟨rfl, k3⟩
    have HB3 := toHid (HB2.out.trans (k3.mono HB2.out.size))
    go_wp2_with fail
    refine (granted_true w3).mono ?_
    rintro e w4 ⟨rfl, k4⟩
    go_wp2_with fail
    go_ret
    exact ⟨rfl, HB3.out.trans (k4.mono HB3.out.size)⟩
  · subst h0
    obtain ⟨o1, o2⟩ := HOK.out rfl
    have HO := toHid (⟨o1, o2⟩ : (∀ x ∈ YN, x.ok) ∧ ∀ x ∈ YE, x.ok)
    have HS3 := toHid (HS2.out rfl)
    clear HOK HS2 o1 o2
    have k2 : Below w1.heap.size w1 (w1.alloc (.cells #[.slice xa YN.length xc, .slice ya YE.length yc, .int .i64 nx] 26)) := (Below.refl _ _).alloc (Nat.le_refl _) _
    have h2 := alloc_new w1 (.cells #[.slice xa YN.length xc, .slice ya YE.length yc, .int .i64 nx] 26)
    have HB2 := toHid (HB1.out.trans (k2.mono HB1.out.size))
    have HA2 := toHid ((k2.block _ (lt_block HA1.out)).trans HA1.out)
    have HG2 := toHid ((k2.block _ (lt_block HG1.out)).trans HG1.out)
    have HX2 := toHid h2
    have HN2 := toHid (hn.below k2)
    have HE2 := toHid (he.below k2)
    clear k2 h2 hn he HA1 HG1 HB1
    generalize hyl : YN.length = yl at HB2 HA2 HG2 HX2 HN2 HE2 HS3 ⊢
    generalize hzl : YE.length = zl at HB2 HA2 HG2 HX2 HN2 HE2 HS3 ⊢
    have HYL := toHid hyl
    have HZL := toHid hzl
    clear hyl hzl
    go_upto_region 2 with fail
    generalize w1.alloc (.cells #[.slice xa yl xc, .slice ya zl yc, .int .i64 nx] 26) = W2 at HB2 HA2 HG2 HX2 HN2 HE2 ⊢
    generalize w1.heap.size = bx at HX2 ⊢
    go_wp2_with fail
    refine (granted_true W2).mono ?_
    rintro e w3 ⟨rfl, k3⟩
    have HB3 := toHid (HB2.out.trans (k3.mono HB2.out.size))
    have HA3 := toHid ((k3.block _ (lt_block HA2.out)).trans HA2.out)
    have HG3 := toHid ((k3.block _ (lt_block HG2.out)).trans HG2.out)
    have HX3 := toHid ((k3.block _ (lt_block HX2.out)).trans HX2.out)
    have HN3 := toHid (HN2.out.below k3)
    have HE3 := toHid (HE2.out.below k3)
    clear k3 HA2 HG2 HX2 HN2 HE2 HB2
    have a0 := cell_of HA3.out 0
    have x0 := cell_of HX3.out 0
    have x1 := cell_of HX3.out 1
    have x2 := cell_of HX3.out 2
    simp at a0 x0 x1 x2
    have hbl := lt_block HX3.out
    have hbl2 := lt_block HA3.out
    go_wp2_with fail
    refine (HS3.out w3 xa xc ya yc HB3.out HN3.out HE3.out).mono ?_
    rintro e w4 ⟨hse, k4⟩
    have HB4 := toHid (HB3.out.trans (k4.mono HB3.out.size))
    have HA4 := toHid ((k4.block _ (lt_block HA3.out)).trans HA3.out)
    have HG4 := toHid ((k4.block _ (lt_block HG3.out)).trans HG3.out)
    have HX4 := toHid ((k4.block _ (lt_block HX3.out)).trans HX3.out)
    have HN4 := toHid (HN3.out.below k4)
    have HE4 := toHid (HE3.out.below k4)
    clear k4 a0 x0 x1 x2 hbl hbl2 HA3 HG3 HX3 HN3 HE3 HB3 HS3
    rcases hse with ⟨h0, _⟩ | ⟨_, pa, pc, qa, qc, rfl, hn, he⟩
    · exact absurd rfl h0
    rw [HYL.out] at hn ⊢
    rw [HZL.out] at he ⊢
    have k5 : Below w4.heap.size w4 (w4.alloc (.cells #[.slice pa yl pc, .slice qa zl qc, .int .i64 nx] 26)) := (Below.refl _ _).alloc (Nat.le_refl _) _
    have h5 := alloc_new w4 (.cells #[.slice pa yl pc, .slice qa zl qc, .int .i64 nx] 26)
    have HB5 := toHid (HB4.out.trans (k5.mono HB4.out.size))
    have HA5 := toHid ((k5.block _ (lt_block HA4.out)).trans HA4.out)
    have HG5 := toHid ((k5.block _ (lt_block HG4.out)).trans HG4.out)
    have HX5 := toHid ((k5.block _ (lt_block HX4.out)).trans HX4.out)
    have HY5 := toHid h5
    have HN5 := toHid (HN4.out.below k5)
    have HE5 := toHid (HE4.out.below k5)
    have HP5 := toHid (hn.below k5)
    have HQ5 := toHid (he.below k5)
    clear k5 h5 hn he HA4 HG4 HX4 HN4 HE4 HB4
    go_upto_region 5 with fail
    generalize w4.alloc (.cells #[.slice pa yl pc, .slice qa zl qc, .int .i64 nx] 26) = W5 at HB5 HA5 HG5 HX5 HY5 HN5 HE5 HP5 HQ5 ⊢
    generalize w4.heap.size = by' at HY5 ⊢
    have x0 := cell_of HX5.out 0
    have x1 := cell_of HX5.out 1
    have x2 := cell_of HX5.out 2
    have y0 := cell_of HY5.out 0
    have y1 := cell_of HY5.out 1
    have y2 := cell_of HY5.out 2
    simp at x0 x1 x2 y0 y1 y2
    have hbl := lt_block HX5.out
    have hbl2 := lt_block HY5.out
    have HC := toHid (sameGraph_ref YN YN YE YE xa yl xc ya zl yc nx pa yl pc qa zl qc nx W5 HN5.out HE5.out HP5.out HQ5.out HO.out.1 HO.out.2 HO.out.1 HO.out.2)
    rw [show ((nx == nx) && (eqB sameN YN YN && eqB sameE YE YE)) = true by rw [eqB_self _ sameN_self, eqB_self _ sameE_self]; simp] at HC
    go_wp2_with fail
    refine HC.out.mono ?_
    rintro e w6 ⟨rfl, k6⟩
    have HB6 := toHid (HB5.out.trans (k6.mono HB5.out.size))
    have HA6 := toHid ((k6.block _ (lt_block HA5.out)).trans HA5.out)
    have HG6 := toHid ((k6.block _ (lt_block HG5.out)).trans HG5.out)
    have HX6 := toHid ((k6.block _ (lt_block HX5.out)).trans HX5.out)
    have HN6 := toHid (HN5.out.below k6)
    clear k6 x0 x1 x2 y0 y1 y2 hbl hbl2 HA5 HG5 HX5 HY5 HN5 HE5 HP5 HQ5 HB5 HC HO
    have a0 := cell_of HA6.out 0
    have x0 := cell_of HG6.out 0
    have x1 := cell_of HG6.out 1
    have x2 := cell_of HG6.out 2
    simp at a0 x0 x1 x2
    have hbl := lt_block HG6.out
    have hbl2 := lt_block HA6.out
    go_wp2_with fail
    refine (HSO.out _ HB6.out).mono ?_
    rintro e w7 ⟨hse, k7⟩
    have HB7 := toHid (HB6.out.trans (k7.mono HB6.out.size))
    have HA7 := toHid ((k7.block _ (lt_block HA6.out)).trans HA6.out)
    have HX7 := toHid ((k7.block _ (lt_block HX6.out)).trans HX6.out)
    have HN7 := toHid (HN6.out.below k7)
    clear k7 a0 x0 x1 x2 hbl hbl2 HA6 HG6 HX6 HN6 HB6 HSO
    rcases hse with ⟨h0, rfl⟩ | ⟨h0, za, zc, ta, tc, rfl, hn, he⟩
    · have h0' : (er2 != 0) = true := by simp [h0]
      have HB8 : Hid (Below w.heap.size w (w7.alloc (.cells #[.slice none 0 0, .slice none 0 0, .int .i64 0] 26))) := HB7.out.alloc HB7.out.size _
      go_wp2_with fail
      go_ret
      exact ⟨rfl, HB8.out⟩
    · subst h0
      obtain ⟨vl, hvl⟩ : ∃ z, z = ZN.length := ⟨_, rfl⟩
      obtain ⟨tl, htl⟩ : ∃ z, z = ZE.length := ⟨_, rfl⟩
      rw [← hvl] at hn ⊢
      rw [← htl] at he ⊢
      have HVL := toHid hvl
      have HTL := toHid htl
      have k8 : Below w7.heap.size w7 (w7.alloc (.cells #[.slice za vl zc, .slice ta tl tc, .int .i64 nx] 26)) := (Below.refl _ _).alloc (Nat.le_refl _) _
      have h8 := alloc_new w7 (.cells #[.slice za vl zc, .slice ta tl tc, .int .i64 nx] 26)
      have HB8 := toHid (HB7.out.trans (k8.mono HB7.out.size))
      have HA8 := toHid ((k8.block _ (lt_block HA7.out)).trans HA7.out)
      have HX8 := toHid ((k8.block _ (lt_block HX7.out)).trans HX7.out)
      have HZ8 := toHid h8
      have HN8 := toHid (HN7.out.below k8)
      have HV8 := toHid (hn.below k8)
      clear k8 h8 hn he HA7 HX7 HN7 HB7 hvl htl
      go_upto_region 8 with fail
      generalize w7.alloc (.cells #[.slice za vl zc, .slice ta tl tc, .int .i64 nx] 26) = W8 at HB8 HA8 HX8 HZ8 HN8 HV8 ⊢
      generalize w7.heap.size = bz at HZ8 ⊢
      have HAC : Hid (∀ W', Below W8.heap.size W8 W' → W'.cell? ⟨w.heap.size, 0, none⟩ = some (.slice a l c) ∧ w.heap.size < W'.heap.size) := fun W' k => ⟨(k.cell (p := ⟨w.heap.size, 0, none⟩) (lt_block HA8.out)).trans (cell_of HA8.out 0), Nat.lt_of_lt_of_le (lt_block HA8.out) k.size⟩
      have HXC : Hid (∀ W', Below W8.heap.size W8 W' → (W'.cell? ⟨bx, 0, none⟩ = some (.slice xa yl xc) ∧ W'.cell? ⟨bx, 1, none⟩ = some (.slice ya zl yc) ∧ bx < W'.heap.size) ∧ (W'.cell? ⟨bz, 0, none⟩ = some (.slice za vl zc) ∧ W'.cell? ⟨bz, 1, none⟩ = some (.slice ta tl tc) ∧ W'.cell? ⟨bz, 2, none⟩ = some (.int .i64 nx) ∧ bz < W'.heap.size)) := fun W' k => by
        have q : ∀ o, W'.cell? ⟨bx, o, none⟩ = _ := fun o => (k.cell (p := ⟨bx, o, none⟩) (lt_block HX8.out)).trans (cell_of HX8.out o)
        have q' : ∀ o, W'.cell? ⟨bz, o, none⟩ = _ := fun o => (k.cell (p := ⟨bz, o, none⟩) (lt_block HZ8.out)).trans (cell_of HZ8.out o)
        exact ⟨⟨q 0, q 1, Nat.lt_of_lt_of_le (lt_block HX8.out) k.size⟩, ⟨q' 0, q' 1, q' 2, Nat.lt_of_lt_of_le (lt_block HZ8.out) k.size⟩⟩
      clear HA8 HX8 HZ8
      have HLW8 : Hid (∀ W', Below W8.heap.size W8 W' → Calls Tryd.prog 16 #[.string who, .pointer (some ⟨w.heap.size, 0, none⟩)] W' fun e w' => SlEnd w' GW e ∧ Below W'.heap.size W' w') := fun W' k => HLW.out W' _ (HB8.out.trans (k.mono HB8.out.size)) (HAC.out W' k).1 (HAC.out W' k).2
      have HLO8 : Hid (∀ W', Below W8.heap.size W8 W' → Calls Tryd.prog 16 #[.string other, .pointer (some ⟨w.heap.size, 0, none⟩)] W' fun e w' => SlEnd w' GO e ∧ Below W'.heap.size W' w') := fun W' k => HLO.out W' _ (HB8.out.trans (k.mono HB8.out.size)) (HAC.out W' k).1 (HAC.out W' k).2
      have HOUT : Hid (∀ W', Below W8.heap.size W8 W' → Below w.heap.size w W') := fun W' k => HB8.out.trans (k.mono HB8.out.size)
      clear HLW HLO HAC HB8
      go_wp2_with fail
      refine (HLW8.out W8 (Below.refl _ _)).mono ?_
      rintro e w9 ⟨⟨la, ll, lc, rfl, hla⟩, k9⟩
      have HLA := toHid hla
      have HK9 := toHid k9
      have HLL := toHid hla.1
      have hmx := hla.2.1
      have HP0 : Hid (∀ s ∈ GW.take 0, hasS GO s = true) := fun s hs => (by simp at hs)
      clear hla k9 HLW8
      go_wp2_with fail
      go_loopg [61] ll (fun g s61 wr => ∃ i : Nat, i ≤ ll ∧ ll - i ≤ g ∧ s61 = .int .i64 i ∧ Below w9.heap.size w9 wr ∧ ∀ s ∈ GW.take i, hasS GO s = true)
      case atStart => exact ⟨0, Nat.zero_le _, by omega, rfl, Below.refl _ _, HP0.out⟩
      case round =>
        clear HP0
        obtain ⟨i, hi, hg, rfl, hbw, hp⟩ := hrel
        have HBW := toHid hbw
        have HP := toHid hp
        clear hbw hp
        have HKW := toHid (HK9.out.trans (HBW.out.mono HK9.out.size))
        by_cases hlt : i < ll
        · have hil : (i : Int) < ll := by omega
          obtain ⟨b, off, ha, hb, hc⟩ := (HLA.out.below HBW.out).2.2 (by omega)
          subst ha
          obtain ⟨s, hs, hd⟩ := drop_get (L := GW) (i := i) (by have := HLL.out; omega)
          obtain ⟨_, d0⟩ := hc i s hs
          have HTK : Hid (GW.take (i + 1) = GW.take i ++ [s]) := by rw [List.take_add_one, hs]; exact toHid rfl
          have HC1 := toHid (HLO8.out wr HKW.out)
          clear hc hs hd
          go_wp2_with fail
          refine HC1.out.mono ?_
          rintro e w10 ⟨⟨oa, ol, oc, rfl, hoa⟩, k10⟩
          have HC2 := toHid (contains_strs GO oa ol oc s w10 hoa)
          have HBW2 := toHid (HBW.out.trans (k10.mono HBW.out.size))
          have HKW2 := toHid (HKW.out.trans (k10.mono HKW.out.size))
          clear hoa k10 HC1 d0
          generalize ht : hasS GO s = t at HC2
          have HTT := toHid ht
          clear ht
          go_wp2_with fail
          refine HC2.out.mono ?_
          rintro e w11 ⟨rfl, rfl⟩
          cases t with
          | false =>
            go_wp2_with fail
            go_ret
            exact ⟨rfl, HOUT.out _ HKW2.out⟩
          | true =>
            have HP2 : Hid (∀ s' ∈ GW.take (i + 1), hasS GO s' = true) := fun s' hs' => by
              rw [HTK.out] at hs'
              rcases List.mem_append.1 hs' with h | h
              · exact HP.out s' h
              · rw [List.mem_singleton.1 h]; exact HTT.out
            go_wp2_with fail
            go_roundg (ll - (i + 1))
            case measure => omega
            case rel => exact ⟨i + 1, by omega, Nat.le_refl _, by go_num, HBW2.out, HP2.out⟩
        · have hil : ¬ (i : Int) < ll := by omega
          have hin : i = ll := by omega
          subst hin
          obtain ⟨hm1, hm2⟩ := HMORE.out (fun s hs => HP.out s (by rw [List.take_of_length_le (by have := HLL.out; omega)]; exact hs))
          have HM1 := toHid hm1
          have hm3 : (zl : Int) ≤ tl := by rw [← HZL.out, HTL.out]; omega
          obtain ⟨w12, rfl⟩ : ∃ z, z = wr := ⟨_, rfl⟩
          obtain ⟨⟨x0, x1, hbl⟩, z0, z1, z2, hbl2⟩ := HXC.out w12 HKW.out
          have HVW : Hid (∀ W', Below w12.heap.size w12 W' → Below W8.heap.size W8 W') := fun W' k => HKW.out.trans (k.mono HKW.out.size)
          have HNN := toHid (HN8.out.below HKW.out)
          obtain ⟨N2, hN2, hp2⟩ := HNN.out
          have HN2L := toHid hN2.1
          have hmx2 := hN2.2.1
          have HN2 := toHid hN2
          have HP2 := toHid hp2
          clear hm1 hm2 hN2 hp2 HMORE HP HLA HN8
          go_wp2_with fail
          clear x0 x1 hbl z0 z1 z2 hbl2
          go_loopg [75] yl (fun g s75 wr => ∃ j : Nat, j ≤ yl ∧ yl - j ≤ g ∧ s75 = .int .i64 j ∧ Below w12.heap.size w12 wr)
          case atStart => exact ⟨0, Nat.zero_le _, by omega, rfl, Below.refl _ _⟩
          case round =>
            obtain ⟨j, hj, hg2, rfl, hbw2⟩ := hrel
            have HBW2 := toHid hbw2
            clear hbw2
            by_cases hlt2 : j < yl
            · have hjl : (j : Int) < yl := by omega
              obtain ⟨b, off, ha, hb, hc⟩ := (HN2.out.below HBW2.out).2.2 (by omega)
              subst ha
              obtain ⟨y, hy, hd⟩ := drop_get (L := N2) (i := j) (by have := HN2L.out; omega)
              obtain ⟨d0, d1, d2⟩ := hc j y hy
              obtain ⟨X, hX, hyx⟩ := HP2.out.left hy
              have HAX : Hid (hasA ZN y.id = true) := by rw [hyx.1]; exact toHid (HM1.out X (List.mem_of_getElem? hX))
              have k13 : Below wr.heap.size wr (wr.alloc (.cells #[.int .i64 y.id, .slice y.la y.ll y.lc, .slice y.pa y.pl y.pc] 51)) := (Below.refl _ _).alloc (Nat.le_refl _) _
              have HB13 := toHid (HBW2.out.trans (k13.mono HBW2.out.size))
              have h13 := alloc_new wr (.cells #[.int .i64 y.id, .slice y.la y.ll y.lc, .slice y.pa y.pl y.pc] 51)
              have HY13 := toHid h13
              clear hc hy hd hX hyx k13 h13
              go_upto_region 20 with fail
              generalize wr.alloc (.cells #[.int .i64 y.id, .slice y.la y.ll y.lc, .slice y.pa y.pl y.pc] 51) = W13 at HB13 HY13 ⊢
              generalize wr.heap.size = by2 at HY13 ⊢
              obtain ⟨_, z0, z1, z2, hbl2⟩ := HXC.out W13 (HVW.out _ HB13.out)
              have y0 := cell_of HY13.out 0
              simp at y0
              have hbl := lt_block HY13.out
              have HC1 := toHid (nodeAt_ptr (HV8.out.below (HVW.out _ HB13.out)) zc ta tl tc nx y.id)
              rw [HAX.out] at HC1
              clear d0 d1 d2
              go_wp2_with fail
              refine HC1.out.mono ?_
              rintro e w14 ⟨⟨pp, rfl⟩, k14⟩
              have HB14 := toHid (HB13.out.trans (k14.mono HB13.out.size))
              clear k14 HC1 z0 z1 z2 hbl2 y0 hbl HY13
              go_wp2_with fail
              go_roundg (yl - (j + 1))
              case measure => omega
              case rel => exact ⟨j + 1, by omega, Nat.le_refl _, by go_num, HB14.out⟩
            · have hjl : ¬ (j : Int) < yl := by omega
              obtain ⟨⟨x0, x1, hbl⟩, z0, z1, z2, hbl2⟩ := HXC.out wr (HVW.out _ HBW2.out)
              go_wp2_with fail
              go_ret
              exact ⟨rfl, HOUT.out _ (HVW.out _ HBW2.out)⟩
end Go.Proofs.YthikpmngcbgbfaaDoor
