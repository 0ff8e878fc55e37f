/-
  What is proved here: what the texts BRef, BFresh, BTally1, BOf1, BTal0 prove, in one text.
-/
import Derived.Test.YtbjkpbeijkmoeaaGreatDoorQBAJ
import Derived.Test.YtbjkpbeijkmoeaaGreatDoorQBAH
import Derived.Deep.AppendLies
namespace Go.Proofs.YtbjkpbeijkmoeaaGreatDoor
open Go.RowKit
set_option linter.unusedVariables false

set_option linter.unusedSimpArgs false

theorem cmpP_self (k n : Int) (s : ByteArray) : cmpP k n s k n s = 0 := by
  have h := ordT_self (.node k n s [])
  unfold ordT at h
  split at h
  · assumption
  · exact h

set_option maxHeartbeats 4000000 in
set_option maxRecDepth 100000 in
theorem compareRows_ref (L L' : List T) (a : Option Addr) (l c : Nat) (a' : Option Addr) (l' c' : Nat) (w : World) (hL : LiesS w L a l) (hL' : LiesS w L' a' l') (hw : wtL L ≤ 1099511627776) (hw' : wtL L' ≤ 1099511627776) :
    Calls Tryz.prog 26 #[.slice a l c, .slice a' l' c'] w fun e w' => e = .returned (.int .i64 (ordL L L')) ∧ Below w.heap.size w w' := by
  have e : ordL L L' = ordT (.node 4 0 ⟨#[]⟩ L) (.node 4 0 ⟨#[]⟩ L') := by
    show _ = ordT _ _
    unfold ordT
    rw [if_pos (cmpP_self _ _ _)]
  have HC : Hid (∀ W, Below w.heap.size w W → Calls Tryz.prog 45 #[.agg #[.int .i64 4, .int .i64 0, .string ⟨#[]⟩, .slice a l c], .agg #[.int .i64 4, .int .i64 0, .string ⟨#[]⟩, .slice a' l' c']] W fun e w' => e = .returned (.int .i64 (ordL L L')) ∧ Below W.heap.size W w') := fun W k => by
    rw [e]
    exact ref_ord63 (wtL L) 4 0 ⟨#[]⟩ a l c L 4 0 ⟨#[]⟩ a' l' c' L' W (Nat.le_refl _) (by omega) (by omega) (LiesS.below k _ _ _ hL) (LiesS.below k _ _ _ hL')
  generalize ordL L L' = z at HC ⊢
  clear hL hL' hw hw' e
  go_enter Tryz.func26, Tryz.ntmps26
  go_wp2_with fail
  refine (HC.out _ (Below.refl _ _)).mono ?_
  rintro e w1 ⟨rfl, k1⟩
  have HB := toHid k1
  clear k1
  go_wp2_with fail
  go_ret
  exact ⟨rfl, HB.out⟩

set_option maxHeartbeats 8000000 in
set_option maxRecDepth 100000 in
theorem checkBag_ref (M : List (Ct × Int)) (a : Option Addr) (l c : Nat) (w0 w : World) (hM : BagIn w0 M a l) (k0 : Below w0.heap.size w0 w) :
    Calls Tryz.prog 13 #[.slice a l c] w fun e w' => e = .returned (.int .i64 (bagE M)) ∧ Below w.heap.size w w' := by
  have HM := toHid hM
  have HK := toHid k0
  have hln : l = M.length := by have := hM.at'.1; rw [List.length_map] at this; exact this
  have hmx : l ≤ 1000000 := hM.at'.2.1
  obtain ⟨R, hR⟩ : ∃ R, R = bagE M := ⟨_, rfl⟩
  rw [← hR]
  unfold bagE at hR
  rw [← hln] at hR
  have HL := toHid hln
  clear hM k0 hln
  by_cases hb : 2000 < l
  · rw [if_pos hb] at hR
    have HR := toHid hR
    clear hR
    have hb' : (2000 : Int) < l := by omega
    go_enter Tryz.func13, Tryz.ntmps13
    go_wp2_with fail
    go_ret
    exact ⟨ret_int HR.out.symm, Below.refl _ _⟩
  · rw [if_neg hb] at hR
    have HR := toHid (show R = cntE (ahead M 0) (M.drop 0) from hR)
    clear hR
    have hb' : ¬ ((2000 : Int) < l) := by omega
    go_enter Tryz.func13, Tryz.ntmps13
    go_wp2_with fail
    go_loopg [13] l (fun g s13 wr => ∃ i : Nat, i ≤ l ∧ l - i ≤ g ∧ s13 = .int .i64 i ∧ R = cntE (ahead M i) (M.drop i) ∧ (∀ p, ahead M i = some p → wtL p.L ≤ 1099511627776) ∧ Below w.heap.size w wr)
    case atStart => exact ⟨0, Nat.zero_le _, by omega, rfl, HR.out, (fun p hp => nomatch hp), Below.refl _ _⟩
    case round =>
      clear HR
      obtain ⟨i, hi, hg, rfl, hre, hwp, hbw⟩ := hrel
      have HRE := toHid hre
      have HBW := toHid hbw
      have HWP := toHid hwp
      clear hre hbw hwp
      by_cases hlt : i < l
      · have hil : (i : Int) < l := by omega
        obtain ⟨⟨x, e⟩, hx⟩ : ∃ y, M[i]? = some y := ⟨M[i]'(by have := HL.out; omega), List.getElem?_eq_getElem _⟩
        obtain ⟨b, off, rfl, hbl, hc⟩ := HM.out.at'.2.2 (by omega)
        obtain ⟨c0, c1⟩ := hc i x (by rw [List.getElem?_map, hx]; rfl)
        obtain ⟨hlx, es, hvs, hee, hwx⟩ := HM.out.rows x e (List.mem_of_getElem? hx)
        have HB0 := toHid (HK.out.trans (HBW.out.mono HK.out.size))
        have d0 := (HB0.out.cell (p := ⟨b, off + i * 2, none⟩) hbl).trans c0
        have d1 := (HB0.out.cell (p := ⟨b, off + i * 2 + 1, none⟩) hbl).trans c1
        have HA := toHid (HBW.out.alloc HBW.out.size (cObj x))
        have HA0 := toHid (HB0.out.alloc HB0.out.size (cObj x))
        have HX := toHid (alloc_new wr (cObj x))
        have HE := toHid (HRE.out.trans (cntE_drop hx))
        have HLX := toHid hlx
        have HWX := toHid hwx
        have HMX := toHid hx
        have hvl := hvs.1
        have hvm := hvs.2.1
        have HVS := toHid hvs
        unfold rowErr at hee
        rw [hvl] at hee
        clear c0 c1 hvs hlx hwx HRE hx
        go_upto_region 6 with fail
        generalize wr.alloc (cObj x) = Wp at HA HA0 HX ⊢
        generalize wr.heap.size = bx at HX ⊢
        have x0 := cell_of HX.out 0
        simp at x0
        have hbx := blkB_lt HX.out
        clear d0 d1 HB0 HBW
        obtain ⟨xn, xa, xl, xc, xL⟩ := x
        dsimp only at hvl hvm hee HVS HWX HLX HX HE x0 ⊢
        by_cases h30 : 30 < xl
        · rw [if_pos h30] at hee
          have h30' : (30 : Int) < xl := by omega
          rw [if_pos (by rw [hee]; decide), hee] at HE
          clear hee
          go_wp2_with fail
          go_ret
          exact ⟨ret_int HE.out.symm, HA.out⟩
        · rw [if_neg h30] at hee
          have h30' : ¬ ((30 : Int) < xl) := by omega
          have HEE := toHid (show e = firstE (es.drop 0) from hee)
          clear hee
          have hlb := h30
          go_wp2_with fail
          go_loopg [25] xl (fun g s25 wq => ∃ t : Nat, t ≤ xl ∧ xl - t ≤ g ∧ s25 = .int .i64 t ∧ e = firstE (es.drop t) ∧ Below Wp.heap.size Wp wq)
          case atStart => exact ⟨0, Nat.zero_le _, by omega, rfl, HEE.out, Below.refl _ _⟩
          case round =>
            clear HEE
            obtain ⟨t, ht, hgt, rfl, hte, hbq⟩ := hrel
            have HTE := toHid hte
            have HBQ := toHid hbq
            clear hte hbq
            by_cases htl : t < xl
            · have htl' : (t : Int) < xl := by omega
              obtain ⟨e1, he1⟩ : ∃ e1, es[t]? = some e1 := ⟨es[t]'(by omega), List.getElem?_eq_getElem _⟩
              obtain ⟨b1, off1, rfl, hb1, k, n, s, a', l', c', p0, p1, p2, p3, hvb⟩ := HVS.out.2.2 t e1 he1
              have HQ0 := toHid (HA0.out.trans (HBQ.out.mono HA0.out.size))
              have q0 := (HQ0.out.cell (p := ⟨b1, off1 + t * 4, none⟩) hb1).trans p0
              have q1 := (HQ0.out.cell (p := ⟨b1, off1 + t * 4 + 1, none⟩) hb1).trans p1
              have q2 := (HQ0.out.cell (p := ⟨b1, off1 + t * 4 + 1 + 1, none⟩) hb1).trans p2
              have q3 := (HQ0.out.cell (p := ⟨b1, off1 + t * 4 + 1 + 1 + 1, none⟩) hb1).trans p3
              have HF := toHid (HTE.out.trans (firstE_drop he1))
              have HA1 := toHid (HBQ.out.alloc HBQ.out.size (vObj k n s a' l' c'))
              have HC := toHid (hvb _ (HQ0.out.alloc HQ0.out.size (vObj k n s a' l' c'))).2
              clear p0 p1 p2 p3 hvb hb1 he1 HTE
              go_wp2_with fail
              refine HC.out.mono ?_
              rintro e' w1 ⟨rfl, k1⟩
              have HB1 := toHid (HA1.out.trans (k1.mono HA1.out.size))
              clear k1 q0 q1 q2 q3
              by_cases hz : e1 = 0
              · have hz' : (e1 != 0) = false := by simp [hz]
                have HZ := toHid hz
                clear hz
                go_wp2_with fail
                go_roundg (xl - (t + 1))
                case measure => omega
                case rel =>
                  refine ⟨t + 1, by omega, Nat.le_refl _, by go_num, ?_, HB1.out⟩
                  rw [HF.out, if_pos HZ.out]
              · have hz' : (e1 != 0) = true := by simp [hz]
                have hee : e = e1 := by rw [HF.out, if_neg hz]
                rw [hee, if_pos hz] at HE
                clear hz hee
                have HBf := toHid (HA.out.trans (HB1.out.mono HA.out.size))
                go_wp2_with fail
                go_ret
                exact ⟨ret_int HE.out.symm, HBf.out⟩
            · have hee : e = 0 := by
                rw [HTE.out, List.drop_eq_nil_of_le (by omega)]
                rfl
              have hteq : ¬ ((t : Int) < xl) := by omega
              have HWX2 := toHid (HWX.out hee)
              rw [if_neg (by simp [hee])] at HE
              have HBu := toHid (HA.out.trans (HBQ.out.mono HA.out.size))
              have HXu := toHid ((HBQ.out.block _ hbx).trans HX.out)
              clear hee HWX HTE x0 hbx HX HA HA0 HBQ
              have x0 := cell_of HXu.out 0
              have x1 := cell_of HXu.out 1
              simp at x0 x1
              have hbx := blkB_lt HXu.out
              obtain ⟨bd, hbd⟩ : ∃ bd, bd = badC (ahead M i) ⟨xn, xa, xl, xc, xL⟩ := ⟨_, rfl⟩
              rw [← hbd] at HE
              have HBD := toHid hbd
              clear hbd
              go_upto_region 15 with fail
              go_cut [53] (fun s53 wx => s53 = .bool bd ∧ Below wr.heap.size wr wx)
              case first =>
                by_cases hn : xn = 0
                · have hn0 : (xn == 0) = true := by simp [hn]
                  have hbd : bd = true := by rw [HBD.out]; simp [badC, hn0]
                  subst hbd
                  clear HBD hn
                  go_quiet (fail)
                  go_wp2_with fail
                  go_meet
                  exact ⟨rfl, drewB _ _⟩
                · have hn0 : (xn == 0) = false := by simp [hn]
                  rcases Nat.eq_zero_or_pos i with h0 | h0
                  · subst h0
                    have hbd : bd = false := by rw [HBD.out]; simp [badC, hn0, ahead]
                    subst hbd
                    clear HBD hn
                    go_quiet (fail)
                    go_wp2_with fail
                    go_meet
                    exact ⟨rfl, drewB _ _⟩
                  · obtain ⟨m, hm⟩ : ∃ m, i = m + 1 := ⟨i - 1, by omega⟩
                    have HMI := toHid hm
                    obtain ⟨⟨p, e2⟩, hp⟩ : ∃ y, M[m]? = some y := ⟨M[m]'(by have := HL.out; omega), List.getElem?_eq_getElem _⟩
                    have hbd : bd = decide (0 ≤ ordL p.L xL) := by rw [HBD.out, hm]; simp [badC, hn0, ahead, hp]
                    have hpw : wtL p.L ≤ 1099511627776 := HWP.out p (by rw [hm]; simp [ahead, hp])
                    have r0 := (hc m p (by rw [List.getElem?_map, hp]; rfl)).1
                    have HB0u := toHid (HK.out.trans (HBu.out.mono HK.out.size))
                    have q0 := (HB0u.out.cell (p := ⟨b, off + m * 2, none⟩) hbl).trans r0
                    have HC : Hid (∀ W', Below wr.heap.size wr W' → Calls Tryz.prog 26 #[.slice p.a p.l p.c, .slice xa xl xc] W' fun e w' => e = .returned (.int .i64 (ordL p.L xL)) ∧ Below W'.heap.size W' w') := fun W' k => by
                      have hb1 := HB0u.out.trans (k.mono HB0u.out.size)
                      exact compareRows_ref p.L xL p.a p.l p.c xa xl xc W' (LiesS.below hb1 _ _ _ (HM.out.rows p e2 (List.mem_of_getElem? hp)).1) (LiesS.below hb1 _ _ _ HLX.out) hpw HWX2.out
                    generalize ordL p.L xL = z at HC hbd
                    have HBDz := toHid hbd
                    clear hbd HBD hp hpw r0 hn hc
                    have hwr : wrap64 ((i : Int) - 1) = (m : Int) := by unfold wrap64; omega
                    have hml : (m : Int) < (l : Int) := by omega
                    have hml2 : m < l := by omega
                    have hml3 : (0 : Int) ≤ (m : Int) := by omega
                    have hwr3 : IntKind.i64.wrap ((i : Int) - 1) = (m : Int) := by rw [IntKind.wrap_i64]; omega
                    have D0 : Below wr.heap.size wr wr.drew := (Below.refl _ _).drew
                    have hbu : b < wr.heap.size := Nat.lt_of_lt_of_le hbl HB0u.out.size
                    have hpos : (0 : Int) < (i : Int) := by omega
                    clear hm
                    go_region_held3 (fun W' => (W'.cell? ⟨b, off + m * 2, none⟩ = some (.slice p.a p.l p.c) ∧ W'.cell? ⟨bx, 0, none⟩ = some (.slice xa xl xc) ∧ W'.cell? ⟨bx, 1, none⟩ = some (.int .i64 xn)))
                      (first
                        | exact ⟨q0, x0, x1⟩
                        | exact ⟨(kc.cell (p := ⟨b, off + m * 2, none⟩) hbu).trans q0, (kc.cell (p := ⟨bx, 0, none⟩) hbx).trans x0, (kc.cell (p := ⟨bx, 1, none⟩) hbx).trans x1⟩
                        | go_keep)
                      (first
                        | (go_at_call 26; go_fit (HC.out _ D0); rintro e uc ⟨rfl, kd⟩; have kc : Below wr.heap.size wr uc := D0.trans (kd.mono (Nat.le_refl _))))
                    all_goals
                      go_wp2_with fail
                      go_meet
                      exact ⟨by rw [HBDz.out], kc⟩
              case rest =>
                obtain ⟨rfl, kc⟩ := hcut
                have HBc := toHid (HBu.out.trans (kc.mono HBu.out.size))
                have y1 := (kc.cell (p := ⟨bx, 1, none⟩) hbx).trans x1
                have HBC := toHid (Nat.lt_of_lt_of_le hbx kc.size)
                clear x0 x1 kc HBD
                cases bd with
                | true =>
                  rw [if_pos rfl] at HE
                  go_wp2_with fail
                  go_ret
                  exact ⟨ret_int HE.out.symm, HBc.out⟩
                | false =>
                  rw [if_neg (by simp)] at HE
                  have hbc : bx < wc.heap.size := HBC.out
                  by_cases h1 : 1099511627776 < xn
                  · rw [if_pos (.inl h1)] at HE
                    go_wp2_with fail
                    go_ret
                    exact ⟨ret_int HE.out.symm, HBc.out⟩
                  · by_cases h2 : xn < -1099511627776
                    · rw [if_pos (.inr h2)] at HE
                      go_wp2_with fail
                      go_ret
                      exact ⟨ret_int HE.out.symm, HBc.out⟩
                    · rw [if_neg (by omega)] at HE
                      go_wp2_with fail
                      go_roundg (l - (i + 1))
                      case measure => omega
                      case rel =>
                        refine ⟨i + 1, by omega, Nat.le_refl _, by go_num, HE.out, fun p hp => ?_, HBc.out⟩
                        have e1 : ahead M (i + 1) = some ⟨xn, xa, xl, xc, xL⟩ := by simp [ahead, HMX.out]
                        rw [e1] at hp
                        injection hp with hp
                        rw [← hp]
                        exact HWX2.out
      · have he : i = l := by omega
        subst he
        have hr0 : R = 0 := by
          rw [HRE.out, List.drop_eq_nil_of_le (by have := HL.out; omega)]
          cases ahead M i <;> rfl
        have HR0 := toHid hr0
        clear hr0
        go_wp2_with fail
        go_ret
        exact ⟨ret_int HR0.out.symm, HBW.out⟩

set_option linter.unusedSimpArgs false

/-- The same count, its row in blocks of this kind. -/
def CtNew (A : Nat → Prop) (w : World) (y x : Ct) : Prop := y.n = x.n ∧ y.L = x.L ∧ y.l = x.l ∧ y.l ≤ y.c ∧ LieA A w x.L y.a y.l

theorem CtNew.kept {A A' : Nat → Prop} {w w' : World} {y x : Ct} (h : CtNew A w y x) (k : Keep A A' w w') : CtNew A' w' y x :=
  ⟨h.1, h.2.1, h.2.2.1, h.2.2.2.1, LieA.kept k.1 k.2 _ _ _ h.2.2.2.2⟩

set_option maxHeartbeats 4000000 in
set_option maxRecDepth 100000 in
theorem count_any (x : Ct) (w : World) (hL : LiesS w x.L x.a x.l) (hw : wtL x.L ≤ 1099511627776) :
    Calls Tryz.prog 86 #[.agg #[.slice x.a x.l x.c, .int .i64 x.n]] w fun e w' => (∃ y : Ct, e = .returned (.agg #[.slice y.a y.l y.c, .int .i64 y.n]) ∧ CtNew (fun i => w.heap.size ≤ i) w' y x) ∧ Below w.heap.size w w' := by
  have HV : Hid (∀ W, Below w.heap.size w W → Calls Tryz.prog 121 #[.slice x.a x.l x.c] W fun e w' => ValsEnd W w' x.L x.l e ∧ Below W.heap.size W w') := fun W kW => values_any x.L x.a x.l x.c W (hL.below kW) hw
  clear hL hw
  have b0 : Below w.heap.size w ((w.alloc (cObj x)).alloc (.cells #[.slice none 0 0, .int .i64 0] 32)) := ((Below.refl _ _).alloc (Nat.le_refl _) _).alloc (by simp) _
  have hx := (Below.heap_alloc (w.alloc (cObj x)) (.cells #[.slice none 0 0, .int .i64 0] 32) w.heap.size (by simp)).trans (alloc_new w (cObj x))
  have hy := alloc_two w (cObj x) (.cells #[.slice none 0 0, .int .i64 0] 32)
  have z0 : ((w.alloc (cObj x)).alloc (.cells #[.slice none 0 0, .int .i64 0] 32)).heap.size = w.heap.size + 2 := by simp
  have HB := toHid b0
  have HX := toHid hx
  have HY := toHid hy
  have HZ := toHid z0
  clear b0 hx hy z0
  go_enter Tryz.func86, Tryz.ntmps86
  go_wp2_with fail
  refine (HV.out _ HB.out).mono ?_
  generalize (w.alloc (cObj x)).alloc (.cells #[.slice none 0 0, .int .i64 0] 32) = W at HB HX HY HZ ⊢
  rintro e w1 ⟨⟨a', c', rfl, hlc, hL⟩, k1⟩
  have s1 : w.heap.size + 2 ≤ w1.heap.size := by have := k1.size; rw [HZ.out] at this; exact this
  have c1 := HB.out.trans (k1.mono HB.out.size)
  have hv1 := (k1.block w.heap.size (by rw [HZ.out]; omega)).trans HX.out
  have hr1 := (k1.block (w.heap.size + 1) (by rw [HZ.out]; omega)).trans HY.out
  have x0 := cell_of hv1 0
  have f0 := free_of hv1 0
  simp at x0
  have hlt : w.heap.size < w1.heap.size := by omega
  obtain ⟨X, hX⟩ : ∃ X, X = w1.setCell ⟨w.heap.size, 0, none⟩ (.slice a' x.l c') := ⟨_, rfl⟩
  have hXp : X = putL w1 w.heap.size 0 [.slice a' x.l c'] := hX
  have hvX : X.heap[w.heap.size]? = some (.cells #[.slice a' x.l c', .int .i64 x.n] 32 (0, 0)) := by rw [hXp, putL_here _ _ _ _ hv1]; rfl
  have hrX : X.heap[w.heap.size + 1]? = some (.cells #[.slice none 0 0, .int .i64 0] 32 (0, 0)) := by rw [hXp, putL_other _ _ _ _ _ (by omega)]; exact hr1
  have hLX : LieA (fun i => w.heap.size + 2 ≤ i) X x.L a' x.l := by
    rw [hXp]
    exact LieA.kept (by rw [putL_size]; exact Nat.le_refl _) (fun i hi _ => ⟨by have := HZ.out; omega, putL_other _ _ _ _ i (by have := HZ.out; omega)⟩) _ _ _ hL
  have hcX : Below w.heap.size w X := by rw [hXp]; exact c1.trans (putL_bel _ _ _ _)
  have hsX : w.heap.size + 2 ≤ X.heap.size := by rw [hXp, putL_size]; exact s1
  have hXs : w1.setCell ⟨w.heap.size, 0, none⟩ (.slice a' x.l c') = X := hX.symm
  have HRX := toHid hrX
  have HLX := toHid hLX
  have HCX := toHid hcX
  have q0 := cell_of hvX 0
  have q1 := cell_of hvX 1
  have r0 := cell_of hrX 0
  have r1 := cell_of hrX 1
  have g0 := free_of hrX 0
  have g1 := free_of hrX 1
  simp at q0 q1 r0 r1
  clear hX hXp hvX hrX hLX hcX hv1 hr1 k1 c1 hL
  go_wp2_with fail
  have eP : ∀ X : World, (X.setCell ⟨w.heap.size + 1, 0, none⟩ (.slice a' x.l c')).setCell ⟨w.heap.size + 1, 1, none⟩ (.int .i64 x.n) = putL X (w.heap.size + 1) 0 [.slice a' x.l c', .int .i64 x.n] := fun _ => rfl
  rw [eP]
  have E := putL_here [.slice a' x.l c', .int .i64 x.n] 0 X _ HRX.out
  have hbb : Below w.heap.size w (putL X (w.heap.size + 1) 0 [.slice a' x.l c', .int .i64 x.n]) := HCX.out.trans ((putL_bel (w.heap.size + 1) _ _ X).mono (by omega))
  have hLL : LieA (fun i => w.heap.size ≤ i) (putL X (w.heap.size + 1) 0 [.slice a' x.l c', .int .i64 x.n]) x.L a' x.l := LieA.kept (by rw [putL_size]; exact Nat.le_refl _) (fun i hi h2 => ⟨by omega, putL_other _ _ _ _ i (by omega)⟩) _ _ _ HLX.out
  generalize putL X (w.heap.size + 1) 0 [.slice a' x.l c', .int .i64 x.n] = Y at E hbb hLL ⊢
  have t0 := cell_of E 0
  have t1 := cell_of E 1
  simp [setL] at t0 t1
  refine bodyPost_ret (v := .agg #[.slice a' x.l c', .int .i64 x.n]) (by simp [results, Tryz.results86, go_sem, t0, t1]) rfl ⟨⟨⟨x.n, a', x.l, c', x.L⟩, rfl, rfl, rfl, rfl, hlc, hLL⟩, hbb⟩

/-- Counts in a row of the call's own, their rows beside. -/
def CtsNew (B : Nat) (w : World) (X : List Ct) (v : Value) : Prop := ∃ P, w.ownsRow B 32 2 v P.length (ctRow P) ∧ Pair2 (CtNew (fun i => B ≤ i ∧ v.ownBlock ≠ some i) w) P X

set_option maxHeartbeats 4000000 in
set_option maxRecDepth 100000 in
theorem each_counts (X : List Ct) (a : Option Addr) (l c : Nat) (w : World) (h : CtsAt w X a l) (hok : ∀ x ∈ X, LiesS w x.L x.a x.l ∧ wtL x.L ≤ 1099511627776) :
    Calls Tryz.prog 85 #[.slice a l c, .func (.func 86) #[] #[]] w fun e w' => (∃ v, e = .returned v ∧ CtsNew w.heap.size w' X v) ∧ Below w.heap.size w w' := by
  obtain ⟨hl0, hmx, hat⟩ := h
  have HAT := toHid hat
  have HL := toHid hl0
  have HOK := toHid hok
  clear hat hl0 hok
  obtain ⟨i0, hi0, hiz, his, hib⟩ := ct_info
  have HI0 := toHid hi0
  have HIZ := toHid hiz
  have HIS := toHid his
  have HIB := toHid hib
  clear hi0 hiz his hib
  go_enter Tryz.func85, Tryz.ntmps85
  go_wp2_with fail
  go_loopg [5, 10] l (fun g s5 s10 wr => ∃ (i : Nat) (P : List Ct) (ov : Value), i ≤ l ∧ l - i ≤ g ∧ ov = s5 ∧ s10 = .int .i64 i ∧ P.length = i ∧ wr.ownsRow w.heap.size 32 2 ov i (ctRow P) ∧ Below w.heap.size w wr ∧ Pair2 (CtNew (fun j => w.heap.size ≤ j ∧ ov.ownBlock ≠ some j) wr) P (X.take i))
  case atStart => exact ⟨0, [], .slice none 0 0, Nat.zero_le _, by omega, rfl, rfl, rfl, World.ownsRow_nil _ _ _ _, Below.refl _ _, Pair2.nil⟩
  case round =>
    obtain ⟨i, P, ov, hi, hg, rfl, rfl, hPl, hown, hbw, hpr⟩ := hrel
    have HOWN := toHid hown
    have HPR := toHid hpr
    have HPL := toHid hPl
    clear hown hpr hPl
    by_cases hlt : i < l
    · obtain ⟨b, off, ha, hb, hc⟩ := HAT.out (by omega)
      subst ha
      obtain ⟨x, hx, _⟩ := drop_get (L := X) (i := i) (by have := HL.out; omega)
      have HY := toHid hx
      have HXO := toHid (HOK.out x (List.mem_of_getElem? hx))
      obtain ⟨c0, c1⟩ := hc i x hx
      have d0 := (hbw.cell (p := ⟨b, off + i * 2, none⟩) hb).trans c0
      have d1 := (hbw.cell (p := ⟨b, off + i * 2 + 1, none⟩) hb).trans c1
      clear hc hx c0 c1
      have hil : (i : Int) < l := by omega
      have hz : w.heap.size ≤ wr.heap.size := hbw.size
      have HONE : Hid (∀ W, Below w.heap.size w W → Calls Tryz.prog 86 #[.agg #[.slice x.a x.l x.c, .int .i64 x.n]] W fun e w' => (∃ y : Ct, e = .returned (.agg #[.slice y.a y.l y.c, .int .i64 y.n]) ∧ CtNew (fun i => W.heap.size ≤ i) w' y x) ∧ Below W.heap.size W w') := fun W kW => count_any x W (LiesS.below kW _ _ _ HXO.out.1) HXO.out.2
      go_wp2_with fail
      refine (HONE.out _ (hbw.alloc hz _)).mono ?_
      have hbw1 : Below wr.heap.size wr (wr.alloc (cObj x)) := (Below.refl _ _).alloc (Nat.le_refl _) _
      have hz1 : (wr.alloc (cObj x)).heap.size = wr.heap.size + 1 := by simp
      generalize wr.alloc (cObj x) = W1 at hbw1 hz1 ⊢
      rintro e w2 ⟨⟨y', rfl, hin⟩, k2⟩
      have hs2 : wr.heap.size + 1 ≤ w2.heap.size := by have := k2.size; omega
      have kb2 : Below wr.heap.size wr w2 := hbw1.trans (k2.mono hbw1.size)
      have HIN := toHid hin
      have HKB2 := toHid kb2
      have HZ1 := toHid hz1
      have HB2 := toHid (hbw.trans (kb2.mono hz))
      have hlv : ∀ g, ov.ownBlock = some g → g < wr.heap.size := fun g hg => (rowLt HOWN.out hg).2
      have HLV := toHid hlv
      have OWN2 := toHid (rowK1 HOWN.out (w' := w2) (fun g hg => kb2.block g (hlv g hg)))
      clear hin kb2 hz1 hbw1 k2 hlv d0 d1 HONE HXO
      have HBy : (i + 1) * 32 ≤ 140737488355328 := by omega
      have HBm : i + 1 ≤ maxLen := by unfold maxLen; omega
      go_wp2_with (at_builtin; refine wpList_append_lies _ rfl _ _ 23 rfl w.heap.size 32 i0 _ 2 32 Tryz.underlying23 HI0.out HIZ.out HIS.out HIB.out rfl (by omega) ov i (ctRow P) rfl (OWN2.out.alloc _) ⟨w2.heap.size, 0, none⟩ 1 1 [.slice y'.a y'.l y'.c, .int .i64 y'.n] rfl rfl (World.news_of_block (cs := #[.slice y'.a y'.l y'.c, .int .i64 y'.n]) (t := 32) (fr := (0, 0)) (alloc_new w2 _)) (by simp [Value.oneCell']) (by omega) HBm HBy (by simp; omega) (w2.heap.size + 1) (by simp) ?_)
      intro gg cap w5 hown5 hgrow hat5 hlt5
      have hb6 : Below w.heap.size w w5 := (HB2.out.alloc (by omega) _).grown hgrow (by simp; omega) (fun j hj => (rowLt HOWN.out hj).1)
      have hsame : ∀ j, j < w2.heap.size → ov.ownBlock ≠ some j → w5.heap[j]? = w2.heap[j]? := fun j hj hn => (hgrow.block j (by simp; omega) (fun e => hn e.symm)).trans (Below.heap_alloc w2 _ j hj)
      have hsz5 : w2.heap.size ≤ w5.heap.size := Nat.le_trans (by simp) hgrow.size
      have hgg : ∀ j, j < w2.heap.size → ov.ownBlock ≠ some j → (Value.slice (some ⟨gg, 0, none⟩) (i + 1) cap).ownBlock ≠ some j := by
        intro j hj hn he
        have e1 : gg = j := by simpa [Value.ownBlock] using he
        rcases hat5 with h5 | h5
        · rw [e1] at h5; exact hn h5
        · omega
      have HPR5 : Hid (Pair2 (CtNew (fun j => w.heap.size ≤ j ∧ (Value.slice (some ⟨gg, 0, none⟩) (i + 1) cap).ownBlock ≠ some j) w5) (P ++ [y']) (X.take (i + 1))) := by
        have e1 : X.take (i + 1) = X.take i ++ [x] := by rw [List.take_add_one, HY.out]; rfl
        rw [e1]
        refine (HPR.out.mono fun p x _ _ hp => hp.kept ⟨by have := HKB2.out.size; omega, fun j hj hjl => ⟨⟨hj.1, hgg j (by omega) hj.2⟩, (hsame j (by omega) hj.2).trans (HKB2.out.block j hjl)⟩⟩).snoc (HIN.out.kept ⟨hsz5, fun j hj hjl => ?_⟩)
        have hj' : wr.heap.size + 1 ≤ j := by have := HZ1.out; omega
        have hn : ov.ownBlock ≠ some j := fun e => by have := HLV.out j e; omega
        exact ⟨⟨by omega, hgg j hjl hn⟩, hsame j hjl hn⟩
      have HOWN5 : Hid (w5.ownsRow w.heap.size 32 2 (.slice (some ⟨gg, 0, none⟩) (i + 1) cap) (i + 1) (ctRow (P ++ [y']))) := by
        rw [ctRow_snoc]
        exact hown5
      clear hown5 hgrow hat5 hlt5 hsame hsz5 hgg
      go_wp2_with fail
      go_roundg (l - (i + 1))
      case measure => omega
      case rel => exact ⟨i + 1, P ++ [y'], .slice (some ⟨gg, 0, none⟩) (i + 1) cap, by omega, by omega, rfl, by go_num, by rw [List.length_append, List.length_singleton, HPL.out], HOWN5.out, hb6, HPR5.out⟩
    · have hil : i = l := by omega
      subst hil
      have HFIN : Hid (CtsNew w.heap.size wr X ov) := by
        refine ⟨P, ?_, ?_⟩
        · rw [HPL.out]
          exact HOWN.out
        · have := HPR.out
          rw [List.take_of_length_le (by rw [← HL.out]; exact Nat.le_refl _)] at this
          exact this
      clear HPR HOWN
      go_wp2_with fail
      go_ret
      exact ⟨⟨ov, rfl, HFIN.out⟩, hbw⟩

set_option maxHeartbeats 4000000 in
set_option maxRecDepth 100000 in
theorem freshBag_any (X : List Ct) (a : Option Addr) (l c : Nat) (w : World) (h : CtsAt w X a l) (hok : ∀ x ∈ X, LiesS w x.L x.a x.l ∧ wtL x.L ≤ 1099511627776) :
    Calls Tryz.prog 58 #[.slice a l c] w fun e w' => (∃ v, e = .returned v ∧ CtsNew w.heap.size w' X v) ∧ Below w.heap.size w w' := by
  have HE := toHid (each_counts X a l c w h hok)
  clear h hok
  go_enter Tryz.func58, Tryz.ntmps58
  go_wp2_with fail
  refine HE.out.mono ?_
  rintro e w1 ⟨⟨v, rfl, hv⟩, k1⟩
  have HV := toHid hv
  have HB := toHid k1
  clear k1 hv
  go_wp2_with fail
  go_ret
  exact ⟨⟨v, rfl, HV.out⟩, HB.out⟩

set_option linter.unusedSimpArgs false

/-- The memory of the counter: the box, the counts, their rows. -/
structure TInv (T0 bo : Nat) (M : List Ct) (W : World) (v : Value) : Prop where
  box : W.heap[bo]? = some (.cells #[v] 24 (0, 0))
  row : W.ownsRow T0 32 2 v M.length (ctRow M)
  nbo : v.ownBlock ≠ some bo
  rows : ∀ x ∈ M, LieA (fun i => i ≠ bo ∧ v.ownBlock ≠ some i) W x.L x.a x.l

/-- What the counter leaves as it was. -/
structure TStep (bo : Nat) (v v' : Value) (W w' : World) : Prop where
  os : w'.os = W.os
  tape : w'.tape = W.tape
  output : w'.output = W.output
  size : W.heap.size ≤ w'.heap.size
  block : ∀ k, k < W.heap.size → k ≠ bo → v.ownBlock ≠ some k → w'.heap[k]? = W.heap[k]?
  own : ∀ g, v'.ownBlock = some g → v.ownBlock = some g ∨ W.heap.size ≤ g

theorem TStep.refl (bo : Nat) (v : Value) (W : World) : TStep bo v v W W := ⟨rfl, rfl, rfl, Nat.le_refl _, fun _ _ _ _ => rfl, fun _ h => .inl h⟩

theorem TStep.trans {bo : Nat} {v v1 v2 : Value} {W w1 w2 : World} (h : TStep bo v v1 W w1) (k : TStep bo v1 v2 w1 w2) : TStep bo v v2 W w2 where
  os := k.os.trans h.os
  tape := k.tape.trans h.tape
  output := k.output.trans h.output
  size := Nat.le_trans h.size k.size
  block := fun j hj hb hv => (k.block j (Nat.lt_of_lt_of_le hj h.size) hb (fun e => (h.own j e).elim hv (by omega))).trans (h.block j hj hb hv)
  own := fun g hg => (k.own g hg).elim (h.own g) (fun e => .inr (Nat.le_trans h.size e))

/-- What is only added to is a step too. -/
theorem TStep.below {bo : Nat} {v : Value} {W w' : World} (k : Below W.heap.size W w') : TStep bo v v W w' := ⟨k.os, k.tape, k.output, k.size, fun j hj _ _ => k.block j hj, fun _ h => .inl h⟩

theorem TInv.below {T0 bo : Nat} {M : List Ct} {W w' : World} {v : Value} (h : TInv T0 bo M W v) (k : Below W.heap.size W w') : TInv T0 bo M w' v where
  box := (k.block bo (blkB_lt h.box)).trans h.box
  row := rowK1 h.row fun g hg => k.block g (rowLt h.row hg).2
  nbo := h.nbo
  rows := fun x hx => LieA.kept k.size (fun i hi hl => ⟨hi, k.block i hl⟩) _ _ _ (h.rows x hx)

theorem TStep.toBelow {T0 bo : Nat} {v v' : Value} {W w' : World} (h : TStep bo v v' W w') (hT : T0 ≤ bo) (hv : ∀ g, v.ownBlock = some g → T0 ≤ g) (hs : T0 ≤ W.heap.size) : Below T0 W w' :=
  ⟨h.os, h.tape, h.output, h.size, fun k hk => h.block k (by omega) (by omega) (fun e => by have := hv k e; omega)⟩

theorem set_oneB {X : World} {b : Nat} {t : TypeId} {v : Value} (hb : X.heap[b]? = some (.cells #[v] t (0, 0))) (v' : Value) : (X.setCell ⟨b, 0, none⟩ v').heap[b]? = some (.cells #[v'] t (0, 0)) := by
  have := putL_here [v'] 0 X #[v] hb
  exact this

set_option maxHeartbeats 4000000 in
set_option maxRecDepth 100000 in
theorem tally1_any (T0 bo : Nat) (M : List Ct) (x : Ct) (X : World) (v : Value) (hT : T0 ≤ X.heap.size) (h : TInv T0 bo M X v) (hl : M.length ≤ 900000) (hx : LieA (fun i => i ≠ bo ∧ v.ownBlock ≠ some i) X x.L x.a x.l) :
    Calls Tryz.prog 53 #[.slice x.a x.l x.c, .int .i64 x.n, .pointer (some ⟨bo, 0, none⟩)] X fun e w' => e = .returned (.tuple #[]) ∧ ∃ v', TInv T0 bo (M ++ [x]) w' v' ∧ TStep bo v v' X w' := by
  obtain ⟨i0, hi0, hz0, hs0, hb0⟩ := ct_info
  have y0 := cell_of h.box 0
  simp at y0
  have hbox := blkB_lt h.box
  have H := toHid h
  have HX := toHid hx
  have HB2 : Hid (Below X.heap.size X (X.alloc (cObj x))) := (Below.refl _ _).alloc (Nat.le_refl _) _
  have HN := toHid (alloc_new X (cObj x))
  obtain ⟨n, hn⟩ : ∃ n, n = M.length := ⟨_, rfl⟩
  have HNN := toHid hn
  have HOWN : Hid ((X.alloc (cObj x)).ownsRow T0 32 2 v n (ctRow M)) := hn ▸ rowK1 h.row fun g hg => HB2.out.block g (rowLt h.row hg).2
  have hnl : n ≤ 900000 := by omega
  clear h hn hl hx
  go_enter Tryz.func53, Tryz.ntmps53
  go_wp2_with (at_builtin; (refine wpList_append_both _ (by rfl) _ _ _ (by rfl) T0 32 i0 _ 2 32 Tryz.underlying24 hi0 hz0 hs0 hb0 rfl (by omega) v n (ctRow M) (by rfl) HOWN.out (some ⟨X.heap.size, 0, none⟩) 1 1 [.slice x.a x.l x.c, .int .i64 x.n] (by rfl) (by rfl) (fun j u hu => ⟨_, rfl, World.news_of_block (cs := #[.slice x.a x.l x.c, .int .i64 x.n]) (t := 32) (fr := (0, 0)) HN.out j u hu⟩) (by simp [Value.oneCell']) (by unfold maxLen; omega) (by omega) (Nat.le_trans hT HB2.out.size) ?_; intro v' w1 hown1 hgrow hob; have hbo1 : w1.heap[bo]? = some (.cells #[v] 24 (0, 0)) := (hgrow.block bo (Nat.lt_of_lt_of_le (blkB_lt H.out.box) HB2.out.size) (fun e => H.out.nbo e.symm)).trans ((HB2.out.block bo (blkB_lt H.out.box)).trans H.out.box); have r0 := cell_of hbo1 0; have f0 := free_of hbo1 0; simp at r0; obtain ⟨gg, cc, rfl, _, _⟩ := hown1.form (by omega)))
  generalize Value.slice (some ⟨gg, 0, none⟩) (n + 1) cc = v' at hown1 hob ⊢
  have hsz : X.heap.size ≤ w1.heap.size := Nat.le_trans HB2.out.size hgrow.size
  have hox : ∀ j, j ≠ bo → (w1.setCell ⟨bo, 0, none⟩ v').heap[j]? = w1.heap[j]? := fun j hj => Below.heap_setCell _ _ _ j hj
  have hnew : ∀ g, v'.ownBlock = some g → v.ownBlock = some g ∨ X.heap.size ≤ g := fun g hg => by
    rcases hob with h | h
    · exact .inl (h ▸ hg)
    · rw [h] at hg
      injection hg with e
      exact .inr (by rw [← e]; exact HB2.out.size)
  have hvo : v'.ownBlock ≠ some bo := fun e => by
    rcases hnew _ e with h | h
    · exact H.out.nbo h
    · omega
  have hst : TStep bo v v' X (w1.setCell ⟨bo, 0, none⟩ v') := by
    refine ⟨hgrow.os.trans HB2.out.os, hgrow.tape.trans HB2.out.tape, hgrow.output.trans HB2.out.output, by simpa using hsz, fun k hk h1 hn => ?_, hnew⟩
    rw [hox k h1]
    exact (hgrow.block k (Nat.lt_of_lt_of_le hk HB2.out.size) (fun e => hn e.symm)).trans (HB2.out.block k hk)
  have hkeep : ∀ i, (i ≠ bo ∧ v.ownBlock ≠ some i) → i < X.heap.size → (i ≠ bo ∧ v'.ownBlock ≠ some i) ∧ (w1.setCell ⟨bo, 0, none⟩ v').heap[i]? = X.heap[i]? := fun i hi hl => ⟨⟨hi.1, fun e => (hnew i e).elim hi.2 (by omega)⟩, hst.block i hl hi.1 hi.2⟩
  have hp : TInv T0 bo (M ++ [x]) (w1.setCell ⟨bo, 0, none⟩ v') v' := by
    refine ⟨set_oneB hbo1 v', ?_, hvo, fun y hy => ?_⟩
    · rw [ctRow_snoc, List.length_append, List.length_singleton, ← HNN.out]
      exact rowK1 hown1 fun g hg => hox g fun e => hvo (e ▸ hg)
    · rcases List.mem_append.1 hy with hy | hy
      · exact LieA.kept hst.size hkeep _ _ _ (H.out.rows y hy)
      · have : y = x := by simpa using hy
        subst this
        exact LieA.kept hst.size hkeep _ _ _ HX.out
  have HP := toHid hp
  have HR := toHid hst
  clear hp hst hnew hox hvo hkeep hown1 hgrow hob hbo1
  go_end0
  exact ⟨rfl, v', HP.out, HR.out⟩

set_option linter.unusedSimpArgs false

/-- Rows that may be read; each is to be counted once. -/
def RowsAt (A : Nat → Prop) (w : World) (X : List Ct) (a : Option Addr) (l : Nat) : Prop := l = X.length ∧ l ≤ 900000 ∧ (∀ x ∈ X, x.n = 1) ∧ (0 < l → ∃ b off, a = some ⟨b, off, none⟩ ∧ A b ∧ b < w.heap.size ∧ ∀ i x, X[i]? = some x → w.cell? ⟨b, off + i, none⟩ = some (.slice x.a x.l x.c))

set_option maxHeartbeats 4000000 in
set_option maxRecDepth 100000 in
theorem of1_any (T0 bo br : Nat) (X : List Ct) (a : Option Addr) (l c : Nat) (w : World) (hT : T0 ≤ w.heap.size) (hbr : br < T0) (hbo : T0 ≤ bo) (hbx : w.heap[br]? = some (.cells #[.slice a l c] 22 (0, 0))) (hX : RowsAt (fun i => i < T0) w X a l) (hL : ∀ x ∈ X, LieA (fun i => i < T0) w x.L x.a x.l) (h : TInv T0 bo [] w (.slice none 0 0)) :
    Calls Tryz.prog 23 #[.func (.func 53) #[] #[.pointer (some ⟨bo, 0, none⟩)], .pointer (some ⟨br, 0, none⟩)] w fun e w' => e = .returned (.tuple #[]) ∧ ∃ v', TInv T0 bo X w' v' ∧ TStep bo (.slice none 0 0) v' w w' := by
  have HX := toHid hX
  have HL := toHid hL
  have H := toHid h
  have y0 := cell_of hbx 0
  simp at y0
  have HL0 := toHid hX.1
  have hmx : l ≤ 900000 := hX.2.1
  have HBX := toHid hbx
  clear hX hL h hbx
  go_enter Tryz.func23, Tryz.ntmps23
  go_wp2_with fail
  go_loopg [7] l (fun g s7 wr => ∃ (i : Nat) (v : Value), i ≤ l ∧ l - i ≤ g ∧ s7 = .int .i64 i ∧ TInv T0 bo (X.take i) wr v ∧ TStep bo (.slice none 0 0) v w wr)
  case atStart => exact ⟨0, _, Nat.zero_le _, by omega, rfl, H.out, TStep.refl _ _ _⟩
  case round =>
    obtain ⟨i, v, hi, hg, rfl, hinv, hst⟩ := hrel
    have HI := toHid hinv
    have HS := toHid hst
    clear hinv hst
    by_cases hlt : i < l
    · have hil : (i : Int) < l := by omega
      obtain ⟨x, hx, _⟩ := drop_get (L := X) (i := i) (by have := HL0.out; omega)
      obtain ⟨b, off, rfl, hA, hb, hc⟩ := HX.out.2.2.2 (by omega)
      have hbel : Below T0 w wr := HS.out.toBelow hbo (fun g hg => by cases hg) hT
      have d0 := (hbel.cell (p := ⟨b, off + i, none⟩) hA).trans (hc i x hx)
      have hvo : ∀ k, k < T0 → k ≠ bo ∧ v.ownBlock ≠ some k := fun k hk => ⟨by omega, fun e => by have := (rowLt HI.out.row e).1; omega⟩
      have hLx : LieA (fun k => k ≠ bo ∧ v.ownBlock ≠ some k) wr x.L x.a x.l := LieA.kept HS.out.size (fun k hk _ => ⟨hvo k hk, hbel.block k hk⟩) _ _ _ (HL.out x (List.mem_of_getElem? hx))
      have hone : x.n = 1 := HX.out.2.2.1 x (List.mem_of_getElem? hx)
      have hc1 := tally1_any T0 bo (X.take i) x wr v (Nat.le_trans hT HS.out.size) HI.out (by rw [List.length_take]; omega) hLx
      rw [hone] at hc1
      have HC := toHid hc1
      have HTK : Hid (X.take (i + 1) = X.take i ++ [x]) := by
        show _ = _
        rw [List.take_add_one, hx]
        rfl
      clear hc hx hLx hvo hc1 hbel hone
      go_wp2_with fail
      refine HC.out.mono ?_
      rintro e w1 ⟨rfl, v1, hi1, hs1⟩
      have HI1 := toHid hi1
      have HS1 := toHid (HS.out.trans hs1)
      clear hi1 hs1 d0
      go_wp2_with fail
      go_roundg (l - (i + 1))
      case measure => omega
      case rel =>
        refine ⟨i + 1, v1, by omega, Nat.le_refl _, by go_num, ?_, HS1.out⟩
        rw [HTK.out]
        exact HI1.out
    · have he : i = l := by omega
      subst he
      have HTK : Hid (X.take i = X) := List.take_of_length_le (by have := HL0.out; omega)
      go_wp2_with fail
      go_end0
      refine ⟨rfl, v, ?_, HS.out⟩
      have h1 := HI.out
      rw [HTK.out] at h1
      exact h1

set_option linter.unusedSimpArgs false

/-- What was counted: these rows, each so often. -/
structure Good (Ls : List Cn) (M : List Ct) : Prop where
  cn : M.map Ct.cn = Ls
  ok : ∀ x ∈ M, InL x.L ∧ wtL x.L ≤ 1099511627776
  abs : absS M ≤ 2305843009213693952
  len : M.length ≤ 900000

/-- What is told of a row, wherever it lies. -/
def RowTold (L : List T) (e : Int) : Prop := ∃ (B : Nat) (w : World) (a : Option Addr) (l : Nat) (es : List Int), B ≤ w.heap.size ∧ Tabs B w ∧ InL L ∧ LiesS w L a l ∧ ValsAt w a l es ∧ e = rowErr es ∧ (firstE es = 0 ↔ ∀ t ∈ L, Ck 6 t) ∧ es = L.map (chk 6)

/-- What is told of a row that is right, and only of such: nothing. -/
theorem RowTold.zero {L : List T} {e : Int} (h : RowTold L e) : e = 0 ↔ L.length ≤ 30 ∧ ∀ t ∈ L, Ck 6 t := by
  obtain ⟨B, w, a, l, es, _, _, _, h1, h2, rfl, h3, _⟩ := h
  have hl : es.length = L.length := h2.1.trans h1.length.1
  unfold rowErr
  rw [hl]
  by_cases h30 : 30 < L.length
  · rw [if_pos h30]
    exact ⟨fun e => (by cases e), fun h => (by omega)⟩
  · rw [if_neg h30, h3]
    exact ⟨fun h => ⟨by omega, h⟩, fun h => h.2⟩

/-- What is told of a row, as a function of the row. -/
def rowTE (L : List T) : Int := rowErr (L.map (chk 6))

theorem RowTold.is {L : List T} {e : Int} (h : RowTold L e) : e = rowTE L := by
  obtain ⟨B, w, a, l, es, _, _, _, _, _, rfl, _, rfl⟩ := h
  rfl

theorem told_all (B : Nat) (w : World) (hB : B ≤ w.heap.size) (hT : Tabs B w) : ∀ F : List Ct, (∀ x ∈ F, LiesS w x.L x.a x.l ∧ InL x.L ∧ wtL x.L ≤ 1099511627776) → ∃ O : List (Ct × Int), O.map (·.1) = F ∧ (∀ x e, (x, e) ∈ O → LiesS w x.L x.a x.l ∧ ∃ es, ValsAt w x.a x.l es ∧ e = rowErr es ∧ (e = 0 → wtL x.L ≤ 1099511627776)) ∧ ∀ x e, (x, e) ∈ O → RowTold x.L e
  | [], _ => ⟨[], rfl, fun _ _ h => (by cases h), fun _ _ h => (by cases h)⟩
  | y :: F, h => by
    obtain ⟨O, h1, h2, h3⟩ := told_all B w hB hT F fun x hx => h x (List.mem_cons_of_mem _ hx)
    obtain ⟨hy, hi, hw⟩ := h y (List.mem_cons_self ..)
    obtain ⟨es, hv, hk⟩ := valsB_at B w hB hT y.L y.a y.l hi hy
    refine ⟨(y, rowErr es) :: O, by rw [List.map_cons, h1], fun x e hx => ?_, fun x e hx => ?_⟩
    · rcases List.mem_cons.1 hx with hx | hx
      · injection hx with e1 e2
        subst e1 e2
        exact ⟨hy, es, hv, rfl, fun _ => hw⟩
      · exact h2 x e hx
    · rcases List.mem_cons.1 hx with hx | hx
      · injection hx with e1 e2
        subst e1 e2
        exact ⟨B, w, _, _, es, hB, hT, hi, hy, hv, rfl, hk⟩
      · exact h3 x e hx

theorem absS_perm {A B : List Ct} (h : A.Perm B) : absS A = absS B := by
  induction h with
  | nil => rfl
  | cons x _ ih => show _ + _ = _ + _; rw [ih]
  | swap x y l => show _ + (_ + _) = _ + (_ + _); omega
  | trans _ _ h1 h2 => exact h1.trans h2

/-- Those that were counted, put together. -/
theorem tal_bag {Ls : List Cn} {M M2 : List Ct} (h : Good Ls M) (hp : M2.Perm M) (hs : M2.Pairwise fun x y => ordL x.L y.L ≤ 0) :
    IsBag (((tgCs M2).filter fun c => !(c.n == 0)).map Ct.cn) ∧ ∀ r, cnt (((tgCs M2).filter fun c => !(c.n == 0)).map Ct.cn) r = cnt Ls r := by
  have e : ((tgCs M2).filter fun c => !(c.n == 0)).map Ct.cn = (tgF (M2.map Ct.cn)).filter fun c => !(c.2 == 0) := by
    rw [← tgCs_cn, List.filter_map]
    rfl
  have hs2 : (M2.map Ct.cn).Pairwise fun x y => ordL x.1 y.1 ≤ 0 := List.pairwise_map.2 hs
  obtain ⟨h1, h2⟩ := tg_bag hs2
  rw [e]
  refine ⟨h1, fun r => (h2 r).trans ?_⟩
  rw [← h.cn]
  exact cnt_perm (hp.map Ct.cn) r

theorem tal_ok {P : Ct → Prop} (hP : ∀ p (n : Int), P p → P { p with n := n }) {M2 : List Ct} (h : ∀ x ∈ M2, P x) : ∀ x ∈ (tgCs M2).filter (fun c => !(c.n == 0)), P x := fun x hx => tgCs_mem hP M2 h [] (fun y hy => by cases hy) x (List.mem_filter.1 hx).1

/-- What tally answers. -/
def TalEnd (B : Nat) (w' : World) (Ls : List Cn) (e : Ending) : Prop := ∃ O : List (Ct × Int), IsBag (O.map fun y => y.1.cn) ∧ (∀ r, cnt (O.map fun y => y.1.cn) r = cnt Ls r) ∧ (∀ x e, (x, e) ∈ O → RowTold x.L e ∧ wtL x.L ≤ 1099511627776) ∧ ((bagE O ≠ 0 ∧ e = .returned (.tuple #[.slice none 0 0, .int .i64 (bagE O)])) ∨ (bagE O = 0 ∧ ∃ v, e = .returned (.tuple #[v, .int .i64 0]) ∧ CtsNew B w' (O.map (·.1)) v))
end Go.Proofs.YtbjkpbeijkmoeaaGreatDoor
