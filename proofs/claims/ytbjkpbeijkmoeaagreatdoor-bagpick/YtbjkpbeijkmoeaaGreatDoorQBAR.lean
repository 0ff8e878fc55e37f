/-
  What is proved here: what the texts FSym3, FStab prove, in one text.
-/
import Derived.Test.YtbjkpbeijkmoeaaGreatDoorQBAQ
import Derived.Deep.DeepCutAuto
namespace Go.Proofs.YtbjkpbeijkmoeaaGreatDoor
open Go.RowKit
set_option linter.unusedVariables false

set_option linter.unusedSimpArgs false

theorem RotR.noneF {α : Type} (D : List α) (s m e : Nat) (hsm : s ≤ m) (hme : m ≤ e) (h : ¬ (s < m ∧ m < e)) : RotR D D s m e := by
  refine ⟨rfl, fun _ _ => rfl, fun _ _ => rfl, fun t ht => ?_, fun t ht => ?_⟩
  · have : s = m := by omega
    rw [this]
  · have : e = m := by omega
    rw [this, Nat.sub_self, Nat.add_zero]

section
variable {α : Type} {key : α → Int} {g bl : Nat} {s0 s1 : Value} {St : List α → World → Prop}

/-- What a merge does. -/
def SymF (key : α → Int) (g bl : Nat) (s0 s1 : Value) (St : List α → World → Prop) (N : Nat) : Prop := ∀ (a m b : Nat) (D : List α) (w : World), b - a ≤ N → St D w → a < m → m < b → b ≤ D.length → D.length ≤ 1000000 → Ris key D a m → Ris key D m b →
    Calls Tryz.prog 97 #[dataV bl s0 s1, .int .i64 a, .int .i64 m, .int .i64 b] w fun e w' => e = .returned (.tuple #[]) ∧ ∃ E, MixS a b D E ∧ Ris key E a b ∧ St E w' ∧ Rg g w w'

set_option maxHeartbeats 8000000 in
set_option maxRecDepth 100000 in
theorem sym3F (O : SrtOk key g bl s0 s1 St) (N a m b : Nat) (D : List α) (w : World) (ih : SymF key g bl s0 s1 St N) (hN : b - a ≤ N + 1) (h : St D w) (ham : a + 2 ≤ m) (hmb : m + 2 ≤ b) (hb : b ≤ D.length) (hD : D.length ≤ 1000000) (hS1 : Ris key D a m) (hS2 : Ris key D m b) :
    Calls Tryz.prog 97 #[dataV bl s0 s1, .int .i64 a, .int .i64 m, .int .i64 b] w fun e w' => e = .returned (.tuple #[]) ∧ ∃ E, MixS a b D E ∧ Ris key E a b ∧ St E w' ∧ Rg g w w' := by
  have HO := toHid O
  have hg := O.lt D w h
  have H := toHid (O.grow D w (w.alloc (dataO bl s0 s1)) h ((Below.refl _ _).alloc (Nat.le_refl _) _))
  obtain ⟨w0, hw0⟩ : ∃ z, z = w.alloc (dataO bl s0 s1) := ⟨_, rfl⟩
  have e1 : ((m : Int) - (a : Int) == 1) = false := beq_eq_false_iff_ne.2 (by omega)
  have e2 : ((b : Int) - (m : Int) == 1) = false := beq_eq_false_iff_ne.2 (by omega)
  obtain ⟨mid, hmid⟩ : ∃ mid, mid = (a + b) / 2 := ⟨_, rfl⟩
  obtain ⟨n, hn⟩ : ∃ n, n = mid + m := ⟨_, rfl⟩
  obtain ⟨p, hp⟩ : ∃ p, p = n - 1 := ⟨_, rfl⟩
  obtain ⟨lo, hlo⟩ : ∃ lo, lo = if mid < m then n - b else a := ⟨_, rfl⟩
  obtain ⟨hi, hhi⟩ : ∃ hi, hi = if mid < m then mid else m := ⟨_, rfl⟩
  have hm2 : 2 * mid ≤ a + b ∧ a + b ≤ 2 * mid + 1 := by omega
  have hlh : a ≤ lo ∧ lo ≤ hi ∧ hi ≤ m ∧ hi ≤ mid ∧ n - lo ≤ b ∧ m ≤ n - hi ∧ lo ≤ n ∧ n ≤ 2000000 := by
    rw [hlo, hhi]
    split <;> omega
  have f1 : ((a : Int) + (b : Int)) / 2 = (mid : Int) := by omega
  have f2 : (mid : Int) + (m : Int) = (n : Int) := by omega
  have f3 : wrap64 ((n : Int) - 1) = (p : Int) := (IntWalk.wrap64_in _ ⟨by omega, by omega⟩).trans (by omega)
  have f3' : IntKind.i64.wrap ((n : Int) - 1) = (p : Int) := by rw [IntKind.wrap_i64]; omega
  have HS1 := toHid hS1
  have HS2 := toHid hS2
  have HMID := toHid hmid
  have HNN := toHid hn
  have HP := toHid hp
  have HLO := toHid hlo
  have HHI := toHid hhi
  have HLH := toHid hlh
  have HIH := toHid ih
  clear h hS1 hS2 hmid hn hp hlo hhi hlh ih hm2 O
  have F2 := toHid f2
  go_enter Tryz.func97, Tryz.ntmps97
  go_upto_if 106 with fail
  rw [← hw0]
  rw [← hw0] at H
  have HW0 := toHid hw0
  clear hw0
  go_cut [18, 19] (fun x18 x19 wx => x18 = .int .i64 lo ∧ x19 = .int .i64 hi ∧ wx = w0)
  case first =>
    as_aux_lemma =>
      by_cases hq : mid < m
      · have hqi : (mid : Int) < (m : Int) := by omega
        have g1 : lo = n - b := by rw [HLO.out, if_pos hq]
        have g2 : hi = mid := by rw [HHI.out, if_pos hq]
        have g3 : (n : Int) - (b : Int) = (lo : Int) := by have := HLH.out; have := HNN.out; have := HMID.out; omega
        have G3 := toHid g3
        have g4 : wrap64 ((n : Int) - (b : Int)) = (lo : Int) := (IntWalk.wrap64_in _ ⟨by omega, by omega⟩).trans g3
        clear g3
        go_wp2_with fail
        go_meet
        exact ⟨by first | rfl | rw [← G3.out] | rw [G3.out], by rw [g2], rfl⟩
      · have hqi : ¬ (mid : Int) < (m : Int) := by omega
        have g1 : lo = a := by rw [HLO.out, if_neg hq]
        have g2 : hi = m := by rw [HHI.out, if_neg hq]
        go_wp2_with fail
        go_meet
        exact ⟨by rw [g1], by rw [g2], rfl⟩
  case rest =>
  obtain ⟨rfl, rfl, hwc⟩ := hcut
  replace hwc := hwc.symm
  subst hwc
  go_wp2_with fail
  go_loopg [18, 19, 21] (hi - lo) (fun q x18 x19 x21 wr => ∃ (s r : Nat), lo ≤ s ∧ s ≤ r ∧ r ≤ hi ∧ r - s ≤ q ∧ x18 = .int .i64 s ∧ x19 = .int .i64 r ∧ (∀ c x y, lo ≤ c → c < s → D[c]? = some x → D[n - 1 - c]? = some y → key x ≤ key y) ∧ (∀ c x y, r ≤ c → c < hi → D[c]? = some x → D[n - 1 - c]? = some y → key y < key x) ∧ St D wr ∧ Rg g w0 wr)
  case atStart => exact ⟨lo, hi, Nat.le_refl _, HLH.out.2.1, Nat.le_refl _, Nat.le_refl _, rfl, rfl, fun c x y h1 h2 => by omega, fun c x y h1 h2 => by omega, H.out, Rg.refl _ _⟩
  case round =>
    obtain ⟨s, r, hls, hsr, hrh, hq, rfl, rfl, hbel, habv, hR, hk⟩ := hrel
    have HBEL := toHid hbel
    have HABV := toHid habv
    have HR := toHid hR
    have HK := toHid hk
    have hbx := box_kept (bl := bl) (s0 := s0) (s1 := s1) hg (by rw [← HW0.out]; exact hk)
    have x0 := cell_of hbx 0
    have x1 := cell_of hbx 1
    simp at x0 x1
    have hbl := blkF_lt hbx
    have HBX := toHid hbx
    clear hbel habv hR hk hbx
    by_cases hlt : s < r
    · obtain ⟨c, hcm⟩ : ∃ c, c = (s + r) / 2 := ⟨_, rfl⟩
      obtain ⟨d, hd⟩ : ∃ d, d = n - 1 - c := ⟨_, rfl⟩
      have hcs : ((s : Int) + (r : Int)) / 2 = (c : Int) := by omega
      have hic : s ≤ c := by omega
      have hcj : c < r := by omega
      have hlh := HLH.out
      have hnn := HNN.out
      have hpp := HP.out
      have hdm : m ≤ d ∧ d < b := by omega
      have hw4 : wrap64 ((p : Int) - (c : Int)) = (d : Int) := (IntWalk.wrap64_in _ ⟨by omega, by omega⟩).trans (by omega)
      have hw5 : IntKind.i64.wrap ((p : Int) - (c : Int)) = (d : Int) := by rw [IntKind.wrap_i64]; omega
      have hltI : (s : Int) < (r : Int) := by omega
      obtain ⟨x, hx⟩ : ∃ x, D[c]? = some x := ⟨_, List.getElem?_eq_getElem (by omega)⟩
      obtain ⟨y, hy⟩ : ∃ y, D[d]? = some y := ⟨_, List.getElem?_eq_getElem (by omega)⟩
      have Hx := toHid hx
      have Hy := toHid hy
      have hcl : (c : Int) < (D.length : Int) := by omega
      have hdl : (d : Int) < (D.length : Int) := by omega
      have HD := toHid hd
      have HCM := toHid hcm
      clear hcm hx hy hd hlh hnn hpp hdm
      have HL := toHid (HO.out.less D wr d c y x HR.out Hy.out Hx.out)
      go_wp2_with fail
      refine HL.out.mono ?_
      rintro e u1 ⟨rfl, k1⟩
      have HR2 := toHid (HO.out.grow D wr u1 HR.out k1)
      have HK2 := toHid (HK.out.trans (Rg.of_below k1))
      clear k1 x0 x1 hbl hw4 hw5
      have hlh := HLH.out
      have hnn := HNN.out
      have hd := HD.out
      by_cases hyx : key y < key x
      · rw [decide_eq_true hyx]
        have HYX := toHid hyx
        clear hyx hlh hnn hd
        go_wp2_with fail
        go_roundg (c - s)
        case measure => omega
        case rel =>
          refine ⟨s, c, hls, hic, by omega, Nat.le_refl _, rfl, rfl, HBEL.out, fun k u v h1 h2 hu hv => ?_, HR2.out, HK2.out⟩
          have h3 := HYX.out
          have hlh := HLH.out
          have hnn := HNN.out
          have hd := HD.out
          by_cases hkc : k = c
          · subst hkc
            rw [Hx.out] at hu
            rw [← hd, Hy.out] at hv
            injection hu with hu
            injection hv with hv
            subst hu hv
            exact h3
          · have h4 := HS1.out c k x u (by omega) (by omega) (by omega) Hx.out hu
            have h5 := HS2.out (n - 1 - k) d v y (by omega) (by omega) (by omega) hv Hy.out
            omega
      · rw [decide_eq_false hyx]
        have HYX := toHid hyx
        clear hyx hlh hnn hd
        go_wp2_with fail
        go_roundg (r - (c + 1))
        case measure => omega
        case rel =>
          refine ⟨c + 1, r, by omega, by omega, hrh, Nat.le_refl _, by go_num, rfl, fun k u v h1 h2 hu hv => ?_, HABV.out, HR2.out, HK2.out⟩
          have h3 := HYX.out
          have hlh := HLH.out
          have hnn := HNN.out
          have hd := HD.out
          by_cases hkc : k = c
          · subst hkc
            rw [Hx.out] at hu
            rw [← hd, Hy.out] at hv
            injection hu with hu
            injection hv with hv
            subst hu hv
            omega
          · have h4 := HS1.out k c u x (by omega) (by omega) (by omega) hu Hx.out
            have h5 := HS2.out d (n - 1 - k) y v (by omega) (by omega) (by omega) Hy.out hv
            omega
    · have hij' : r = s := by omega
      subst hij'
      have hltI : ¬ (r : Int) < (r : Int) := by omega
      obtain ⟨e, he⟩ : ∃ e, e = n - r := ⟨_, rfl⟩
      have hlh := HLH.out
      have hnn := HNN.out
      have hbnds : a ≤ r ∧ r ≤ m ∧ m ≤ e ∧ e ≤ b ∧ r ≤ mid ∧ mid ≤ e := by omega
      have hw4 : wrap64 ((n : Int) - (r : Int)) = (e : Int) := (IntWalk.wrap64_in _ ⟨by omega, by omega⟩).trans (by omega)
      have hw5 : (n : Int) - (r : Int) = (e : Int) := by omega
      have HW5 := toHid hw5
      have HMM : Hid (∀ D1, RotR D D1 r m e → a ≤ r ∧ r ≤ m ∧ m ≤ e ∧ e ≤ b ∧ r ≤ mid ∧ mid ≤ e ∧ Ris key D1 a r ∧ Ris key D1 r mid ∧ Ris key D1 mid e ∧ Ris key D1 e b ∧ Und key D1 a mid b) := fun D1 hrot =>
        merge_mid (by omega) (by omega) hb HS1.out HS2.out HMID.out HNN.out he (by rw [← HLO.out]; exact hls) (by rw [← HHI.out]; exact hrh) (by rw [← HLO.out]; exact HBEL.out) (by rw [← HHI.out]; exact HABV.out) hrot
      have HBD := toHid hbnds
      have HE := toHid he
      clear hlh hnn he hw4 hw5 hltI hbnds
      have hbd := HBD.out
      go_upto_region 39 with fail
      go_cut [22] (fun x wz => x = .int .i64 e ∧ wz = wr)
      case first =>
        as_aux_lemma =>
          go_wp2_with fail
          go_meet
          exact ⟨by rw [HW5.out], rfl⟩
      case rest =>
      obtain ⟨rfl, hwc⟩ := hcut
      replace hwc := hwc.symm
      subst hwc
      go_upto_region 40 with fail
      go_cut [145] (fun c wz => c = .bool (decide (r < m ∧ m < e)) ∧ wz = wr)
      case first =>
        as_aux_lemma =>
          by_cases hP : r < m
          · have hPi : (r : Int) < (m : Int) := by omega
            by_cases hQ : m < e
            · have hQi : (m : Int) < (e : Int) := by omega
              go_wp2_with fail
              go_meet
              exact ⟨congrArg Value.bool (decide_eq_true (p := r < m ∧ m < e) ⟨hP, hQ⟩).symm, rfl⟩
            · have hQi : ¬ (m : Int) < (e : Int) := by omega
              go_wp2_with fail
              go_meet
              exact ⟨congrArg Value.bool (decide_eq_false (p := r < m ∧ m < e) (fun h => hQ h.2)).symm, rfl⟩
          · have hPi : ¬ (r : Int) < (m : Int) := by omega
            go_wp2_with fail
            go_meet
            exact ⟨congrArg Value.bool (decide_eq_false (p := r < m ∧ m < e) (fun h => hP h.1)).symm, rfl⟩
      case rest =>
      obtain ⟨rfl, hwc⟩ := hcut
      replace hwc := hwc.symm
      subst hwc
      go_upto_if 145 with fail
      go_cut [] (fun wq => ∃ D1, RotR D D1 r m e ∧ St D1 wq ∧ Rg g w0 wq)
      case first =>
        as_aux_lemma =>
          by_cases hpq : r < m ∧ m < e
          · rw [decide_eq_true hpq]
            go_wp2_with fail
            refine (rotateF HO.out r m e D wr HR.out hpq.1 hpq.2 (by omega) hD).mono ?_
            rintro e' w1 ⟨rfl, D1, hrot, hR1, k1⟩
            have HX := toHid hrot
            have HR1 := toHid hR1
            have HK1 := toHid (HK.out.trans k1)
            clear hrot hR1 k1
            go_wp2_with fail
            go_meet
            exact ⟨D1, HX.out, HR1.out, HK1.out⟩
          · rw [decide_eq_false hpq]
            go_wp2_with fail
            go_meet
            exact ⟨D, RotR.noneF D r m e hbd.2.1 hbd.2.2.1 hpq, HR.out, HK.out⟩
      case rest =>
      obtain ⟨D1, hrot, hR1, hk1⟩ := hcut
      have hl1 : D1.length = D.length := hrot.len
      obtain ⟨_, _, _, _, _, _, r1, r2, r3, r4, hu⟩ := HMM.out D1 hrot
      have HMX := toHid (hrot.mix hbd.2.1 hbd.2.2.1 (by omega))
      have HR1 := toHid hR1
      have HK1 := toHid hk1
      have HR1' := toHid r1
      have HR2' := toHid r2
      have HR3' := toHid r3
      have HR4' := toHid r4
      have HU := toHid hu
      have HL1 := toHid hl1
      clear hrot hR1 hk1 r1 r2 r3 r4 hu hl1 HR HK HBEL HABV HBX x0 x1 hbl
      have hbx1 := box_kept (bl := bl) (s0 := s0) (s1 := s1) hg (by rw [← HW0.out]; exact HK1.out)
      have x0 := cell_of hbx1 0
      have x1 := cell_of hbx1 1
      simp at x0 x1
      have hbl := blkF_lt hbx1
      clear hbx1
      generalize wc = w1 at *
      go_upto_region 42 with fail
      go_cut [158] (fun c wz => c = .bool (decide (a < r ∧ r < mid)) ∧ wz = w1)
      case first =>
        as_aux_lemma =>
          by_cases hP : a < r
          · have hPi : (a : Int) < (r : Int) := by omega
            by_cases hQ : r < mid
            · have hQi : (r : Int) < (mid : Int) := by omega
              go_wp2_with fail
              go_meet
              exact ⟨congrArg Value.bool (decide_eq_true (p := a < r ∧ r < mid) ⟨hP, hQ⟩).symm, rfl⟩
            · have hQi : ¬ (r : Int) < (mid : Int) := by omega
              go_wp2_with fail
              go_meet
              exact ⟨congrArg Value.bool (decide_eq_false (p := a < r ∧ r < mid) (fun h => hQ h.2)).symm, rfl⟩
          · have hPi : ¬ (a : Int) < (r : Int) := by omega
            go_wp2_with fail
            go_meet
            exact ⟨congrArg Value.bool (decide_eq_false (p := a < r ∧ r < mid) (fun h => hP h.1)).symm, rfl⟩
      case rest =>
      obtain ⟨rfl, hwc⟩ := hcut
      replace hwc := hwc.symm
      subst hwc
      go_upto_if 158 with fail
      go_cut [] (fun wq => ∃ D2, MixS a mid D1 D2 ∧ Ris key D2 a mid ∧ St D2 wq ∧ Rg g w0 wq)
      case first =>
        as_aux_lemma =>
          by_cases hpq : a < r ∧ r < mid
          · rw [decide_eq_true hpq]
            have HI := HIH.out a r mid D1 w1 (by omega) HR1.out hpq.1 hpq.2 (by have := HL1.out; omega) (by have := HL1.out; omega) HR1'.out HR2'.out
            have HI' := toHid HI
            clear HI
            go_wp2_with fail
            refine HI'.out.mono ?_
            rintro e' w2 ⟨rfl, D2, hm2, hs2, hR2, k2⟩
            have HX := toHid hm2
            have HY := toHid hs2
            have HR2 := toHid hR2
            have HK2 := toHid (HK1.out.trans k2)
            clear hm2 hs2 hR2 k2
            go_wp2_with fail
            go_meet
            exact ⟨D2, HX.out, HY.out, HR2.out, HK2.out⟩
          · rw [decide_eq_false hpq]
            go_wp2_with fail
            go_meet
            refine ⟨D1, MixS.refl _ _ _, ?_, HR1.out, HK1.out⟩
            by_cases hra : r = a
            · have := HR2'.out
              rw [hra] at this
              exact this
            · have : r = mid := by omega
              rw [← this]
              exact HR1'.out
      case rest =>
      obtain ⟨D2, hm2, hs2, hR2, hk2⟩ := hcut
      have HX := toHid hm2
      have HY := toHid hs2
      have HR2 := toHid hR2
      have HK2 := toHid hk2
      have HL2 := toHid (hm2.1.trans HL1.out)
      have HR3 := toHid (HR3'.out.behind hm2 (Nat.le_refl _))
      have HR4 := toHid (HR4'.out.behind hm2 (by omega))
      clear hm2 hs2 hR2 hk2 HR1 HK1 HR1' HR2' HR3' HR4'
      clear x0 x1 hbl
      have hbx2 := box_kept (bl := bl) (s0 := s0) (s1 := s1) hg (by rw [← HW0.out]; exact HK2.out)
      have x0 := cell_of hbx2 0
      have x1 := cell_of hbx2 1
      simp at x0 x1
      have hbl := blkF_lt hbx2
      clear hbx2
      generalize wc = w2 at *
      go_upto_region 44 with fail
      go_cut [171] (fun c wz => c = .bool (decide (mid < e ∧ e < b)) ∧ wz = w2)
      case first =>
        as_aux_lemma =>
          by_cases hP : mid < e
          · have hPi : (mid : Int) < (e : Int) := by omega
            by_cases hQ : e < b
            · have hQi : (e : Int) < (b : Int) := by omega
              go_wp2_with fail
              go_meet
              exact ⟨congrArg Value.bool (decide_eq_true (p := mid < e ∧ e < b) ⟨hP, hQ⟩).symm, rfl⟩
            · have hQi : ¬ (e : Int) < (b : Int) := by omega
              go_wp2_with fail
              go_meet
              exact ⟨congrArg Value.bool (decide_eq_false (p := mid < e ∧ e < b) (fun h => hQ h.2)).symm, rfl⟩
          · have hPi : ¬ (mid : Int) < (e : Int) := by omega
            go_wp2_with fail
            go_meet
            exact ⟨congrArg Value.bool (decide_eq_false (p := mid < e ∧ e < b) (fun h => hP h.1)).symm, rfl⟩
      case rest =>
      obtain ⟨rfl, hwc⟩ := hcut
      replace hwc := hwc.symm
      subst hwc
      by_cases hpq : mid < e ∧ e < b
      · rw [decide_eq_true hpq]
        have HI := HIH.out mid e b D2 w2 (by omega) HR2.out hpq.1 hpq.2 (by have := HL2.out; omega) (by have := HL2.out; omega) HR3.out HR4.out
        have HI' := toHid HI
        clear HI
        go_wp2_with fail
        refine HI'.out.mono ?_
        rintro e' w3 ⟨rfl, D3, hm3, hs3, hR3, k3⟩
        have hend := merge_end (key := key) hbd.1 hbd.2.2.2.2.1 hbd.2.2.2.2.2 hbd.2.2.2.1 HU.out HX.out HY.out hm3 hs3
        have HEND := toHid hend
        have HR3x := toHid hR3
        have HK3 := toHid (box_rg (by rw [← HW0.out]; exact HK2.out.trans k3))
        clear hm3 hs3 hR3 k3 hend
        go_wp2_with fail
        go_end0
        exact ⟨rfl, D3, (HMX.out.wide hbd.1 hbd.2.2.2.1).trans HEND.out.2, HEND.out.1, HR3x.out, HK3.out⟩
      · rw [decide_eq_false hpq]
        have hs3 : Ris key D2 mid b := by
          by_cases hme : e = mid
          · have := HR4.out
            rw [hme] at this
            exact this
          · have : e = b := by omega
            have h3 := HR3.out
            rw [this] at h3
            exact h3
        have HEND := toHid (merge_end (key := key) hbd.1 hbd.2.2.2.2.1 hbd.2.2.2.2.2 hbd.2.2.2.1 HU.out HX.out HY.out (MixS.refl _ _ _) hs3)
        clear hs3
        go_wp2_with fail
        go_end0
        exact ⟨rfl, D2, (HMX.out.wide hbd.1 hbd.2.2.2.1).trans HEND.out.2, HEND.out.1, HR2.out, box_rg (by rw [← HW0.out]; exact HK2.out)⟩

/-- sort's merge in place. -/
theorem symF (O : SrtOk key g bl s0 s1 St) : ∀ N, SymF key g bl s0 s1 St N := by
  intro N
  induction N with
  | zero => intro a m b D w h1 _ h2 h3; omega
  | succ N ih =>
    intro a m b D w hN hR ham hmb hb hD hS1 hS2
    by_cases h1 : m = a + 1
    · exact sym1F O a m b D w hR h1 hmb hb hD hS2
    · by_cases h2 : b = m + 1
      · exact sym2F O a m b D w hR (by omega) h2 hb hD hS1
      · exact sym3F O N a m b D w ih hN hR (by omega) (by omega) hb hD hS1 hS2
end

set_option linter.unusedSimpArgs false

section
variable {α : Type} {key : α → Int} {g bl : Nat} {s0 s1 : Value} {St : List α → World → Prop}

/-- From a place on, blocks of s rise each. -/
def BlkAF (key : α → Int) (E : List α) (s n frm : Nat) : Prop := ∀ u, s ∣ u → frm ≤ u → u < n → Ris key E u (min (u + s) n)

/-- Up to a place, blocks of s rise each. -/
def BlkTF (key : α → Int) (E : List α) (s lim : Nat) : Prop := ∀ u, s ∣ u → u < lim → Ris key E u (u + s)

theorem dvd_stepF {s u a : Nat} (hs : 0 < s) (hu : s ∣ u) (ha : s ∣ a) (h : u < a) : u + s ≤ a := by
  obtain ⟨p, rfl⟩ := hu
  obtain ⟨q, rfl⟩ := ha
  have : p < q := Nat.lt_of_mul_lt_mul_left h
  have h2 : s * (p + 1) ≤ s * q := Nat.mul_le_mul_left s this
  rw [Nat.mul_add, Nat.mul_one] at h2
  exact h2

theorem BlkTF.mix {E E' : List α} {s a b : Nat} (hs : 0 < s) (h : BlkTF key E s a) (ha : s ∣ a) (k : MixS a b E E') : BlkTF key E' s a := fun u hu hl => (h u hu hl).before k (dvd_stepF hs hu ha hl)

theorem BlkTF.more {E : List α} {s a : Nat} (hs : 0 < s) (h : BlkTF key E s a) (ha : s ∣ a) (r : Ris key E a (a + s)) : BlkTF key E s (a + s) := fun u hu hl => by
  by_cases h1 : u < a
  · exact h u hu h1
  · have h2 : ¬ a < u := fun h3 => by
      have := dvd_stepF hs ha hu h3
      omega
    have : u = a := by omega
    subst this
    exact r

/-- The last block. -/
theorem BlkTF.all {E : List α} {s a n : Nat} (hs : 0 < s) (h : BlkTF key E s a) (ha : s ∣ a) (hn : n < a + s) (han : a ≤ n) (r : Ris key E a n) : BlkAF key E s n 0 := fun u hu _ hl => by
  by_cases h1 : u < a
  · have := dvd_stepF hs hu ha h1
    rw [Nat.min_eq_left (by omega)]
    exact h u hu h1
  · have h2 : ¬ a < u := fun h3 => by
      have := dvd_stepF hs ha hu h3
      omega
    have : u = a := by omega
    subst this
    rw [Nat.min_eq_right (by omega)]
    exact r

theorem BlkAF.mix {E E' : List α} {s n a b : Nat} (h : BlkAF key E s n a) (hab : a ≤ b) (k : MixS a b E E') : BlkAF key E' s n b := fun u hu hl hn => (h u hu (by omega) hn).behind k hl

set_option maxHeartbeats 8000000 in
set_option maxRecDepth 100000 in
theorem stableF (O : SrtOk key g bl s0 s1 St) (D : List α) (w : World) (h : St D w) (hD : D.length ≤ 1000000) :
    Calls Tryz.prog 61 #[dataV bl s0 s1, .int .i64 D.length] w fun e w' => e = .returned (.tuple #[]) ∧ ∃ E, MixS 0 D.length D E ∧ Ris key E 0 D.length ∧ St E w' ∧ Rg g w w' := by
  have hg := O.lt D w h
  have H := toHid (O.grow D w (w.alloc (dataO bl s0 s1)) h ((Below.refl _ _).alloc (Nat.le_refl _) _))
  obtain ⟨n, hn⟩ : ∃ n, n = D.length := ⟨_, rfl⟩
  have HBOX : Hid (∀ wr, Rg g (w.alloc (dataO bl s0 s1)) wr → wr.cell? ⟨w.heap.size, 0, none⟩ = some (lessV bl) ∧ wr.cell? ⟨w.heap.size, 1, none⟩ = some (swapV s0 s1) ∧ w.heap.size < wr.heap.size) := fun wr k => ⟨cell_of (box_kept hg k) 0, cell_of (box_kept hg k) 1, blkF_lt (box_kept hg k)⟩
  have HFIN : Hid (∀ wr, Rg g (w.alloc (dataO bl s0 s1)) wr → Rg g w wr) := fun wr k => box_rg k
  have HIN : Hid (∀ (E : List α) (wr : World) (a b : Nat), E.length = D.length → St E wr → Rg g (w.alloc (dataO bl s0 s1)) wr → a ≤ b → b ≤ n → Calls Tryz.prog 96 #[dataV bl s0 s1, .int .i64 a, .int .i64 b] wr fun e w' => e = .returned (.tuple #[]) ∧ ∃ E', MixS a b E E' ∧ Ris key E' a b ∧ St E' w' ∧ Rg g (w.alloc (dataO bl s0 s1)) w') := fun E wr a b hl hR hk h1 h2 => by
    refine (insertionF O a b E wr hR h1 (by omega) (by omega)).mono ?_
    rintro e w' ⟨he, E', c1, c2, c3, c4⟩
    exact ⟨he, E', c1, c2, c3, hk.trans c4⟩
  have HSY : Hid (∀ (E : List α) (wr : World) (a m b : Nat), E.length = D.length → St E wr → Rg g (w.alloc (dataO bl s0 s1)) wr → a < m → m < b → b ≤ n → Ris key E a m → Ris key E m b → Calls Tryz.prog 97 #[dataV bl s0 s1, .int .i64 a, .int .i64 m, .int .i64 b] wr fun e w' => e = .returned (.tuple #[]) ∧ ∃ E', MixS a b E E' ∧ Ris key E' a b ∧ St E' w' ∧ Rg g (w.alloc (dataO bl s0 s1)) w') := fun E wr a m b hl hR hk h1 h2 h3 r1 r2 => by
    refine (symF O (b - a) a m b E wr (Nat.le_refl _) hR h1 h2 (by omega) (by omega) r1 r2).mono ?_
    rintro e w' ⟨he, E', c1, c2, c3, c4⟩
    exact ⟨he, E', c1, c2, c3, hk.trans c4⟩
  rw [← hn] at hD ⊢
  clear h hn O
  obtain ⟨w0, hw0⟩ : ∃ z, z = w.alloc (dataO bl s0 s1) := ⟨_, rfl⟩
  rw [← hw0] at H HBOX HFIN HIN HSY
  go_enter Tryz.func61, Tryz.ntmps61
  go_wp2_with fail
  rw [← hw0]
  clear hw0
  go_loopg [5, 6] (n + 20) (fun q x7 x8 wr => ∃ (a : Nat) (E : List α), 20 ∣ a ∧ a ≤ n ∧ n + 20 - a ≤ q ∧ x7 = .int .i64 a ∧ x8 = .int .i64 ((a : Int) + 20) ∧ BlkTF key E 20 a ∧ MixS 0 n D E ∧ St E wr ∧ Rg g w0 wr)
  case atStart => exact ⟨0, D, ⟨0, rfl⟩, Nat.zero_le _, by omega, rfl, rfl, fun u _ hu => by omega, MixS.refl _ _ _, H.out, Rg.refl _ _⟩
  case round =>
    obtain ⟨a, E, hda, han, hq, rfl, rfl, hB, hM, hR, hk⟩ := hrel
    have HB := toHid hB
    have HM := toHid hM
    have HR := toHid hR
    have HK := toHid hk
    have HDA := toHid hda
    have hEl : E.length = D.length := hM.1
    obtain ⟨x0, x1, hbl⟩ := HBOX.out wr hk
    clear hB hM hR hk hda
    by_cases hlt : a + 20 ≤ n
    · have hltI : (a : Int) + 20 ≤ (n : Int) := by omega
      have HI := toHid (HIN.out E wr a (a + 20) hEl HR.out HK.out (by omega) hlt)
      clear hEl
      go_wp2_with fail
      refine HI.out.mono ?_
      rintro e w1 ⟨rfl, E', hm, hr, hR1, hk1⟩
      have HB1 := toHid ((HB.out.mix (by decide) HDA.out hm).more (by decide) HDA.out hr)
      have HM1 := toHid (HM.out.trans (hm.wide (Nat.zero_le _) hlt))
      have HR1 := toHid hR1
      have HK1 := toHid hk1
      clear hm hr hR1 hk1 x0 x1 hbl
      go_wp2_with fail
      go_roundg (n + 20 - (a + 20))
      case measure => omega
      case rel => exact ⟨a + 20, E', (Nat.dvd_add_right HDA.out).2 ⟨1, rfl⟩, hlt, Nat.le_refl _, by go_num, by go_num, HB1.out, HM1.out, HR1.out, HK1.out⟩
    · have hltI : ¬ (a : Int) + 20 ≤ (n : Int) := by omega
      have HI := toHid (HIN.out E wr a n hEl HR.out HK.out han (Nat.le_refl _))
      clear hEl
      go_wp2_with fail
      refine HI.out.mono ?_
      rintro e w1 ⟨rfl, E', hm, hr, hR1, hk1⟩
      have HA1 := toHid ((HB.out.mix (by decide) HDA.out hm).all (by decide) HDA.out (by omega) han hr)
      have HM1 := toHid (HM.out.trans (hm.wide (Nat.zero_le _) (Nat.le_refl _)))
      have HR1 := toHid hR1
      have HK1 := toHid hk1
      clear hm hr hR1 hk1 HB HM HR HK HI x0 x1 hbl
      go_wp2_with fail
      obtain ⟨wo, hwo⟩ : ∃ z, z = wr := ⟨_, rfl⟩
      subst hwo
      go_loopg [4, 5, 6, 7] n (fun q x6 x7 x8 x9 wr => ∃ (s : Nat) (E : List α), 0 < s ∧ s ≤ 2000000 ∧ n - s ≤ q ∧ x6 = .int .i64 s ∧ BlkAF key E s n 0 ∧ MixS 0 n D E ∧ St E wr ∧ Rg g w0 wr)
      case atStart => exact ⟨20, E', by decide, by decide, by omega, rfl, HA1.out, HM1.out, HR1.out, HK1.out⟩
      case round =>
        clear HA1 HM1 HR1 HK1
        obtain ⟨s, E, hs0, hs2, hq2, rfl, hA, hM, hR, hk⟩ := hrel
        have HA := toHid hA
        have HM := toHid hM
        have HR := toHid hR
        have HK := toHid hk
        clear hA hM hR hk
        by_cases hsn : s < n
        · have hsI : (s : Int) < (n : Int) := by omega
          go_wp2_with fail
          obtain ⟨w8, hw8⟩ : ∃ z, z = wr := ⟨_, rfl⟩
          subst hw8
          go_loopg [5, 6] (n + 2 * s) (fun q x7 x8 wr => ∃ (a : Nat) (E : List α), 2 * s ∣ a ∧ a ≤ n ∧ n + 2 * s - a ≤ q ∧ x7 = .int .i64 a ∧ x8 = .int .i64 ((a : Int) + 2 * (s : Int)) ∧ BlkTF key E (2 * s) a ∧ BlkAF key E s n a ∧ MixS 0 n D E ∧ St E wr ∧ Rg g w0 wr)
          case atStart => exact ⟨0, E, ⟨0, rfl⟩, Nat.zero_le _, by omega, rfl, by simp, fun u _ hu => by omega, HA.out, HM.out, HR.out, HK.out⟩
          case round =>
            clear HA HM HR HK
            obtain ⟨a, E, hda, han, hq3, rfl, rfl, hB, hA, hM, hR, hk⟩ := hrel
            have hEl : E.length = D.length := hM.1
            have hsa : s ∣ a := Nat.dvd_trans ⟨2, by omega⟩ hda
            have HB := toHid hB
            have HA := toHid hA
            have HM := toHid hM
            have HR := toHid hR
            have HK := toHid hk
            have HDA := toHid hda
            have HSA := toHid hsa
            obtain ⟨x0, x1, hbl⟩ := HBOX.out wr hk
            clear hB hA hM hR hk hda hsa
            by_cases hlt2 : a + 2 * s ≤ n
            · have hl2 : (a : Int) + 2 * (s : Int) ≤ (n : Int) := by omega
              have r1 := HA.out a HSA.out (Nat.le_refl _) (by omega)
              have r2 := HA.out (a + s) ((Nat.dvd_add_right HSA.out).2 ⟨1, by omega⟩) (by omega) (by omega)
              rw [Nat.min_eq_left (by omega)] at r1 r2
              have ea : ((a + s : Nat) : Int) = (a : Int) + (s : Int) := by omega
              have eb : ((a + s + s : Nat) : Int) = (a : Int) + 2 * (s : Int) := by omega
              have hi := HSY.out E wr a (a + s) (a + s + s) hEl HR.out HK.out (by omega) (by omega) (by omega) r1 r2
              rw [ea, eb] at hi
              have HI := toHid hi
              clear hEl r1 r2 ea eb hi
              go_wp2_with fail
              refine HI.out.mono ?_
              rintro e w1 ⟨rfl, E1, hm, hr, hR1, hk1⟩
              have e2s : a + s + s = a + 2 * s := by omega
              rw [e2s] at hm hr
              have HB1 := toHid ((HB.out.mix (by omega) HDA.out hm).more (by omega) HDA.out hr)
              have HA1 := toHid (HA.out.mix (by omega) hm)
              have HM1 := toHid (HM.out.trans (hm.wide (Nat.zero_le _) hlt2))
              have HR1 := toHid hR1
              have HK1 := toHid hk1
              clear hm hr hR1 hk1 e2s x0 x1 hbl
              go_wp2_with fail
              go_roundg (n + 2 * s - (a + 2 * s))
              case measure => omega
              case rel => exact ⟨a + 2 * s, E1, (Nat.dvd_add_right HDA.out).2 ⟨1, by omega⟩, hlt2, Nat.le_refl _, by go_num, by go_num, HB1.out, HA1.out, HM1.out, HR1.out, HK1.out⟩
            · have hl2 : ¬ (a : Int) + 2 * (s : Int) ≤ (n : Int) := by omega
              go_upto_if 49 with fail
              go_cut [] (fun wq => ∃ E1, Ris key E1 a n ∧ BlkTF key E1 (2 * s) a ∧ MixS 0 n D E1 ∧ St E1 wq ∧ Rg g w0 wq)
              case first =>
                by_cases hmn : a + s < n
                · have hmI : (a : Int) + (s : Int) < (n : Int) := by omega
                  have r1 := HA.out a HSA.out (Nat.le_refl _) (by omega)
                  have r2 := HA.out (a + s) ((Nat.dvd_add_right HSA.out).2 ⟨1, by omega⟩) (by omega) (by omega)
                  rw [Nat.min_eq_left (by omega)] at r1
                  rw [Nat.min_eq_right (by omega)] at r2
                  have ea : ((a + s : Nat) : Int) = (a : Int) + (s : Int) := by omega
                  have hi := HSY.out E wr a (a + s) n hEl HR.out HK.out (by omega) hmn (Nat.le_refl _) r1 r2
                  rw [ea] at hi
                  have HI := toHid hi
                  clear hEl r1 r2 ea hi
                  go_wp2_with fail
                  refine HI.out.mono ?_
                  rintro e w1 ⟨rfl, E1, hm, hr, hR1, hk1⟩
                  have HB1 := toHid (HB.out.mix (by omega) HDA.out hm)
                  have HRI := toHid hr
                  have HM1 := toHid (HM.out.trans (hm.wide (Nat.zero_le _) (Nat.le_refl _)))
                  have HR1 := toHid hR1
                  have HK1 := toHid hk1
                  clear hm hr hR1 hk1 x0 x1 hbl
                  go_wp2_with fail
                  go_meet
                  exact ⟨E1, HRI.out, HB1.out, HM1.out, HR1.out, HK1.out⟩
                · have hmI : ¬ (a : Int) + (s : Int) < (n : Int) := by omega
                  clear hEl
                  go_wp2_with fail
                  go_meet
                  refine ⟨E, ?_, HB.out, HM.out, HR.out, HK.out⟩
                  by_cases h0 : a = n
                  · exact Ris.one (by omega)
                  · have := HA.out a HSA.out (Nat.le_refl _) (by omega)
                    rw [Nat.min_eq_right (by omega)] at this
                    exact this
              case rest =>
              obtain ⟨E1, hr, hb, hm, hR1, hk1⟩ := hcut
              have HA1 := toHid (hb.all (by omega) HDA.out (by omega) han hr)
              have HM1 := toHid hm
              have HR1 := toHid hR1
              have HK1 := toHid hk1
              clear hr hb hm hR1 hk1 hEl x0 x1 hbl
              go_wp2_with fail
              go_roundg (n - 2 * s)
              case measure => omega
              case rel => exact ⟨2 * s, E1, by omega, by omega, Nat.le_refl _, by go_num, HA1.out, HM1.out, HR1.out, HK1.out⟩
        · have hsI : ¬ (s : Int) < (n : Int) := by omega
          have hr : Ris key E 0 n := by
            by_cases h0 : n = 0
            · exact Ris.one (by omega)
            · have := HA.out 0 ⟨0, rfl⟩ (Nat.le_refl _) (by omega)
              rw [Nat.min_eq_right (by omega)] at this
              exact this
          have HRI := toHid hr
          clear hr
          go_wp2_with fail
          go_end0
          exact ⟨rfl, E, HM.out, HRI.out, HR.out, HFIN.out _ HK.out⟩
end
end Go.Proofs.YtbjkpbeijkmoeaaGreatDoor
