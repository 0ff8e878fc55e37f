/-
  What is proved here: what the texts SSym1E, SSym2E, SSym3E prove, in one text.
-/
import Derived.Test.YtdlmlpddkfnfmaaGreatDoorQMAT
import Derived.Test.YtdlmlpddkfnfmaaGreatDoorQMAQ
import Derived.Test.YtdlmlpddkfnfmaaGreatDoorQMAR
namespace Go.Proofs.YtdlmlpddkfnfmaaGreatDoor
open Go.RowKit
set_option linter.unusedVariables false

set_option maxHeartbeats 8000000 in
set_option maxRecDepth 100000 in
theorem sym1E (g cap a m b nb : Nat) (D : List Ed) (w : World) (h : RowE w g cap D) (hc : CmpOkE w nb) (hnb : nb ≠ g) (hma : m = a + 1) (hmb : m < b) (hb : b ≤ D.length) (hD : D.length ≤ 1000) (hS2 : Ris Ed.id D m b) :
    Calls Tryz.prog 183 #[.slice (some ⟨g, 0, none⟩) D.length cap, .int .i64 a, .int .i64 m, .int .i64 b, fvE nb] w fun e w' => e = .returned (.tuple #[]) ∧ ∃ E, MixS a b D E ∧ Ris Ed.id E a b ∧ RowE w' g cap E ∧ Rest (fun j => j = g) w w' := by
  have e1 : (m : Int) - (a : Int) = 1 := by omega
  have H := toHid h
  have HC := toHid hc
  have HMA := toHid hma
  have HS2 := toHid hS2
  obtain ⟨x, hx⟩ : ∃ x, D[a]? = some x := ⟨_, List.getElem?_eq_getElem (by omega)⟩
  have Hx := toHid hx
  have hal : (a : Int) < (D.length : Int) := by omega
  clear h hc hma hS2 hx
  go_enter Tryz.func183, Tryz.ntmps183
  go_wp2_with fail
  go_loopg [10, 11, 12] (b - m) (fun q x10 x11 x12 wr => ∃ (i j : Nat), m ≤ i ∧ i ≤ j ∧ j ≤ b ∧ j - i ≤ q ∧ x10 = .int .i64 i ∧ x11 = .int .i64 j ∧ (∀ k y, m ≤ k → k < i → D[k]? = some y → y.id ≤ x.id) ∧ (∀ k y, j ≤ k → k < b → D[k]? = some y → x.id ≤ y.id) ∧ RowE wr g cap D ∧ Rest (fun j => j = g) w wr)
  case atStart => exact ⟨m, b, Nat.le_refl _, by omega, Nat.le_refl _, Nat.le_refl _, rfl, rfl, fun k y h1 h2 => by omega, fun k y h1 h2 => by omega, H.out, Rest.refl _ _⟩
  case round =>
    obtain ⟨i, j, hmi, hij, hjb, hq, rfl, rfl, hlo, hhi, hR, hk⟩ := hrel
    have HLO := toHid hlo
    have HHI := toHid hhi
    have HR := toHid hR
    have HK := toHid hk
    have HCW := toHid (HC.out.rest hnb hk)
    clear hlo hhi hR hk
    by_cases hlt : i < j
    · obtain ⟨c, hcm⟩ : ∃ c, c = (i + j) / 2 := ⟨_, rfl⟩
      have hmid : ((i : Int) + (j : Int)) / 2 = (c : Int) := by omega
      have hic : i ≤ c := by omega
      have hcj : c < j := by omega
      have HCM := toHid hcm
      clear hcm
      have hltI : (i : Int) < (j : Int) := by omega
      obtain ⟨y, hy⟩ : ∃ y, D[c]? = some y := ⟨_, List.getElem?_eq_getElem (by omega)⟩
      have Hy := toHid hy
      have hcl : (c : Int) < (D.length : Int) := by omega
      clear hy
      have HS : Hid (∀ W', Below wr.heap.size wr W' → (W'.cell? ⟨g, c * 5, none⟩ = some (.int .i64 y.id) ∧ W'.cell? ⟨g, c * 5 + 1, none⟩ = some (.int .i64 y.frm) ∧ W'.cell? ⟨g, c * 5 + 2, none⟩ = some (.int .i64 y.dst) ∧ W'.cell? ⟨g, c * 5 + 3, none⟩ = some (.string y.typ) ∧ W'.cell? ⟨g, c * 5 + 4, none⟩ = some (.slice y.pa y.pl y.pc)) ∧ (W'.cell? ⟨g, a * 5, none⟩ = some (.int .i64 x.id) ∧ W'.cell? ⟨g, a * 5 + 1, none⟩ = some (.int .i64 x.frm) ∧ W'.cell? ⟨g, a * 5 + 2, none⟩ = some (.int .i64 x.dst) ∧ W'.cell? ⟨g, a * 5 + 3, none⟩ = some (.string x.typ) ∧ W'.cell? ⟨g, a * 5 + 4, none⟩ = some (.slice x.pa x.pl x.pc))) := fun W' kk => by
        obtain ⟨p0, p1, p2, p3, p4, _⟩ := (HR.out.below kk).get Hy.out
        obtain ⟨q0, q1, q2, q3, q4, _⟩ := (HR.out.below kk).get Hx.out
        exact ⟨⟨p0, p1, p2, p3, p4⟩, ⟨q0, q1, q2, q3, q4⟩⟩
      have D0 : Below wr.heap.size wr wr.drew := (Below.refl _ _).drew
      obtain ⟨⟨p0, p1, p2, p3, p4⟩, ⟨q0, q1, q2, q3, q4⟩⟩ := HS.out wr (Below.refl _ _)
      have HCC := toHid (cmpE_any nb y x wr.drew (HCW.out.below D0))
      go_upto_region 5 with fail
      go_cut [50] (fun c wz => c = .bool (decide (y.id < x.id)) ∧ Below wr.heap.size wr wz)
      case first =>
        go_region_held3 (fun W' => (W'.cell? ⟨g, c * 5, none⟩ = some (.int .i64 y.id) ∧ W'.cell? ⟨g, c * 5 + 1, none⟩ = some (.int .i64 y.frm) ∧ W'.cell? ⟨g, c * 5 + 2, none⟩ = some (.int .i64 y.dst) ∧ W'.cell? ⟨g, c * 5 + 3, none⟩ = some (.string y.typ) ∧ W'.cell? ⟨g, c * 5 + 4, none⟩ = some (.slice y.pa y.pl y.pc)) ∧ (W'.cell? ⟨g, a * 5, none⟩ = some (.int .i64 x.id) ∧ W'.cell? ⟨g, a * 5 + 1, none⟩ = some (.int .i64 x.frm) ∧ W'.cell? ⟨g, a * 5 + 2, none⟩ = some (.int .i64 x.dst) ∧ W'.cell? ⟨g, a * 5 + 3, none⟩ = some (.string x.typ) ∧ W'.cell? ⟨g, a * 5 + 4, none⟩ = some (.slice x.pa x.pl x.pc)))
          (first
            | with_reducible exact HS.out _ k1
            | with_reducible exact HS.out _ D0
            | exact ⟨⟨p0, p1, p2, p3, p4⟩, ⟨q0, q1, q2, q3, q4⟩⟩
            | go_keep)
          (first
            | (go_at_call 108; go_fit HCC.out; rintro e u1 ⟨rfl, h1⟩; have k1 : Below wr.heap.size wr u1 := D0.trans h1))
        all_goals
          go_wp2_with fail
          go_meet
          exact ⟨by simp [cmpN_lt], k1⟩
      case rest =>
      obtain ⟨rfl, kz⟩ := hcut
      have HR2 := toHid (HR.out.below kz)
      have HK2 := toHid (HK.out.trans (Rest.of_below (O := fun _ => False) kz) fun _ _ h => h.elim)
      clear kz p0 p1 p2 p3 p4 q0 q1 q2 q3 q4
      by_cases hyx : y.id < x.id
      · rw [decide_eq_true hyx]
        have HYX := toHid hyx
        clear hyx
        go_wp2_with fail
        go_roundg (j - (c + 1))
        case measure => omega
        case rel =>
          refine ⟨c + 1, j, by omega, by omega, hjb, Nat.le_refl _, by go_num, rfl, fun k z h1 h2 hz => ?_, HHI.out, HR2.out, HK2.out⟩
          have h3 := HYX.out
          by_cases hkc : k = c
          · subst hkc
            rw [Hy.out] at hz
            injection hz with hz
            subst hz
            omega
          · have := HS2.out k c z y h1 (by omega) (by omega) hz Hy.out
            omega
      · rw [decide_eq_false hyx]
        have HYX := toHid hyx
        clear hyx
        go_wp2_with fail
        go_roundg (c - i)
        case measure => omega
        case rel =>
          refine ⟨i, c, hmi, hic, by omega, Nat.le_refl _, rfl, rfl, HLO.out, fun k z h1 h2 hz => ?_, HR2.out, HK2.out⟩
          have h3 := HYX.out
          by_cases hkc : k = c
          · subst hkc
            rw [Hy.out] at hz
            injection hz with hz
            subst hz
            omega
          · have := HS2.out c k y z (by omega) (by omega) h2 Hy.out hz
            omega
    · have hij' : j = i := by omega
      subst hij'
      have hltI : ¬ (j : Int) < (j : Int) := by omega
      have hU : UpI Ed.id D a b j a := by
        have hma := HMA.out
        refine ⟨fun p q u v h1 h2 h3 h4 h5 hu hv => HS2.out p q u v (by omega) h2 h3 hu hv, fun p u v h1 h2 => by omega, fun q u v h1 h2 hu hv => ?_, fun q u v h1 h2 hu hv => ?_⟩
        · rw [Hx.out] at hu
          injection hu with hu
          subst hu
          exact HHI.out q v h1 h2 hv
        · rw [Hx.out] at hv
          injection hv with hv
          subst hv
          exact HLO.out q u (by omega) h2 hu
      have HU := toHid hU
      have haj : a + 1 ≤ j := by have := HMA.out; omega
      have hj1 : wrap64 ((j : Int) - 1) = (((j - 1 : Nat)) : Int) := (IntWalk.wrap64_in _ ⟨by omega, by omega⟩).trans (by omega)
      have ej1 : (j : Int) - 1 = ((j - 1 : Nat) : Int) := by omega
      have EJ1 := toHid ej1
      clear hU ej1 hltI
      go_wp2_with fail
      obtain ⟨wo, hwo⟩ : ∃ z, z = wr := ⟨_, rfl⟩
      subst hwo
      go_loopg [13] (j - a) (fun q x13 wr => ∃ (k : Nat) (E : List Ed), a ≤ k ∧ k + 1 ≤ j ∧ j - k ≤ q ∧ x13 = .int .i64 k ∧ MixS a b D E ∧ UpI Ed.id E a b j k ∧ RowE wr g cap E ∧ Rest (fun j => j = g) w wr)
      case atStart => exact ⟨a, D, Nat.le_refl _, haj, Nat.le_refl _, rfl, MixS.refl _ _ _, HU.out, HR.out, HK.out⟩
      case round =>
        clear HR HK HCW HU
        obtain ⟨k, E, hak, hkj, hq2, rfl, hM, hI, hR, hk⟩ := hrel
        have hEl : E.length = D.length := hM.1
        have HK := toHid hk
        by_cases hlt2 : k + 1 < j
        · have hl2 : (k : Int) < (j : Int) - 1 := by omega
          obtain ⟨u, hu⟩ : ∃ u, E[k]? = some u := ⟨_, List.getElem?_eq_getElem (by omega)⟩
          obtain ⟨v, hv⟩ : ∃ v, E[k + 1]? = some v := ⟨_, List.getElem?_eq_getElem (by omega)⟩
          obtain ⟨u0, u1, u2, u3, u4, fu0, fu1, fu2, fu3, fu4⟩ := hR.get hu
          obtain ⟨v0, v1, v2, v3, v4, fv0, fv1, fv2, fv3, fv4⟩ := hR.get hv
          have HW := toHid (hR.swap hu hv).drew
          have HI2 := toHid (hI.step hlt2 hak hjb hu hv)
          have HM2 := toHid (hM.trans (swp_mix (a := a) (b := b) hu hv (by omega) (by omega) (by omega)))
          have hkl : (k : Int) < (D.length : Int) := by omega
          have hkl1 : (k : Int) + 1 < (D.length : Int) := by omega
          clear hM hI hR hk hu hv hEl
          go_upto_block 3 with fail
          go_cut [] (fun wq => RowE wq g cap (swp E k (k + 1)) ∧ Rest (fun j => j = g) w wq)
          case first =>
            go_wp2_with fail
            go_region
            all_goals
              go_wp2_with fail
              go_meet
              exact ⟨HW.out, ((HK.out.put (k * 5) v.cells).put ((k + 1) * 5) u.cells).drewS⟩
          case rest =>
          obtain ⟨hz, kq⟩ := hcut
          have HZ := toHid hz
          have HKQ := toHid kq
          clear hz kq
          go_wp2_with fail
          go_roundg (j - (k + 1))
          case measure => omega
          case rel => exact ⟨k + 1, _, by omega, by omega, Nat.le_refl _, by go_num, HM2.out, HI2.out, HZ.out, HKQ.out⟩
        · have hl2 : ¬ (k : Int) < (j : Int) - 1 := by omega
          have HD := toHid (hI.done (by omega))
          have HM := toHid hM
          have HR := toHid hR
          clear hM hI hR hk hEl
          go_wp2_with fail
          first | go_end0 | (simp only [Exit.inBlock, Exit.then]; refine bodyPost_ret (results_none rfl _ _ _) rfl ?_) | refine bodyPost_ret (results_none rfl _ _ _) rfl ?_
          exact ⟨rfl, E, HM.out, HD.out, HR.out, HK.out⟩

set_option maxHeartbeats 8000000 in
set_option maxRecDepth 100000 in
theorem sym2E (g cap a m b nb : Nat) (D : List Ed) (w : World) (h : RowE w g cap D) (hc : CmpOkE w nb) (hnb : nb ≠ g) (ham : a + 2 ≤ m) (hbm : b = m + 1) (hb : b ≤ D.length) (hD : D.length ≤ 1000) (hS1 : Ris Ed.id D a m) :
    Calls Tryz.prog 183 #[.slice (some ⟨g, 0, none⟩) D.length cap, .int .i64 a, .int .i64 m, .int .i64 b, fvE nb] w fun e w' => e = .returned (.tuple #[]) ∧ ∃ E, MixS a b D E ∧ Ris Ed.id E a b ∧ RowE w' g cap E ∧ Rest (fun j => j = g) w w' := by
  have e1 : ((m : Int) - (a : Int) == 1) = false := beq_eq_false_iff_ne.2 (by omega)
  have e2 : (b : Int) - (m : Int) = 1 := by omega
  have H := toHid h
  have HC := toHid hc
  have HBM := toHid hbm
  have HS1 := toHid hS1
  obtain ⟨x, hx⟩ : ∃ x, D[m]? = some x := ⟨_, List.getElem?_eq_getElem (by omega)⟩
  have Hx := toHid hx
  have hml : (m : Int) < (D.length : Int) := by omega
  have hbl : b ≤ 1000 := by omega
  clear h hc hbm hS1 hx
  go_enter Tryz.func183, Tryz.ntmps183
  go_wp2_with fail
  go_loopg [14, 15, 16] (m - a) (fun q x14 x15 x16 wr => ∃ (i j : Nat), a ≤ i ∧ i ≤ j ∧ j ≤ m ∧ j - i ≤ q ∧ x14 = .int .i64 i ∧ x15 = .int .i64 j ∧ (∀ k y, a ≤ k → k < i → D[k]? = some y → y.id ≤ x.id) ∧ (∀ k y, j ≤ k → k < m → D[k]? = some y → x.id ≤ y.id) ∧ RowE wr g cap D ∧ Rest (fun j => j = g) w wr)
  case atStart => exact ⟨a, m, Nat.le_refl _, by omega, Nat.le_refl _, Nat.le_refl _, rfl, rfl, fun k y h1 h2 => by omega, fun k y h1 h2 => by omega, H.out, Rest.refl _ _⟩
  case round =>
    obtain ⟨i, j, hai, hij, hjm, hq, rfl, rfl, hlo, hhi, hR, hk⟩ := hrel
    have HLO := toHid hlo
    have HHI := toHid hhi
    have HR := toHid hR
    have HK := toHid hk
    have HCW := toHid (HC.out.rest hnb hk)
    clear hlo hhi hR hk
    by_cases hlt : i < j
    · obtain ⟨c, hcm⟩ : ∃ c, c = (i + j) / 2 := ⟨_, rfl⟩
      have hmid : ((i : Int) + (j : Int)) / 2 = (c : Int) := by omega
      have hic : i ≤ c := by omega
      have hcj : c < j := by omega
      have HCM := toHid hcm
      clear hcm
      have hltI : (i : Int) < (j : Int) := by omega
      obtain ⟨y, hy⟩ : ∃ y, D[c]? = some y := ⟨_, List.getElem?_eq_getElem (by omega)⟩
      have Hy := toHid hy
      have hcl : (c : Int) < (D.length : Int) := by omega
      clear hy
      have HS : Hid (∀ W', Below wr.heap.size wr W' → (W'.cell? ⟨g, m * 5, none⟩ = some (.int .i64 x.id) ∧ W'.cell? ⟨g, m * 5 + 1, none⟩ = some (.int .i64 x.frm) ∧ W'.cell? ⟨g, m * 5 + 2, none⟩ = some (.int .i64 x.dst) ∧ W'.cell? ⟨g, m * 5 + 3, none⟩ = some (.string x.typ) ∧ W'.cell? ⟨g, m * 5 + 4, none⟩ = some (.slice x.pa x.pl x.pc)) ∧ (W'.cell? ⟨g, c * 5, none⟩ = some (.int .i64 y.id) ∧ W'.cell? ⟨g, c * 5 + 1, none⟩ = some (.int .i64 y.frm) ∧ W'.cell? ⟨g, c * 5 + 2, none⟩ = some (.int .i64 y.dst) ∧ W'.cell? ⟨g, c * 5 + 3, none⟩ = some (.string y.typ) ∧ W'.cell? ⟨g, c * 5 + 4, none⟩ = some (.slice y.pa y.pl y.pc))) := fun W' kk => by
        obtain ⟨p0, p1, p2, p3, p4, _⟩ := (HR.out.below kk).get Hx.out
        obtain ⟨q0, q1, q2, q3, q4, _⟩ := (HR.out.below kk).get Hy.out
        exact ⟨⟨p0, p1, p2, p3, p4⟩, ⟨q0, q1, q2, q3, q4⟩⟩
      have D0 : Below wr.heap.size wr wr.drew := (Below.refl _ _).drew
      obtain ⟨⟨p0, p1, p2, p3, p4⟩, ⟨q0, q1, q2, q3, q4⟩⟩ := HS.out wr (Below.refl _ _)
      have HCC := toHid (cmpE_any nb x y wr.drew (HCW.out.below D0))
      go_upto_region 17 with fail
      go_cut [103] (fun c wz => c = .bool (decide (¬ x.id < y.id)) ∧ Below wr.heap.size wr wz)
      case first =>
        go_region_held3 (fun W' => (W'.cell? ⟨g, m * 5, none⟩ = some (.int .i64 x.id) ∧ W'.cell? ⟨g, m * 5 + 1, none⟩ = some (.int .i64 x.frm) ∧ W'.cell? ⟨g, m * 5 + 2, none⟩ = some (.int .i64 x.dst) ∧ W'.cell? ⟨g, m * 5 + 3, none⟩ = some (.string x.typ) ∧ W'.cell? ⟨g, m * 5 + 4, none⟩ = some (.slice x.pa x.pl x.pc)) ∧ (W'.cell? ⟨g, c * 5, none⟩ = some (.int .i64 y.id) ∧ W'.cell? ⟨g, c * 5 + 1, none⟩ = some (.int .i64 y.frm) ∧ W'.cell? ⟨g, c * 5 + 2, none⟩ = some (.int .i64 y.dst) ∧ W'.cell? ⟨g, c * 5 + 3, none⟩ = some (.string y.typ) ∧ W'.cell? ⟨g, c * 5 + 4, none⟩ = some (.slice y.pa y.pl y.pc)))
          (first
            | with_reducible exact HS.out _ k1
            | with_reducible exact HS.out _ D0
            | exact ⟨⟨p0, p1, p2, p3, p4⟩, ⟨q0, q1, q2, q3, q4⟩⟩
            | go_keep)
          (first
            | (go_at_call 108; go_fit HCC.out; rintro e u1 ⟨rfl, h1⟩; have k1 : Below wr.heap.size wr u1 := D0.trans h1))
        all_goals
          go_wp2_with fail
          go_meet
          exact ⟨by simp [cmpN_lt]; by_cases h : x.id < y.id <;> simp [h] <;> omega, k1⟩
      case rest =>
      obtain ⟨rfl, kz⟩ := hcut
      have HR2 := toHid (HR.out.below kz)
      have HK2 := toHid (HK.out.trans (Rest.of_below (O := fun _ => False) kz) fun _ _ h => h.elim)
      clear kz p0 p1 p2 p3 p4 q0 q1 q2 q3 q4
      by_cases hyx : x.id < y.id
      · rw [decide_eq_false (fun h => h hyx)]
        have HYX := toHid hyx
        clear hyx
        go_wp2_with fail
        go_roundg (c - i)
        case measure => omega
        case rel =>
          refine ⟨i, c, hai, hic, by omega, Nat.le_refl _, rfl, rfl, HLO.out, fun k z h1 h2 hz => ?_, HR2.out, HK2.out⟩
          have h3 := HYX.out
          by_cases hkc : k = c
          · subst hkc
            rw [Hy.out] at hz
            injection hz with hz
            subst hz
            omega
          · have := HS1.out c k y z (by omega) (by omega) h2 Hy.out hz
            omega
      · rw [decide_eq_true hyx]
        have HYX := toHid hyx
        clear hyx
        go_wp2_with fail
        go_roundg (j - (c + 1))
        case measure => omega
        case rel =>
          refine ⟨c + 1, j, by omega, by omega, hjm, Nat.le_refl _, by go_num, rfl, fun k z h1 h2 hz => ?_, HHI.out, HR2.out, HK2.out⟩
          have h3 := HYX.out
          by_cases hkc : k = c
          · subst hkc
            rw [Hy.out] at hz
            injection hz with hz
            subst hz
            omega
          · have := HS1.out k c z y h1 (by omega) (by omega) hz Hy.out
            omega
    · have hij' : j = i := by omega
      subst hij'
      have hltI : ¬ (j : Int) < (j : Int) := by omega
      have hU : DnI Ed.id D a b j m := by
        have hbm := HBM.out
        refine ⟨fun p q u v h1 h2 h3 h4 h5 hu hv => HS1.out p q u v h1 h2 (by omega) hu hv, fun p u v h1 h2 hu hv => ?_, fun q u v h1 h2 => by omega, fun q u v h1 h2 hu hv => ?_⟩
        · rw [Hx.out] at hv
          injection hv with hv
          subst hv
          exact HLO.out p u h1 h2 hu
        · rw [Hx.out] at hu
          injection hu with hu
          subst hu
          exact HHI.out q v h1 h2 hv
      have HU := toHid hU
      clear hU hltI
      go_wp2_with fail
      obtain ⟨wo, hwo⟩ : ∃ z, z = wr := ⟨_, rfl⟩
      subst hwo
      go_loopg [17] (m - j) (fun q x17 wr => ∃ (k : Nat) (E : List Ed), j ≤ k ∧ k ≤ m ∧ k - j ≤ q ∧ x17 = .int .i64 k ∧ MixS a b D E ∧ DnI Ed.id E a b j k ∧ RowE wr g cap E ∧ Rest (fun j => j = g) w wr)
      case atStart => exact ⟨m, D, hjm, Nat.le_refl _, Nat.le_refl _, rfl, MixS.refl _ _ _, HU.out, HR.out, HK.out⟩
      case round =>
        clear HR HK HCW HU
        obtain ⟨k, E, hjk, hkm, hq2, rfl, hM, hI, hR, hk⟩ := hrel
        have hEl : E.length = D.length := hM.1
        have hbm := HBM.out
        have HK := toHid hk
        by_cases hlt2 : j < k
        · have hl2 : (j : Int) < (k : Int) := by omega
          obtain ⟨l, hlk⟩ : ∃ l, k = l + 1 := ⟨k - 1, by omega⟩
          obtain ⟨u, hu⟩ : ∃ u, E[k]? = some u := ⟨_, List.getElem?_eq_getElem (by omega)⟩
          obtain ⟨v, hv⟩ : ∃ v, E[l]? = some v := ⟨_, List.getElem?_eq_getElem (by omega)⟩
          obtain ⟨u0, u1, u2, u3, u4, fu0, fu1, fu2, fu3, fu4⟩ := hR.get hu
          obtain ⟨v0, v1, v2, v3, v4, fv0, fv1, fv2, fv3, fv4⟩ := hR.get hv
          have HW := toHid (hR.swap hu hv).drew
          have hu' : E[l + 1]? = some u := by rw [← hlk]; exact hu
          rw [hlk] at hI
          have HI2 := toHid (hI.step (by omega) hai (by omega) hv hu')
          have HM2 := toHid (hM.trans (swp_mix (a := a) (b := b) hv hu' (by omega) (by omega) (by omega)))
          have HSW : Hid (swp E k l = swp E l (l + 1)) := by rw [hlk]; exact swp_comm hv hu' (by omega)
          have hkl : (k : Int) < (D.length : Int) := by omega
          have hll : (l : Int) < (D.length : Int) := by omega
          have hw1 : IntKind.i64.wrap ((k : Int) - 1) = (l : Int) := by rw [IntKind.wrap_i64]; omega
          have hw3 : wrap64 ((k : Int) - 1) = (l : Int) := (IntWalk.wrap64_in _ ⟨by omega, by omega⟩).trans (by omega)
          have hl0 : (0 : Int) ≤ (l : Int) := by omega
          have hne : k ≠ l := by omega
          have HLK := toHid hlk
          clear hM hI hR hk hu hu' hv hEl hlk hbm
          go_upto_block 7 with fail
          go_cut [] (fun wq => RowE wq g cap (swp E k l) ∧ Rest (fun j => j = g) w wq)
          case first =>
            go_wp2_with fail
            go_region
            all_goals
              go_wp2_with fail
              go_meet
              exact ⟨HW.out, ((HK.out.put (k * 5) v.cells).put (l * 5) u.cells).drewS⟩
          case rest =>
          obtain ⟨hz, kq⟩ := hcut
          have HZ := toHid hz
          have HKQ := toHid kq
          clear hz kq
          go_wp2_with fail
          go_roundg (l - j)
          case measure => have := HLK.out; omega
          case rel => exact ⟨l, _, by have := HLK.out; omega, by have := HLK.out; omega, Nat.le_refl _, by have := HLK.out; go_num, HM2.out, HI2.out, by rw [← HSW.out]; exact HZ.out, HKQ.out⟩
        · have hl2 : ¬ (j : Int) < (k : Int) := by omega
          have HD := toHid (hI.done (by omega))
          have HM := toHid hM
          have HR := toHid hR
          clear hM hI hR hk hEl hbm
          go_wp2_with fail
          first | go_end0 | (simp only [Exit.inBlock, Exit.then]; refine bodyPost_ret (results_none rfl _ _ _) rfl ?_) | refine bodyPost_ret (results_none rfl _ _ _) rfl ?_
          exact ⟨rfl, E, HM.out, HD.out, HR.out, HK.out⟩

/-- What a merge does. -/
def SymOkE (N : Nat) : Prop := ∀ (g cap a m b nb : Nat) (D : List Ed) (w : World), b - a ≤ N → RowE w g cap D → CmpOkE w nb → nb ≠ g → a < m → m < b → b ≤ D.length → D.length ≤ 1000 → Ris Ed.id D a m → Ris Ed.id D m b →
    Calls Tryz.prog 183 #[.slice (some ⟨g, 0, none⟩) D.length cap, .int .i64 a, .int .i64 m, .int .i64 b, fvE nb] w fun e w' => e = .returned (.tuple #[]) ∧ ∃ E, MixS a b D E ∧ Ris Ed.id E a b ∧ RowE w' g cap E ∧ Rest (fun j => j = g) w w'

set_option maxHeartbeats 8000000 in
set_option maxRecDepth 100000 in
theorem sym3E (N g cap a m b nb : Nat) (D : List Ed) (w : World) (ih : SymOkE N) (hN : b - a ≤ N + 1) (h : RowE w g cap D) (hc : CmpOkE w nb) (hnb : nb ≠ g) (ham : a + 2 ≤ m) (hmb : m + 2 ≤ b) (hb : b ≤ D.length) (hD : D.length ≤ 1000) (hS1 : Ris Ed.id D a m) (hS2 : Ris Ed.id D m b) :
    Calls Tryz.prog 183 #[.slice (some ⟨g, 0, none⟩) D.length cap, .int .i64 a, .int .i64 m, .int .i64 b, fvE nb] w fun e w' => e = .returned (.tuple #[]) ∧ ∃ E, MixS a b D E ∧ Ris Ed.id E a b ∧ RowE w' g cap E ∧ Rest (fun j => j = g) w w' := by
  have e1 : ((m : Int) - (a : Int) == 1) = false := beq_eq_false_iff_ne.2 (by omega)
  have e2 : ((b : Int) - (m : Int) == 1) = false := beq_eq_false_iff_ne.2 (by omega)
  obtain ⟨mid, hmid⟩ : ∃ mid, mid = (a + b) / 2 := ⟨_, rfl⟩
  obtain ⟨n, hn⟩ : ∃ n, n = mid + m := ⟨_, rfl⟩
  obtain ⟨p, hp⟩ : ∃ p, p = n - 1 := ⟨_, rfl⟩
  obtain ⟨lo, hlo⟩ : ∃ lo, lo = if mid < m then n - b else a := ⟨_, rfl⟩
  obtain ⟨hi, hhi⟩ : ∃ hi, hi = if mid < m then mid else m := ⟨_, rfl⟩
  have hm2 : 2 * mid ≤ a + b ∧ a + b ≤ 2 * mid + 1 := by omega
  have hlh : a ≤ lo ∧ lo ≤ hi ∧ hi ≤ m ∧ hi ≤ mid ∧ n - lo ≤ b ∧ m ≤ n - hi ∧ lo ≤ n ∧ n ≤ 2000 := by
    rw [hlo, hhi]
    split <;> omega
  have f1 : ((a : Int) + (b : Int)) / 2 = (mid : Int) := by omega
  have f2 : (mid : Int) + (m : Int) = (n : Int) := by omega
  have f3 : wrap64 ((n : Int) - 1) = (p : Int) := (IntWalk.wrap64_in _ ⟨by omega, by omega⟩).trans (by omega)
  have f3' : IntKind.i64.wrap ((n : Int) - 1) = (p : Int) := by rw [IntKind.wrap_i64]; omega
  have H := toHid h
  have HC := toHid hc
  have HS1 := toHid hS1
  have HS2 := toHid hS2
  have HMID := toHid hmid
  have HNN := toHid hn
  have HP := toHid hp
  have HLO := toHid hlo
  have HHI := toHid hhi
  have HLH := toHid hlh
  have HIH := toHid ih
  clear h hc hS1 hS2 hmid hn hp hlo hhi hlh ih hm2
  have F2 := toHid f2
  go_enter Tryz.func183, Tryz.ntmps183
  go_upto_if 140 with fail
  go_cut [20, 21] (fun x20 x21 wx => x20 = .int .i64 lo ∧ x21 = .int .i64 hi ∧ wx = w)
  case first =>
    as_aux_lemma =>
      by_cases hq : mid < m
      · have hqi : (mid : Int) < (m : Int) := by omega
        have g1 : lo = n - b := by rw [HLO.out, if_pos hq]
        have g2 : hi = mid := by rw [HHI.out, if_pos hq]
        have g3 : (n : Int) - (b : Int) = (lo : Int) := by have := HLH.out; have := HNN.out; have := HMID.out; omega
        have G3 := toHid g3
        have g4 : wrap64 ((n : Int) - (b : Int)) = (lo : Int) := (IntWalk.wrap64_in _ ⟨by omega, by omega⟩).trans g3
        clear g3
        go_wp2_with fail
        go_meet
        exact ⟨by first | rfl | rw [← G3.out] | rw [G3.out], by rw [g2], rfl⟩
      · have hqi : ¬ (mid : Int) < (m : Int) := by omega
        have g1 : lo = a := by rw [HLO.out, if_neg hq]
        have g2 : hi = m := by rw [HHI.out, if_neg hq]
        go_wp2_with fail
        go_meet
        exact ⟨by rw [g1], by rw [g2], rfl⟩
  case rest =>
  obtain ⟨rfl, rfl, hwc⟩ := hcut
  replace hwc := hwc.symm
  subst hwc
  go_wp2_with fail
  go_loopg [20, 21, 23] (hi - lo) (fun q x20 x21 x23 wr => ∃ (s r : Nat), lo ≤ s ∧ s ≤ r ∧ r ≤ hi ∧ r - s ≤ q ∧ x20 = .int .i64 s ∧ x21 = .int .i64 r ∧ (∀ c x y, lo ≤ c → c < s → D[c]? = some x → D[n - 1 - c]? = some y → x.id ≤ y.id) ∧ (∀ c x y, r ≤ c → c < hi → D[c]? = some x → D[n - 1 - c]? = some y → y.id < x.id) ∧ RowE wr g cap D ∧ Rest (fun j => j = g) w wr)
  case atStart => exact ⟨lo, hi, Nat.le_refl _, HLH.out.2.1, Nat.le_refl _, Nat.le_refl _, rfl, rfl, fun c x y h1 h2 => by omega, fun c x y h1 h2 => by omega, H.out, Rest.refl _ _⟩
  case round =>
    obtain ⟨s, r, hls, hsr, hrh, hq, rfl, rfl, hbel, habv, hR, hk⟩ := hrel
    have HBEL := toHid hbel
    have HABV := toHid habv
    have HR := toHid hR
    have HK := toHid hk
    have HCW := toHid (HC.out.rest hnb hk)
    clear hbel habv hR hk
    by_cases hlt : s < r
    · obtain ⟨c, hcm⟩ : ∃ c, c = (s + r) / 2 := ⟨_, rfl⟩
      obtain ⟨d, hd⟩ : ∃ d, d = n - 1 - c := ⟨_, rfl⟩
      have hcs : ((s : Int) + (r : Int)) / 2 = (c : Int) := by omega
      have hic : s ≤ c := by omega
      have hcj : c < r := by omega
      have hlh := HLH.out
      have hnn := HNN.out
      have hpp := HP.out
      have hdm : m ≤ d ∧ d < b := by omega
      have hw4 : wrap64 ((p : Int) - (c : Int)) = (d : Int) := (IntWalk.wrap64_in _ ⟨by omega, by omega⟩).trans (by omega)
      have hw5 : IntKind.i64.wrap ((p : Int) - (c : Int)) = (d : Int) := by rw [IntKind.wrap_i64]; omega
      have hltI : (s : Int) < (r : Int) := by omega
      obtain ⟨x, hx⟩ : ∃ x, D[c]? = some x := ⟨_, List.getElem?_eq_getElem (by omega)⟩
      obtain ⟨y, hy⟩ : ∃ y, D[d]? = some y := ⟨_, List.getElem?_eq_getElem (by omega)⟩
      have Hx := toHid hx
      have Hy := toHid hy
      have hcl : (c : Int) < (D.length : Int) := by omega
      have hdl : (d : Int) < (D.length : Int) := by omega
      have HD := toHid hd
      have HCM := toHid hcm
      clear hcm hx hy hd hlh hnn hpp hdm
      have HS : Hid (∀ W', Below wr.heap.size wr W' → (W'.cell? ⟨g, d * 5, none⟩ = some (.int .i64 y.id) ∧ W'.cell? ⟨g, d * 5 + 1, none⟩ = some (.int .i64 y.frm) ∧ W'.cell? ⟨g, d * 5 + 2, none⟩ = some (.int .i64 y.dst) ∧ W'.cell? ⟨g, d * 5 + 3, none⟩ = some (.string y.typ) ∧ W'.cell? ⟨g, d * 5 + 4, none⟩ = some (.slice y.pa y.pl y.pc)) ∧ (W'.cell? ⟨g, c * 5, none⟩ = some (.int .i64 x.id) ∧ W'.cell? ⟨g, c * 5 + 1, none⟩ = some (.int .i64 x.frm) ∧ W'.cell? ⟨g, c * 5 + 2, none⟩ = some (.int .i64 x.dst) ∧ W'.cell? ⟨g, c * 5 + 3, none⟩ = some (.string x.typ) ∧ W'.cell? ⟨g, c * 5 + 4, none⟩ = some (.slice x.pa x.pl x.pc))) := fun W' kk => by
        obtain ⟨p0, p1, p2, p3, p4, _⟩ := (HR.out.below kk).get Hy.out
        obtain ⟨q0, q1, q2, q3, q4, _⟩ := (HR.out.below kk).get Hx.out
        exact ⟨⟨p0, p1, p2, p3, p4⟩, ⟨q0, q1, q2, q3, q4⟩⟩
      have D0 : Below wr.heap.size wr wr.drew := (Below.refl _ _).drew
      obtain ⟨⟨p0, p1, p2, p3, p4⟩, ⟨q0, q1, q2, q3, q4⟩⟩ := HS.out wr (Below.refl _ _)
      have HCC := toHid (cmpE_any nb y x wr.drew (HCW.out.below D0))
      go_upto_region 35 with fail
      go_cut [171] (fun c wz => c = .bool (decide (¬ y.id < x.id)) ∧ Below wr.heap.size wr wz)
      case first =>
        as_aux_lemma =>
          go_region_held3 (fun W' => (W'.cell? ⟨g, d * 5, none⟩ = some (.int .i64 y.id) ∧ W'.cell? ⟨g, d * 5 + 1, none⟩ = some (.int .i64 y.frm) ∧ W'.cell? ⟨g, d * 5 + 2, none⟩ = some (.int .i64 y.dst) ∧ W'.cell? ⟨g, d * 5 + 3, none⟩ = some (.string y.typ) ∧ W'.cell? ⟨g, d * 5 + 4, none⟩ = some (.slice y.pa y.pl y.pc)) ∧ (W'.cell? ⟨g, c * 5, none⟩ = some (.int .i64 x.id) ∧ W'.cell? ⟨g, c * 5 + 1, none⟩ = some (.int .i64 x.frm) ∧ W'.cell? ⟨g, c * 5 + 2, none⟩ = some (.int .i64 x.dst) ∧ W'.cell? ⟨g, c * 5 + 3, none⟩ = some (.string x.typ) ∧ W'.cell? ⟨g, c * 5 + 4, none⟩ = some (.slice x.pa x.pl x.pc)))
            (first
              | with_reducible exact HS.out _ k1
              | with_reducible exact HS.out _ D0
              | exact ⟨⟨p0, p1, p2, p3, p4⟩, ⟨q0, q1, q2, q3, q4⟩⟩
              | go_keep)
            (first
              | (go_at_call 108; go_fit HCC.out; rintro e u1 ⟨rfl, h1⟩; have k1 : Below wr.heap.size wr u1 := D0.trans h1))
          all_goals
            go_wp2_with fail
            go_meet
            exact ⟨by simp [cmpN_lt]; by_cases h : y.id < x.id <;> simp [h] <;> omega, k1⟩
      case rest =>
      obtain ⟨rfl, kz⟩ := hcut
      have HR2 := toHid (HR.out.below kz)
      have HK2 := toHid (HK.out.trans (Rest.of_below (O := fun _ => False) kz) fun _ _ h => h.elim)
      clear kz p0 p1 p2 p3 p4 q0 q1 q2 q3 q4
      have hlh := HLH.out
      have hnn := HNN.out
      have hd := HD.out
      by_cases hyx : y.id < x.id
      · rw [decide_eq_false (fun h => h hyx)]
        have HYX := toHid hyx
        clear hyx hlh hnn hd
        go_wp2_with fail
        go_roundg (c - s)
        case measure => omega
        case rel =>
          refine ⟨s, c, hls, hic, by omega, Nat.le_refl _, rfl, rfl, HBEL.out, fun k u v h1 h2 hu hv => ?_, HR2.out, HK2.out⟩
          have h3 := HYX.out
          have hlh := HLH.out
          have hnn := HNN.out
          have hd := HD.out
          by_cases hkc : k = c
          · subst hkc
            rw [Hx.out] at hu
            rw [← hd, Hy.out] at hv
            injection hu with hu
            injection hv with hv
            subst hu hv
            exact h3
          · have h4 := HS1.out c k x u (by omega) (by omega) (by omega) Hx.out hu
            have h5 := HS2.out (n - 1 - k) d v y (by omega) (by omega) (by omega) hv Hy.out
            omega
      · rw [decide_eq_true hyx]
        have HYX := toHid hyx
        clear hyx hlh hnn hd
        go_wp2_with fail
        go_roundg (r - (c + 1))
        case measure => omega
        case rel =>
          refine ⟨c + 1, r, by omega, by omega, hrh, Nat.le_refl _, by go_num, rfl, fun k u v h1 h2 hu hv => ?_, HABV.out, HR2.out, HK2.out⟩
          have h3 := HYX.out
          have hlh := HLH.out
          have hnn := HNN.out
          have hd := HD.out
          by_cases hkc : k = c
          · subst hkc
            rw [Hx.out] at hu
            rw [← hd, Hy.out] at hv
            injection hu with hu
            injection hv with hv
            subst hu hv
            omega
          · have h4 := HS1.out k c u x (by omega) (by omega) (by omega) hu Hx.out
            have h5 := HS2.out d (n - 1 - k) y v (by omega) (by omega) (by omega) Hy.out hv
            omega
    · have hij' : r = s := by omega
      subst hij'
      have hltI : ¬ (r : Int) < (r : Int) := by omega
      obtain ⟨e, he⟩ : ∃ e, e = n - r := ⟨_, rfl⟩
      have hlh := HLH.out
      have hnn := HNN.out
      have hbnds : a ≤ r ∧ r ≤ m ∧ m ≤ e ∧ e ≤ b ∧ r ≤ mid ∧ mid ≤ e := by omega
      have hw4 : wrap64 ((n : Int) - (r : Int)) = (e : Int) := (IntWalk.wrap64_in _ ⟨by omega, by omega⟩).trans (by omega)
      have hw5 : (n : Int) - (r : Int) = (e : Int) := by omega
      have HW5 := toHid hw5
      have HMM : Hid (∀ D1, RotR D D1 r m e → a ≤ r ∧ r ≤ m ∧ m ≤ e ∧ e ≤ b ∧ r ≤ mid ∧ mid ≤ e ∧ Ris Ed.id D1 a r ∧ Ris Ed.id D1 r mid ∧ Ris Ed.id D1 mid e ∧ Ris Ed.id D1 e b ∧ Und Ed.id D1 a mid b) := fun D1 hrot =>
        merge_mid (by omega) (by omega) hb HS1.out HS2.out HMID.out HNN.out he (by rw [← HLO.out]; exact hls) (by rw [← HHI.out]; exact hrh) (by rw [← HLO.out]; exact HBEL.out) (by rw [← HHI.out]; exact HABV.out) hrot
      have HBD := toHid hbnds
      have HE := toHid he
      clear hlh hnn he hw4 hw5 hltI hbnds
      have hbd := HBD.out
      go_upto_region 38 with fail
      go_cut [24] (fun x wz => x = .int .i64 e ∧ wz = wr)
      case first =>
        as_aux_lemma =>
          go_wp2_with fail
          go_meet
          exact ⟨by rw [HW5.out], rfl⟩
      case rest =>
      obtain ⟨rfl, hwc⟩ := hcut
      replace hwc := hwc.symm
      subst hwc
      go_upto_region 39 with fail
      go_cut [185] (fun c wz => c = .bool (decide (r < m ∧ m < e)) ∧ wz = wr)
      case first =>
        as_aux_lemma =>
          by_cases hP : r < m
          · have hPi : (r : Int) < (m : Int) := by omega
            by_cases hQ : m < e
            · have hQi : (m : Int) < (e : Int) := by omega
              go_wp2_with fail
              go_meet
              exact ⟨congrArg Value.bool (decide_eq_true (p := r < m ∧ m < e) ⟨hP, hQ⟩).symm, rfl⟩
            · have hQi : ¬ (m : Int) < (e : Int) := by omega
              go_wp2_with fail
              go_meet
              exact ⟨congrArg Value.bool (decide_eq_false (p := r < m ∧ m < e) (fun h => hQ h.2)).symm, rfl⟩
          · have hPi : ¬ (r : Int) < (m : Int) := by omega
            go_wp2_with fail
            go_meet
            exact ⟨congrArg Value.bool (decide_eq_false (p := r < m ∧ m < e) (fun h => hP h.1)).symm, rfl⟩
      case rest =>
      obtain ⟨rfl, hwc⟩ := hcut
      replace hwc := hwc.symm
      subst hwc
      go_upto_if 185 with fail
      go_cut [] (fun wq => ∃ D1, RotR D D1 r m e ∧ RowE wq g cap D1 ∧ Rest (fun j => j = g) w wq)
      case first =>
        as_aux_lemma =>
          by_cases hpq : r < m ∧ m < e
          · rw [decide_eq_true hpq]
            go_wp2_with fail
            refine (rotateE g cap r m e (fvE nb) D wr HR.out hpq.1 hpq.2 (by omega) hD).mono ?_
            rintro e' w1 ⟨rfl, D1, hrot, hR1, k1⟩
            have HX := toHid hrot
            have HR1 := toHid hR1
            have HK1 := toHid (HK.out.trans k1 fun _ _ h => h)
            clear hrot hR1 k1
            go_wp2_with fail
            go_meet
            exact ⟨D1, HX.out, HR1.out, HK1.out⟩
          · rw [decide_eq_false hpq]
            go_wp2_with fail
            go_meet
            exact ⟨D, RotR.none D r m e hbd.2.1 hbd.2.2.1 hpq, HR.out, HK.out⟩
      case rest =>
      obtain ⟨D1, hrot, hR1, hk1⟩ := hcut
      have hl1 : D1.length = D.length := hrot.len
      obtain ⟨_, _, _, _, _, _, r1, r2, r3, r4, hu⟩ := HMM.out D1 hrot
      have HMX := toHid (hrot.mix hbd.2.1 hbd.2.2.1 (by omega))
      have HR1 := toHid hR1
      have HK1 := toHid hk1
      have HCW1 := toHid (HC.out.rest hnb hk1)
      have HR1' := toHid r1
      have HR2' := toHid r2
      have HR3' := toHid r3
      have HR4' := toHid r4
      have HU := toHid hu
      have HL1 := toHid hl1
      clear hrot hR1 hk1 r1 r2 r3 r4 hu hl1 HR HK HCW HBEL HABV
      generalize wc = w1 at *
      go_upto_region 41 with fail
      go_cut [199] (fun c wz => c = .bool (decide (a < r ∧ r < mid)) ∧ wz = w1)
      case first =>
        as_aux_lemma =>
          by_cases hP : a < r
          · have hPi : (a : Int) < (r : Int) := by omega
            by_cases hQ : r < mid
            · have hQi : (r : Int) < (mid : Int) := by omega
              go_wp2_with fail
              go_meet
              exact ⟨congrArg Value.bool (decide_eq_true (p := a < r ∧ r < mid) ⟨hP, hQ⟩).symm, rfl⟩
            · have hQi : ¬ (r : Int) < (mid : Int) := by omega
              go_wp2_with fail
              go_meet
              exact ⟨congrArg Value.bool (decide_eq_false (p := a < r ∧ r < mid) (fun h => hQ h.2)).symm, rfl⟩
          · have hPi : ¬ (a : Int) < (r : Int) := by omega
            go_wp2_with fail
            go_meet
            exact ⟨congrArg Value.bool (decide_eq_false (p := a < r ∧ r < mid) (fun h => hP h.1)).symm, rfl⟩
      case rest =>
      obtain ⟨rfl, hwc⟩ := hcut
      replace hwc := hwc.symm
      subst hwc
      go_upto_if 199 with fail
      go_cut [] (fun wq => ∃ D2, MixS a mid D1 D2 ∧ Ris Ed.id D2 a mid ∧ RowE wq g cap D2 ∧ Rest (fun j => j = g) w wq)
      case first =>
        as_aux_lemma =>
          by_cases hpq : a < r ∧ r < mid
          · rw [decide_eq_true hpq]
            have HI := HIH.out g cap a r mid nb D1 w1 (by omega) HR1.out HCW1.out hnb hpq.1 hpq.2 (by have := HL1.out; omega) (by have := HL1.out; omega) HR1'.out HR2'.out
            rw [HL1.out] at HI
            have HI' := toHid HI
            clear HI
            go_wp2_with fail
            refine HI'.out.mono ?_
            rintro e' w2 ⟨rfl, D2, hm2, hs2, hR2, k2⟩
            have HX := toHid hm2
            have HY := toHid hs2
            have HR2 := toHid hR2
            have HK2 := toHid (HK1.out.trans k2 fun _ _ h => h)
            clear hm2 hs2 hR2 k2
            go_wp2_with fail
            go_meet
            exact ⟨D2, HX.out, HY.out, HR2.out, HK2.out⟩
          · rw [decide_eq_false hpq]
            go_wp2_with fail
            go_meet
            refine ⟨D1, MixS.refl _ _ _, ?_, HR1.out, HK1.out⟩
            by_cases hra : r = a
            · have := HR2'.out
              rw [hra] at this
              exact this
            · have : r = mid := by omega
              rw [← this]
              exact HR1'.out
      case rest =>
      obtain ⟨D2, hm2, hs2, hR2, hk2⟩ := hcut
      have HX := toHid hm2
      have HY := toHid hs2
      have HR2 := toHid hR2
      have HK2 := toHid hk2
      have HCW2 := toHid (HC.out.rest hnb hk2)
      have HL2 := toHid (hm2.1.trans HL1.out)
      have HR3 := toHid (HR3'.out.behind hm2 (Nat.le_refl _))
      have HR4 := toHid (HR4'.out.behind hm2 (by omega))
      clear hm2 hs2 hR2 hk2 HR1 HK1 HCW1 HR1' HR2' HR3' HR4'
      generalize wc = w2 at *
      go_upto_region 43 with fail
      go_cut [213] (fun c wz => c = .bool (decide (mid < e ∧ e < b)) ∧ wz = w2)
      case first =>
        as_aux_lemma =>
          by_cases hP : mid < e
          · have hPi : (mid : Int) < (e : Int) := by omega
            by_cases hQ : e < b
            · have hQi : (e : Int) < (b : Int) := by omega
              go_wp2_with fail
              go_meet
              exact ⟨congrArg Value.bool (decide_eq_true (p := mid < e ∧ e < b) ⟨hP, hQ⟩).symm, rfl⟩
            · have hQi : ¬ (e : Int) < (b : Int) := by omega
              go_wp2_with fail
              go_meet
              exact ⟨congrArg Value.bool (decide_eq_false (p := mid < e ∧ e < b) (fun h => hQ h.2)).symm, rfl⟩
          · have hPi : ¬ (mid : Int) < (e : Int) := by omega
            go_wp2_with fail
            go_meet
            exact ⟨congrArg Value.bool (decide_eq_false (p := mid < e ∧ e < b) (fun h => hP h.1)).symm, rfl⟩
      case rest =>
      obtain ⟨rfl, hwc⟩ := hcut
      replace hwc := hwc.symm
      subst hwc
      by_cases hpq : mid < e ∧ e < b
      · rw [decide_eq_true hpq]
        have HI := HIH.out g cap mid e b nb D2 w2 (by omega) HR2.out HCW2.out hnb hpq.1 hpq.2 (by have := HL2.out; omega) (by have := HL2.out; omega) HR3.out HR4.out
        rw [HL2.out] at HI
        have HI' := toHid HI
        clear HI
        go_wp2_with fail
        refine HI'.out.mono ?_
        rintro e' w3 ⟨rfl, D3, hm3, hs3, hR3, k3⟩
        have hend := merge_end (key := Ed.id) hbd.1 hbd.2.2.2.2.1 hbd.2.2.2.2.2 hbd.2.2.2.1 HU.out HX.out HY.out hm3 hs3
        have HEND := toHid hend
        have HR3x := toHid hR3
        have HK3 := toHid (HK2.out.trans k3 fun _ _ h => h)
        clear hm3 hs3 hR3 k3 hend
        go_wp2_with fail
        go_end0
        exact ⟨rfl, D3, (HMX.out.wide hbd.1 hbd.2.2.2.1).trans HEND.out.2, HEND.out.1, HR3x.out, HK3.out⟩
      · rw [decide_eq_false hpq]
        have hs3 : Ris Ed.id D2 mid b := by
          by_cases hme : e = mid
          · have := HR4.out
            rw [hme] at this
            exact this
          · have : e = b := by omega
            have h3 := HR3.out
            rw [this] at h3
            exact h3
        have HEND := toHid (merge_end (key := Ed.id) hbd.1 hbd.2.2.2.2.1 hbd.2.2.2.2.2 hbd.2.2.2.1 HU.out HX.out HY.out (MixS.refl _ _ _) hs3)
        clear hs3
        go_wp2_with fail
        go_end0
        exact ⟨rfl, D2, (HMX.out.wide hbd.1 hbd.2.2.2.1).trans HEND.out.2, HEND.out.1, HR2.out, HK2.out⟩

/-- slices' merge in place. -/
theorem symE : ∀ N, SymOkE N := by
  intro N
  induction N with
  | zero => intro g cap a m b nb D w h1 _ _ _ h2 h3; omega
  | succ N ih =>
    intro g cap a m b nb D w hN hR hC hnb ham hmb hb hD hS1 hS2
    by_cases h1 : m = a + 1
    · exact sym1E g cap a m b nb D w hR hC hnb h1 hmb hb hD hS2
    · by_cases h2 : b = m + 1
      · exact sym2E g cap a m b nb D w hR hC hnb (by omega) h2 hb hD hS1
      · exact sym3E N g cap a m b nb D w ih hN hR hC hnb (by omega) (by omega) hb hD hS1 hS2
end Go.Proofs.YtdlmlpddkfnfmaaGreatDoor
