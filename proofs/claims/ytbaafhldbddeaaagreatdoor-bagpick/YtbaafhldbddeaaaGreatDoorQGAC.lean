/-
  What is proved here: what the texts FIns, FSym1, FSym3 prove, in one text.
-/
import Derived.Test.YtbaafhldbddeaaaGreatDoorQGAB
import Derived.BigQuiet
namespace Go.Proofs.YtbaafhldbddeaaaGreatDoor
open Go.RowKit
set_option linter.unusedVariables false

set_option linter.unusedSimpArgs false

theorem swpF_comm {α : Type} {D : List α} {i j : Nat} {x y : α} (hx : D[i]? = some x) (hy : D[j]? = some y) (hij : i ≠ j) : swp D j i = swp D i j := by
  apply List.ext_getElem?
  intro k
  rw [swp_get hx hy, swp_get hy hx]
  by_cases h1 : k = i
  · subst h1; rw [if_pos rfl, if_neg hij, if_pos rfl]
  · rw [if_neg h1, if_neg h1]

section
variable {α : Type} {key : α → Int} {g bl : Nat} {s0 s1 : Value} {St : List α → World → Prop}

set_option maxHeartbeats 8000000 in
set_option maxRecDepth 100000 in
theorem insertionF (O : SrtOk key g bl s0 s1 St) (a b : Nat) (D : List α) (w : World) (h : St D w) (hab : a ≤ b) (hb : b ≤ D.length) (hD : D.length ≤ 1000000) :
    Calls Tryz.prog 96 #[dataV bl s0 s1, .int .i64 a, .int .i64 b] w fun e w' => e = .returned (.tuple #[]) ∧ ∃ E, MixS a b D E ∧ Ris key E a b ∧ St E w' ∧ Rg g w w' := by
  have HO := toHid O
  have hg := O.lt D w h
  have H := toHid (O.grow D w (w.alloc (dataO bl s0 s1)) h ((Below.refl _ _).alloc (Nat.le_refl _) _))
  clear h O
  go_enter Tryz.func96, Tryz.ntmps96
  go_wp2_with fail
  go_loopg [6, 7] (b - a) (fun q x6 x7 wr => ∃ (i : Nat) (E : List α), a + 1 ≤ i ∧ (i ≤ b ∨ i = a + 1) ∧ b - i ≤ q ∧ x6 = .int .i64 i ∧ MixS a b D E ∧ Ris key E a i ∧ St E wr ∧ Rg g (w.alloc (dataO bl s0 s1)) wr)
  case atStart => exact ⟨a + 1, D, Nat.le_refl _, .inr rfl, by omega, by go_num, MixS.refl _ _ _, Ris.one (Nat.le_refl _), H.out, Rg.refl _ _⟩
  case round =>
    obtain ⟨i, E, hai, hib, hq, rfl, hM, hS, hR, hk⟩ := hrel
    by_cases hlt : i < b
    · have hltI : (i : Int) < (b : Int) := by omega
      have HM := toHid hM
      have HS := toHid hS
      have HR := toHid hR
      have HK := toHid hk
      clear hM hS hR hk
      obtain ⟨w9, hw9⟩ : ∃ z, z = wr := ⟨_, rfl⟩
      subst hw9
      go_wp2_with fail
      go_loopg [7] (i - a) (fun q x7 wr => ∃ (j : Nat) (E : List α), a ≤ j ∧ j ≤ i ∧ j - a ≤ q ∧ x7 = .int .i64 j ∧ MixS a b D E ∧ InsI key E a i j ∧ St E wr ∧ Rg g (w.alloc (dataO bl s0 s1)) wr)
      case atStart => exact ⟨i, E, by omega, Nat.le_refl _, Nat.le_refl _, rfl, HM.out, InsI.start HS.out, HR.out, HK.out⟩
      case round =>
        clear HM HS HR HK
        obtain ⟨j, E, haj, hji, hq2, rfl, hM, hI, hR, hk⟩ := hrel
        have hEl : E.length = D.length := hM.1
        have hbx := box_kept hg hk
        have x0 := cell_of hbx 0
        have x1 := cell_of hbx 1
        simp at x0 x1
        have hbl := blkF_lt hbx
        by_cases hja : a < j
        · have hjaI : (a : Int) < (j : Int) := by omega
          obtain ⟨k, hkj⟩ : ∃ k, k = j - 1 := ⟨_, rfl⟩
          obtain ⟨x, hx⟩ : ∃ x, E[k]? = some x := ⟨_, List.getElem?_eq_getElem (by omega)⟩
          obtain ⟨y, hy⟩ : ∃ y, E[j]? = some y := ⟨_, List.getElem?_eq_getElem (by omega)⟩
          have ek : ((k : Nat) : Int) = (j : Int) - 1 := by omega
          have hl := HO.out.less E wr j k y x hR hy hx
          rw [ek] at hl
          have HL := toHid hl
          have HM := toHid hM
          have HI := toHid hI
          have HR := toHid hR
          have HK := toHid hk
          have HX := toHid hx
          have HY := toHid hy
          have HKJ := toHid hkj
          have HEK := toHid ek
          have HBX := toHid hbx
          clear hM hI hR hk hx hy hl hkj ek hbx hEl
          go_wp2_with fail
          refine HL.out.mono ?_
          rintro e u1 ⟨rfl, k1⟩
          have HR1 := toHid (HO.out.grow E wr u1 HR.out k1)
          have HK1 := toHid (HK.out.trans (Rg.of_below k1))
          have hbx1 := (k1.block _ hbl).trans HBX.out
          clear x0 x1 hbl k1
          have x1 := cell_of hbx1 1
          simp at x1
          have hbl := blkF_lt hbx1
          clear hbx1
          by_cases hlt2 : key y < key x
          · rw [decide_eq_true hlt2]
            obtain ⟨W', hrun, hst, hrg⟩ := HO.out.swap E u1 j k y x HR1.out HY.out HX.out
            rw [HEK.out] at hrun
            have hkj := HKJ.out
            have hx0 : E[j - 1]? = some x := by rw [← hkj]; exact HX.out
            have HI2 := toHid (HI.out.step hja hji hx0 HY.out hlt2)
            have HM2 := toHid (HM.out.trans (swp_mix (a := a) (b := b) hx0 HY.out (by omega) (by omega) (by omega)))
            have HST : Hid (St (swp E (j - 1) j) W') := by
              rw [← hkj, ← swpF_comm HX.out HY.out (by omega)]
              exact hst
            have HK2 := toHid (HK1.out.trans hrg)
            clear hst hrg hx0 hkj hlt2
            go_wp2_with fail
            go_roundg (j - 1 - a)
            case measure => omega
            case rel => exact ⟨j - 1, _, by omega, by omega, Nat.le_refl _, by have := HEK.out; go_num, HM2.out, HI2.out, HST.out, HK2.out⟩
          · rw [decide_eq_false hlt2]
            have HD := toHid (HI.out.done (by omega) hji (by have := HM.out.1; omega) (.inr fun x' y' hx' hy' => by
              have hkj := HKJ.out
              rw [← hkj, HX.out] at hx'
              rw [HY.out] at hy'
              injection hx' with hx'
              injection hy' with hy'
              subst hx' hy'
              omega))
            clear hlt2
            go_wp2_with fail
            go_roundg (b - (i + 1))
            case measure => omega
            case rel => exact ⟨i + 1, E, by omega, .inl (by omega), Nat.le_refl _, by go_num, HM.out, HD.out, HR1.out, HK1.out⟩
        · have hjaI : ¬ (a : Int) < (j : Int) := by omega
          have HD := toHid (hI.done (by omega) hji (by omega) (.inl (by omega)))
          have HM := toHid hM
          have HR := toHid hR
          have HK := toHid hk
          clear hM hI hR hk hEl hbx
          go_wp2_with fail
          go_roundg (b - (i + 1))
          case measure => omega
          case rel => exact ⟨i + 1, E, by omega, .inl (by omega), Nat.le_refl _, by go_num, HM.out, HD.out, HR.out, HK.out⟩
    · have HS : Hid (Ris key E a b) := by
        rcases hib with h | h
        · have : i = b := by omega
          subst this
          exact hS
        · exact Ris.one (by omega)
      have hltI : ¬ (i : Int) < (b : Int) := by omega
      have HM := toHid hM
      have HR := toHid hR
      have HK := toHid (box_rg hk)
      clear hM hS hR hk
      go_wp2_with fail
      go_end0
      exact ⟨rfl, E, HM.out, HS.out, HR.out, HK.out⟩
end

set_option linter.unusedSimpArgs false

section
variable {α : Type} {key : α → Int} {g bl : Nat} {s0 s1 : Value} {St : List α → World → Prop}

set_option maxHeartbeats 8000000 in
set_option maxRecDepth 100000 in
theorem sym1F (O : SrtOk key g bl s0 s1 St) (a m b : Nat) (D : List α) (w : World) (h : St D w) (hma : m = a + 1) (hmb : m < b) (hb : b ≤ D.length) (hD : D.length ≤ 1000000) (hS2 : Ris key D m b) :
    Calls Tryz.prog 97 #[dataV bl s0 s1, .int .i64 a, .int .i64 m, .int .i64 b] w fun e w' => e = .returned (.tuple #[]) ∧ ∃ E, MixS a b D E ∧ Ris key E a b ∧ St E w' ∧ Rg g w w' := by
  have HO := toHid O
  have hg := O.lt D w h
  have H := toHid (O.grow D w (w.alloc (dataO bl s0 s1)) h ((Below.refl _ _).alloc (Nat.le_refl _) _))
  have e1 : (m : Int) - (a : Int) = 1 := by omega
  have HMA := toHid hma
  have HS2 := toHid hS2
  obtain ⟨x, hx⟩ : ∃ x, D[a]? = some x := ⟨_, List.getElem?_eq_getElem (by omega)⟩
  have Hx := toHid hx
  clear h hma hS2 hx O
  go_enter Tryz.func97, Tryz.ntmps97
  go_wp2_with fail
  go_loopg [8, 9, 10] (b - m) (fun q x8 x9 x10 wr => ∃ (i j : Nat), m ≤ i ∧ i ≤ j ∧ j ≤ b ∧ j - i ≤ q ∧ x8 = .int .i64 i ∧ x9 = .int .i64 j ∧ (∀ k y, m ≤ k → k < i → D[k]? = some y → key y ≤ key x) ∧ (∀ k y, j ≤ k → k < b → D[k]? = some y → key x ≤ key y) ∧ St D wr ∧ Rg g (w.alloc (dataO bl s0 s1)) wr)
  case atStart => exact ⟨m, b, Nat.le_refl _, by omega, Nat.le_refl _, Nat.le_refl _, rfl, rfl, fun k y h1 h2 => by omega, fun k y h1 h2 => by omega, H.out, Rg.refl _ _⟩
  case round =>
    obtain ⟨i, j, hmi, hij, hjb, hq, rfl, rfl, hlo, hhi, hR, hk⟩ := hrel
    have HLO := toHid hlo
    have HHI := toHid hhi
    have HR := toHid hR
    have HK := toHid hk
    have hbx := box_kept hg hk
    have x0 := cell_of hbx 0
    simp at x0
    have hbl := blkF_lt hbx
    clear hlo hhi hR hk hbx
    by_cases hlt : i < j
    · obtain ⟨c, hcm⟩ : ∃ c, c = (i + j) / 2 := ⟨_, rfl⟩
      have hmid : ((i : Int) + (j : Int)) / 2 = (c : Int) := by omega
      have hic : i ≤ c := by omega
      have hcj : c < j := by omega
      clear hcm
      have hltI : (i : Int) < (j : Int) := by omega
      obtain ⟨y, hy⟩ : ∃ y, D[c]? = some y := ⟨_, List.getElem?_eq_getElem (by omega)⟩
      have Hy := toHid hy
      have HL := toHid (HO.out.less D wr c a y x HR.out hy Hx.out)
      clear hy
      go_wp2_with fail
      refine HL.out.mono ?_
      rintro e u1 ⟨rfl, k1⟩
      have HR2 := toHid (HO.out.grow D wr u1 HR.out k1)
      have HK2 := toHid (HK.out.trans (Rg.of_below k1))
      clear k1 x0 hbl
      by_cases hyx : key y < key x
      · rw [decide_eq_true hyx]
        have HYX := toHid hyx
        clear hyx
        go_wp2_with fail
        go_roundg (j - (c + 1))
        case measure => omega
        case rel =>
          refine ⟨c + 1, j, by omega, by omega, hjb, Nat.le_refl _, by go_num, rfl, fun k z h1 h2 hz => ?_, HHI.out, HR2.out, HK2.out⟩
          have h3 := HYX.out
          by_cases hkc : k = c
          · subst hkc
            rw [Hy.out] at hz
            injection hz with hz
            subst hz
            omega
          · have := HS2.out k c z y h1 (by omega) (by omega) hz Hy.out
            omega
      · rw [decide_eq_false hyx]
        have HYX := toHid hyx
        clear hyx
        go_wp2_with fail
        go_roundg (c - i)
        case measure => omega
        case rel =>
          refine ⟨i, c, hmi, hic, by omega, Nat.le_refl _, rfl, rfl, HLO.out, fun k z h1 h2 hz => ?_, HR2.out, HK2.out⟩
          have h3 := HYX.out
          by_cases hkc : k = c
          · subst hkc
            rw [Hy.out] at hz
            injection hz with hz
            subst hz
            omega
          · have := HS2.out c k y z (by omega) (by omega) h2 Hy.out hz
            omega
    · have hij' : j = i := by omega
      subst hij'
      have hltI : ¬ (j : Int) < (j : Int) := by omega
      have hU : UpI key D a b j a := by
        have hma := HMA.out
        refine ⟨fun p q u v h1 h2 h3 h4 h5 hu hv => HS2.out p q u v (by omega) h2 h3 hu hv, fun p u v h1 h2 => by omega, fun q u v h1 h2 hu hv => ?_, fun q u v h1 h2 hu hv => ?_⟩
        · rw [Hx.out] at hu
          injection hu with hu
          subst hu
          exact HHI.out q v h1 h2 hv
        · rw [Hx.out] at hv
          injection hv with hv
          subst hv
          exact HLO.out q u (by omega) h2 hu
      have HU := toHid hU
      have haj : a + 1 ≤ j := by have := HMA.out; omega
      have hj1 : wrap64 ((j : Int) - 1) = (((j - 1 : Nat)) : Int) := (IntWalk.wrap64_in _ ⟨by omega, by omega⟩).trans (by omega)
      clear hU hltI x0 hbl
      go_wp2_with fail
      obtain ⟨wo, hwo⟩ : ∃ z, z = wr := ⟨_, rfl⟩
      subst hwo
      go_loopg [11] (j - a) (fun q x11 wr => ∃ (k : Nat) (E : List α), a ≤ k ∧ k + 1 ≤ j ∧ j - k ≤ q ∧ x11 = .int .i64 k ∧ MixS a b D E ∧ UpI key E a b j k ∧ St E wr ∧ Rg g (w.alloc (dataO bl s0 s1)) wr)
      case atStart => exact ⟨a, D, Nat.le_refl _, haj, Nat.le_refl _, rfl, MixS.refl _ _ _, HU.out, HR.out, HK.out⟩
      case round =>
        clear HR HK HU
        obtain ⟨k, E, hak, hkj, hq2, rfl, hM, hI, hR, hk⟩ := hrel
        have hEl : E.length = D.length := hM.1
        by_cases hlt2 : k + 1 < j
        · have hl2 : (k : Int) < (j : Int) - 1 := by omega
          obtain ⟨u, hu⟩ : ∃ u, E[k]? = some u := ⟨_, List.getElem?_eq_getElem (by omega)⟩
          obtain ⟨v, hv⟩ : ∃ v, E[k + 1]? = some v := ⟨_, List.getElem?_eq_getElem (by omega)⟩
          obtain ⟨W', hrun, hst, hrg⟩ := HO.out.swap E wr k (k + 1) u v hR hu hv
          have ek : ((k + 1 : Nat) : Int) = (k : Int) + 1 := by omega
          rw [ek] at hrun
          have HI2 := toHid (hI.step hlt2 hak hjb hu hv)
          have HM2 := toHid (hM.trans (swp_mix (a := a) (b := b) hu hv (by omega) (by omega) (by omega)))
          have HST := toHid hst
          have HK := toHid (hk.trans hrg)
          have hbx := box_kept hg hk
          have x1 := cell_of hbx 1
          simp at x1
          have hbl := blkF_lt hbx
          clear hM hI hR hk hu hv hEl hst hrg hbx ek
          go_wp2_with fail
          go_roundg (j - (k + 1))
          case measure => omega
          case rel => exact ⟨k + 1, _, by omega, by omega, Nat.le_refl _, by go_num, HM2.out, HI2.out, HST.out, HK.out⟩
        · have hl2 : ¬ (k : Int) < (j : Int) - 1 := by omega
          have HD := toHid (hI.done (by omega))
          have HM := toHid hM
          have HR := toHid hR
          have HK := toHid (box_rg hk)
          clear hM hI hR hk hEl
          go_wp2_with fail
          first | go_end0 | (simp only [Exit.inBlock, Exit.then]; refine bodyPost_ret (results_none rfl _ _ _) rfl ?_) | refine bodyPost_ret (results_none rfl _ _ _) rfl ?_
          exact ⟨rfl, E, HM.out, HD.out, HR.out, HK.out⟩

set_option maxHeartbeats 8000000 in
set_option maxRecDepth 100000 in
theorem sym2F (O : SrtOk key g bl s0 s1 St) (a m b : Nat) (D : List α) (w : World) (h : St D w) (ham : a + 2 ≤ m) (hbm : b = m + 1) (hb : b ≤ D.length) (hD : D.length ≤ 1000000) (hS1 : Ris key D a m) :
    Calls Tryz.prog 97 #[dataV bl s0 s1, .int .i64 a, .int .i64 m, .int .i64 b] w fun e w' => e = .returned (.tuple #[]) ∧ ∃ E, MixS a b D E ∧ Ris key E a b ∧ St E w' ∧ Rg g w w' := by
  have HO := toHid O
  have hg := O.lt D w h
  have H := toHid (O.grow D w (w.alloc (dataO bl s0 s1)) h ((Below.refl _ _).alloc (Nat.le_refl _) _))
  have e1 : ((m : Int) - (a : Int) == 1) = false := beq_eq_false_iff_ne.2 (by omega)
  have e2 : (b : Int) - (m : Int) = 1 := by omega
  have HBM := toHid hbm
  have HS1 := toHid hS1
  obtain ⟨x, hx⟩ : ∃ x, D[m]? = some x := ⟨_, List.getElem?_eq_getElem (by omega)⟩
  have Hx := toHid hx
  have hbl2 : b ≤ 1000000 := by omega
  clear h hbm hS1 hx O
  go_enter Tryz.func97, Tryz.ntmps97
  go_wp2_with fail
  go_loopg [12, 13, 14] (m - a) (fun q x12 x13 x14 wr => ∃ (i j : Nat), a ≤ i ∧ i ≤ j ∧ j ≤ m ∧ j - i ≤ q ∧ x12 = .int .i64 i ∧ x13 = .int .i64 j ∧ (∀ k y, a ≤ k → k < i → D[k]? = some y → key y ≤ key x) ∧ (∀ k y, j ≤ k → k < m → D[k]? = some y → key x ≤ key y) ∧ St D wr ∧ Rg g (w.alloc (dataO bl s0 s1)) wr)
  case atStart => exact ⟨a, m, Nat.le_refl _, by omega, Nat.le_refl _, Nat.le_refl _, rfl, rfl, fun k y h1 h2 => by omega, fun k y h1 h2 => by omega, H.out, Rg.refl _ _⟩
  case round =>
    obtain ⟨i, j, hai, hij, hjm, hq, rfl, rfl, hlo, hhi, hR, hk⟩ := hrel
    have HLO := toHid hlo
    have HHI := toHid hhi
    have HR := toHid hR
    have HK := toHid hk
    have hbx := box_kept hg hk
    have x0 := cell_of hbx 0
    simp at x0
    have hbl := blkF_lt hbx
    clear hlo hhi hR hk hbx
    by_cases hlt : i < j
    · obtain ⟨c, hcm⟩ : ∃ c, c = (i + j) / 2 := ⟨_, rfl⟩
      have hmid : ((i : Int) + (j : Int)) / 2 = (c : Int) := by omega
      have hic : i ≤ c := by omega
      have hcj : c < j := by omega
      clear hcm
      have hltI : (i : Int) < (j : Int) := by omega
      obtain ⟨y, hy⟩ : ∃ y, D[c]? = some y := ⟨_, List.getElem?_eq_getElem (by omega)⟩
      have Hy := toHid hy
      have HL := toHid (HO.out.less D wr m c x y HR.out Hx.out hy)
      clear hy
      go_wp2_with fail
      refine HL.out.mono ?_
      rintro e u1 ⟨rfl, k1⟩
      have HR2 := toHid (HO.out.grow D wr u1 HR.out k1)
      have HK2 := toHid (HK.out.trans (Rg.of_below k1))
      clear k1 x0 hbl
      by_cases hyx : key x < key y
      · rw [decide_eq_true hyx]
        have HYX := toHid hyx
        clear hyx
        go_wp2_with fail
        go_roundg (c - i)
        case measure => omega
        case rel =>
          refine ⟨i, c, hai, hic, by omega, Nat.le_refl _, rfl, rfl, HLO.out, fun k z h1 h2 hz => ?_, HR2.out, HK2.out⟩
          have h3 := HYX.out
          by_cases hkc : k = c
          · subst hkc
            rw [Hy.out] at hz
            injection hz with hz
            subst hz
            omega
          · have := HS1.out c k y z (by omega) (by omega) h2 Hy.out hz
            omega
      · rw [decide_eq_false hyx]
        have HYX := toHid hyx
        clear hyx
        go_wp2_with fail
        go_roundg (j - (c + 1))
        case measure => omega
        case rel =>
          refine ⟨c + 1, j, by omega, by omega, hjm, Nat.le_refl _, by go_num, rfl, fun k z h1 h2 hz => ?_, HHI.out, HR2.out, HK2.out⟩
          have h3 := HYX.out
          by_cases hkc : k = c
          · subst hkc
            rw [Hy.out] at hz
            injection hz with hz
            subst hz
            omega
          · have := HS1.out k c z y h1 (by omega) (by omega) hz Hy.out
            omega
    · have hij' : j = i := by omega
      subst hij'
      have hltI : ¬ (j : Int) < (j : Int) := by omega
      have hU : DnI key D a b j m := by
        have hbm := HBM.out
        refine ⟨fun p q u v h1 h2 h3 h4 h5 hu hv => HS1.out p q u v h1 h2 (by omega) hu hv, fun p u v h1 h2 hu hv => ?_, fun q u v h1 h2 => by omega, fun q u v h1 h2 hu hv => ?_⟩
        · rw [Hx.out] at hv
          injection hv with hv
          subst hv
          exact HLO.out p u h1 h2 hu
        · rw [Hx.out] at hu
          injection hu with hu
          subst hu
          exact HHI.out q v h1 h2 hv
      have HU := toHid hU
      clear hU hltI x0 hbl
      go_wp2_with fail
      obtain ⟨wo, hwo⟩ : ∃ z, z = wr := ⟨_, rfl⟩
      subst hwo
      go_loopg [15] (m - j) (fun q x15 wr => ∃ (k : Nat) (E : List α), j ≤ k ∧ k ≤ m ∧ k - j ≤ q ∧ x15 = .int .i64 k ∧ MixS a b D E ∧ DnI key E a b j k ∧ St E wr ∧ Rg g (w.alloc (dataO bl s0 s1)) wr)
      case atStart => exact ⟨m, D, hjm, Nat.le_refl _, Nat.le_refl _, rfl, MixS.refl _ _ _, HU.out, HR.out, HK.out⟩
      case round =>
        clear HR HK HU
        obtain ⟨k, E, hjk, hkm, hq2, rfl, hM, hI, hR, hk⟩ := hrel
        have hEl : E.length = D.length := hM.1
        have hbm := HBM.out
        by_cases hlt2 : j < k
        · have hl2 : (j : Int) < (k : Int) := by omega
          obtain ⟨l, hlk⟩ : ∃ l, k = l + 1 := ⟨k - 1, by omega⟩
          obtain ⟨u, hu⟩ : ∃ u, E[k]? = some u := ⟨_, List.getElem?_eq_getElem (by omega)⟩
          obtain ⟨v, hv⟩ : ∃ v, E[l]? = some v := ⟨_, List.getElem?_eq_getElem (by omega)⟩
          obtain ⟨W', hrun, hst, hrg⟩ := HO.out.swap E wr k l u v hR hu hv
          have el : ((l : Nat) : Int) = (k : Int) - 1 := by omega
          rw [el] at hrun
          have hu' : E[l + 1]? = some u := by rw [← hlk]; exact hu
          rw [hlk] at hI
          have HI2 := toHid (hI.step (by omega) hai (by omega) hv hu')
          have HM2 := toHid (hM.trans (swp_mix (a := a) (b := b) hv hu' (by omega) (by omega) (by omega)))
          have HST : Hid (St (swp E l (l + 1)) W') := by
            rw [← swpF_comm hv hu' (by omega), ← hlk]
            exact hst
          have HK := toHid (hk.trans hrg)
          have hbx := box_kept hg hk
          have x1 := cell_of hbx 1
          simp at x1
          have hbl := blkF_lt hbx
          have HLK := toHid hlk
          have HEL := toHid el
          clear hM hI hR hk hu hu' hv hEl hlk hbm hst hrg hbx el
          go_wp2_with fail
          go_roundg (l - j)
          case measure => have := HLK.out; omega
          case rel => exact ⟨l, _, by have := HLK.out; omega, by have := HLK.out; omega, Nat.le_refl _, by have := HEL.out; go_num, HM2.out, HI2.out, HST.out, HK.out⟩
        · have hl2 : ¬ (j : Int) < (k : Int) := by omega
          have HD := toHid (hI.done (by omega))
          have HM := toHid hM
          have HR := toHid hR
          have HK := toHid (box_rg hk)
          clear hM hI hR hk hEl hbm
          go_wp2_with fail
          first | go_end0 | (simp only [Exit.inBlock, Exit.then]; refine bodyPost_ret (results_none rfl _ _ _) rfl ?_) | refine bodyPost_ret (results_none rfl _ _ _) rfl ?_
          exact ⟨rfl, E, HM.out, HD.out, HR.out, HK.out⟩
end

set_option linter.unusedSimpArgs false

theorem RotR.noneF {α : Type} (D : List α) (s m e : Nat) (hsm : s ≤ m) (hme : m ≤ e) (h : ¬ (s < m ∧ m < e)) : RotR D D s m e := by
  refine ⟨rfl, fun _ _ => rfl, fun _ _ => rfl, fun t ht => ?_, fun t ht => ?_⟩
  · have : s = m := by omega
    rw [this]
  · have : e = m := by omega
    rw [this, Nat.sub_self, Nat.add_zero]

section
variable {α : Type} {key : α → Int} {g bl : Nat} {s0 s1 : Value} {St : List α → World → Prop}

/-- What a merge does. -/
def SymF (key : α → Int) (g bl : Nat) (s0 s1 : Value) (St : List α → World → Prop) (N : Nat) : Prop := ∀ (a m b : Nat) (D : List α) (w : World), b - a ≤ N → St D w → a < m → m < b → b ≤ D.length → D.length ≤ 1000000 → Ris key D a m → Ris key D m b →
    Calls Tryz.prog 97 #[dataV bl s0 s1, .int .i64 a, .int .i64 m, .int .i64 b] w fun e w' => e = .returned (.tuple #[]) ∧ ∃ E, MixS a b D E ∧ Ris key E a b ∧ St E w' ∧ Rg g w w'

set_option maxHeartbeats 8000000 in
set_option maxRecDepth 100000 in
theorem sym3F (O : SrtOk key g bl s0 s1 St) (N a m b : Nat) (D : List α) (w : World) (ih : SymF key g bl s0 s1 St N) (hN : b - a ≤ N + 1) (h : St D w) (ham : a + 2 ≤ m) (hmb : m + 2 ≤ b) (hb : b ≤ D.length) (hD : D.length ≤ 1000000) (hS1 : Ris key D a m) (hS2 : Ris key D m b) :
    Calls Tryz.prog 97 #[dataV bl s0 s1, .int .i64 a, .int .i64 m, .int .i64 b] w fun e w' => e = .returned (.tuple #[]) ∧ ∃ E, MixS a b D E ∧ Ris key E a b ∧ St E w' ∧ Rg g w w' := by
  have HO := toHid O
  have hg := O.lt D w h
  have H := toHid (O.grow D w (w.alloc (dataO bl s0 s1)) h ((Below.refl _ _).alloc (Nat.le_refl _) _))
  obtain ⟨w0, hw0⟩ : ∃ z, z = w.alloc (dataO bl s0 s1) := ⟨_, rfl⟩
  have e1 : ((m : Int) - (a : Int) == 1) = false := beq_eq_false_iff_ne.2 (by omega)
  have e2 : ((b : Int) - (m : Int) == 1) = false := beq_eq_false_iff_ne.2 (by omega)
  obtain ⟨mid, hmid⟩ : ∃ mid, mid = (a + b) / 2 := ⟨_, rfl⟩
  obtain ⟨n, hn⟩ : ∃ n, n = mid + m := ⟨_, rfl⟩
  obtain ⟨p, hp⟩ : ∃ p, p = n - 1 := ⟨_, rfl⟩
  obtain ⟨lo, hlo⟩ : ∃ lo, lo = if mid < m then n - b else a := ⟨_, rfl⟩
  obtain ⟨hi, hhi⟩ : ∃ hi, hi = if mid < m then mid else m := ⟨_, rfl⟩
  have hm2 : 2 * mid ≤ a + b ∧ a + b ≤ 2 * mid + 1 := by omega
  have hlh : a ≤ lo ∧ lo ≤ hi ∧ hi ≤ m ∧ hi ≤ mid ∧ n - lo ≤ b ∧ m ≤ n - hi ∧ lo ≤ n ∧ n ≤ 2000000 := by
    rw [hlo, hhi]
    split <;> omega
  have f1 : ((a : Int) + (b : Int)) / 2 = (mid : Int) := by omega
  have f2 : (mid : Int) + (m : Int) = (n : Int) := by omega
  have f3 : wrap64 ((n : Int) - 1) = (p : Int) := (IntWalk.wrap64_in _ ⟨by omega, by omega⟩).trans (by omega)
  have f3' : IntKind.i64.wrap ((n : Int) - 1) = (p : Int) := by rw [IntKind.wrap_i64]; omega
  have HS1 := toHid hS1
  have HS2 := toHid hS2
  have HMID := toHid hmid
  have HNN := toHid hn
  have HP := toHid hp
  have HLO := toHid hlo
  have HHI := toHid hhi
  have HLH := toHid hlh
  have HIH := toHid ih
  clear h hS1 hS2 hmid hn hp hlo hhi hlh ih hm2 O
  have F2 := toHid f2
  go_enter Tryz.func97, Tryz.ntmps97
  go_upto_if 106 with fail
  rw [← hw0]
  rw [← hw0] at H
  have HW0 := toHid hw0
  clear hw0
  go_cut [18, 19] (fun x18 x19 wx => x18 = .int .i64 lo ∧ x19 = .int .i64 hi ∧ wx = w0)
  case first =>
    as_aux_lemma =>
      by_cases hq : mid < m
      · have hqi : (mid : Int) < (m : Int) := by omega
        have g1 : lo = n - b := by rw [HLO.out, if_pos hq]
        have g2 : hi = mid := by rw [HHI.out, if_pos hq]
        have g3 : (n : Int) - (b : Int) = (lo : Int) := by have := HLH.out; have := HNN.out; have := HMID.out; omega
        have G3 := toHid g3
        have g4 : wrap64 ((n : Int) - (b : Int)) = (lo : Int) := (IntWalk.wrap64_in _ ⟨by omega, by omega⟩).trans g3
        clear g3
        go_wp2_with fail
        go_meet
        exact ⟨by first | rfl | rw [← G3.out] | rw [G3.out], by rw [g2], rfl⟩
      · have hqi : ¬ (mid : Int) < (m : Int) := by omega
        have g1 : lo = a := by rw [HLO.out, if_neg hq]
        have g2 : hi = m := by rw [HHI.out, if_neg hq]
        go_wp2_with fail
        go_meet
        exact ⟨by rw [g1], by rw [g2], rfl⟩
  case rest =>
  obtain ⟨rfl, rfl, hwc⟩ := hcut
  replace hwc := hwc.symm
  subst hwc
  go_wp2_with fail
  go_loopg [18, 19, 21] (hi - lo) (fun q x18 x19 x21 wr => ∃ (s r : Nat), lo ≤ s ∧ s ≤ r ∧ r ≤ hi ∧ r - s ≤ q ∧ x18 = .int .i64 s ∧ x19 = .int .i64 r ∧ (∀ c x y, lo ≤ c → c < s → D[c]? = some x → D[n - 1 - c]? = some y → key x ≤ key y) ∧ (∀ c x y, r ≤ c → c < hi → D[c]? = some x → D[n - 1 - c]? = some y → key y < key x) ∧ St D wr ∧ Rg g w0 wr)
  case atStart => exact ⟨lo, hi, Nat.le_refl _, HLH.out.2.1, Nat.le_refl _, Nat.le_refl _, rfl, rfl, fun c x y h1 h2 => by omega, fun c x y h1 h2 => by omega, H.out, Rg.refl _ _⟩
  case round =>
    obtain ⟨s, r, hls, hsr, hrh, hq, rfl, rfl, hbel, habv, hR, hk⟩ := hrel
    have HBEL := toHid hbel
    have HABV := toHid habv
    have HR := toHid hR
    have HK := toHid hk
    have hbx := box_kept (bl := bl) (s0 := s0) (s1 := s1) hg (by rw [← HW0.out]; exact hk)
    have x0 := cell_of hbx 0
    have x1 := cell_of hbx 1
    simp at x0 x1
    have hbl := blkF_lt hbx
    have HBX := toHid hbx
    clear hbel habv hR hk hbx
    by_cases hlt : s < r
    · obtain ⟨c, hcm⟩ : ∃ c, c = (s + r) / 2 := ⟨_, rfl⟩
      obtain ⟨d, hd⟩ : ∃ d, d = n - 1 - c := ⟨_, rfl⟩
      have hcs : ((s : Int) + (r : Int)) / 2 = (c : Int) := by omega
      have hic : s ≤ c := by omega
      have hcj : c < r := by omega
      have hlh := HLH.out
      have hnn := HNN.out
      have hpp := HP.out
      have hdm : m ≤ d ∧ d < b := by omega
      have hw4 : wrap64 ((p : Int) - (c : Int)) = (d : Int) := (IntWalk.wrap64_in _ ⟨by omega, by omega⟩).trans (by omega)
      have hw5 : IntKind.i64.wrap ((p : Int) - (c : Int)) = (d : Int) := by rw [IntKind.wrap_i64]; omega
      have hltI : (s : Int) < (r : Int) := by omega
      obtain ⟨x, hx⟩ : ∃ x, D[c]? = some x := ⟨_, List.getElem?_eq_getElem (by omega)⟩
      obtain ⟨y, hy⟩ : ∃ y, D[d]? = some y := ⟨_, List.getElem?_eq_getElem (by omega)⟩
      have Hx := toHid hx
      have Hy := toHid hy
      have hcl : (c : Int) < (D.length : Int) := by omega
      have hdl : (d : Int) < (D.length : Int) := by omega
      have HD := toHid hd
      have HCM := toHid hcm
      clear hcm hx hy hd hlh hnn hpp hdm
      have HL := toHid (HO.out.less D wr d c y x HR.out Hy.out Hx.out)
      go_wp2_with fail
      refine HL.out.mono ?_
      rintro e u1 ⟨rfl, k1⟩
      have HR2 := toHid (HO.out.grow D wr u1 HR.out k1)
      have HK2 := toHid (HK.out.trans (Rg.of_below k1))
      clear k1 x0 x1 hbl hw4 hw5
      have hlh := HLH.out
      have hnn := HNN.out
      have hd := HD.out
      by_cases hyx : key y < key x
      · rw [decide_eq_true hyx]
        have HYX := toHid hyx
        clear hyx hlh hnn hd
        go_wp2_with fail
        go_roundg (c - s)
        case measure => omega
        case rel =>
          refine ⟨s, c, hls, hic, by omega, Nat.le_refl _, rfl, rfl, HBEL.out, fun k u v h1 h2 hu hv => ?_, HR2.out, HK2.out⟩
          have h3 := HYX.out
          have hlh := HLH.out
          have hnn := HNN.out
          have hd := HD.out
          by_cases hkc : k = c
          · subst hkc
            rw [Hx.out] at hu
            rw [← hd, Hy.out] at hv
            injection hu with hu
            injection hv with hv
            subst hu hv
            exact h3
          · have h4 := HS1.out c k x u (by omega) (by omega) (by omega) Hx.out hu
            have h5 := HS2.out (n - 1 - k) d v y (by omega) (by omega) (by omega) hv Hy.out
            omega
      · rw [decide_eq_false hyx]
        have HYX := toHid hyx
        clear hyx hlh hnn hd
        go_wp2_with fail
        go_roundg (r - (c + 1))
        case measure => omega
        case rel =>
          refine ⟨c + 1, r, by omega, by omega, hrh, Nat.le_refl _, by go_num, rfl, fun k u v h1 h2 hu hv => ?_, HABV.out, HR2.out, HK2.out⟩
          have h3 := HYX.out
          have hlh := HLH.out
          have hnn := HNN.out
          have hd := HD.out
          by_cases hkc : k = c
          · subst hkc
            rw [Hx.out] at hu
            rw [← hd, Hy.out] at hv
            injection hu with hu
            injection hv with hv
            subst hu hv
            omega
          · have h4 := HS1.out k c u x (by omega) (by omega) (by omega) hu Hx.out
            have h5 := HS2.out d (n - 1 - k) y v (by omega) (by omega) (by omega) Hy.out hv
            omega
    · have hij' : r = s := by omega
      subst hij'
      have hltI : ¬ (r : Int) < (r : Int) := by omega
      obtain ⟨e, he⟩ : ∃ e, e = n - r := ⟨_, rfl⟩
      have hlh := HLH.out
      have hnn := HNN.out
      have hbnds : a ≤ r ∧ r ≤ m ∧ m ≤ e ∧ e ≤ b ∧ r ≤ mid ∧ mid ≤ e := by omega
      have hw4 : wrap64 ((n : Int) - (r : Int)) = (e : Int) := (IntWalk.wrap64_in _ ⟨by omega, by omega⟩).trans (by omega)
      have hw5 : (n : Int) - (r : Int) = (e : Int) := by omega
      have HW5 := toHid hw5
      have HMM : Hid (∀ D1, RotR D D1 r m e → a ≤ r ∧ r ≤ m ∧ m ≤ e ∧ e ≤ b ∧ r ≤ mid ∧ mid ≤ e ∧ Ris key D1 a r ∧ Ris key D1 r mid ∧ Ris key D1 mid e ∧ Ris key D1 e b ∧ Und key D1 a mid b) := fun D1 hrot =>
        merge_mid (by omega) (by omega) hb HS1.out HS2.out HMID.out HNN.out he (by rw [← HLO.out]; exact hls) (by rw [← HHI.out]; exact hrh) (by rw [← HLO.out]; exact HBEL.out) (by rw [← HHI.out]; exact HABV.out) hrot
      have HBD := toHid hbnds
      have HE := toHid he
      clear hlh hnn he hw4 hw5 hltI hbnds
      have hbd := HBD.out
      go_upto_region 39 with fail
      go_cut [22] (fun x wz => x = .int .i64 e ∧ wz = wr)
      case first =>
        as_aux_lemma =>
          go_wp2_with fail
          go_meet
          exact ⟨by rw [HW5.out], rfl⟩
      case rest =>
      obtain ⟨rfl, hwc⟩ := hcut
      replace hwc := hwc.symm
      subst hwc
      go_upto_region 40 with fail
      go_cut [145] (fun c wz => c = .bool (decide (r < m ∧ m < e)) ∧ wz = wr)
      case first =>
        as_aux_lemma =>
          by_cases hP : r < m
          · have hPi : (r : Int) < (m : Int) := by omega
            by_cases hQ : m < e
            · have hQi : (m : Int) < (e : Int) := by omega
              go_wp2_with fail
              go_meet
              exact ⟨congrArg Value.bool (decide_eq_true (p := r < m ∧ m < e) ⟨hP, hQ⟩).symm, rfl⟩
            · have hQi : ¬ (m : Int) < (e : Int) := by omega
              go_wp2_with fail
              go_meet
              exact ⟨congrArg Value.bool (decide_eq_false (p := r < m ∧ m < e) (fun h => hQ h.2)).symm, rfl⟩
          · have hPi : ¬ (r : Int) < (m : Int) := by omega
            go_wp2_with fail
            go_meet
            exact ⟨congrArg Value.bool (decide_eq_false (p := r < m ∧ m < e) (fun h => hP h.1)).symm, rfl⟩
      case rest =>
      obtain ⟨rfl, hwc⟩ := hcut
      replace hwc := hwc.symm
      subst hwc
      go_upto_if 145 with fail
      go_cut [] (fun wq => ∃ D1, RotR D D1 r m e ∧ St D1 wq ∧ Rg g w0 wq)
      case first =>
        as_aux_lemma =>
          by_cases hpq : r < m ∧ m < e
          · rw [decide_eq_true hpq]
            go_wp2_with fail
            refine (rotateF HO.out r m e D wr HR.out hpq.1 hpq.2 (by omega) hD).mono ?_
            rintro e' w1 ⟨rfl, D1, hrot, hR1, k1⟩
            have HX := toHid hrot
            have HR1 := toHid hR1
            have HK1 := toHid (HK.out.trans k1)
            clear hrot hR1 k1
            go_wp2_with fail
            go_meet
            exact ⟨D1, HX.out, HR1.out, HK1.out⟩
          · rw [decide_eq_false hpq]
            go_wp2_with fail
            go_meet
            exact ⟨D, RotR.noneF D r m e hbd.2.1 hbd.2.2.1 hpq, HR.out, HK.out⟩
      case rest =>
      obtain ⟨D1, hrot, hR1, hk1⟩ := hcut
      have hl1 : D1.length = D.length := hrot.len
      obtain ⟨_, _, _, _, _, _, r1, r2, r3, r4, hu⟩ := HMM.out D1 hrot
      have HMX := toHid (hrot.mix hbd.2.1 hbd.2.2.1 (by omega))
      have HR1 := toHid hR1
      have HK1 := toHid hk1
      have HR1' := toHid r1
      have HR2' := toHid r2
      have HR3' := toHid r3
      have HR4' := toHid r4
      have HU := toHid hu
      have HL1 := toHid hl1
      clear hrot hR1 hk1 r1 r2 r3 r4 hu hl1 HR HK HBEL HABV HBX x0 x1 hbl
      have hbx1 := box_kept (bl := bl) (s0 := s0) (s1 := s1) hg (by rw [← HW0.out]; exact HK1.out)
      have x0 := cell_of hbx1 0
      have x1 := cell_of hbx1 1
      simp at x0 x1
      have hbl := blkF_lt hbx1
      clear hbx1
      generalize wc = w1 at *
      go_upto_region 42 with fail
      go_cut [158] (fun c wz => c = .bool (decide (a < r ∧ r < mid)) ∧ wz = w1)
      case first =>
        as_aux_lemma =>
          by_cases hP : a < r
          · have hPi : (a : Int) < (r : Int) := by omega
            by_cases hQ : r < mid
            · have hQi : (r : Int) < (mid : Int) := by omega
              go_wp2_with fail
              go_meet
              exact ⟨congrArg Value.bool (decide_eq_true (p := a < r ∧ r < mid) ⟨hP, hQ⟩).symm, rfl⟩
            · have hQi : ¬ (r : Int) < (mid : Int) := by omega
              go_wp2_with fail
              go_meet
              exact ⟨congrArg Value.bool (decide_eq_false (p := a < r ∧ r < mid) (fun h => hQ h.2)).symm, rfl⟩
          · have hPi : ¬ (a : Int) < (r : Int) := by omega
            go_wp2_with fail
            go_meet
            exact ⟨congrArg Value.bool (decide_eq_false (p := a < r ∧ r < mid) (fun h => hP h.1)).symm, rfl⟩
      case rest =>
      obtain ⟨rfl, hwc⟩ := hcut
      replace hwc := hwc.symm
      subst hwc
      go_upto_if 158 with fail
      go_cut [] (fun wq => ∃ D2, MixS a mid D1 D2 ∧ Ris key D2 a mid ∧ St D2 wq ∧ Rg g w0 wq)
      case first =>
        as_aux_lemma =>
          by_cases hpq : a < r ∧ r < mid
          · rw [decide_eq_true hpq]
            have HI := HIH.out a r mid D1 w1 (by omega) HR1.out hpq.1 hpq.2 (by have := HL1.out; omega) (by have := HL1.out; omega) HR1'.out HR2'.out
            have HI' := toHid HI
            clear HI
            go_wp2_with fail
            refine HI'.out.mono ?_
            rintro e' w2 ⟨rfl, D2, hm2, hs2, hR2, k2⟩
            have HX := toHid hm2
            have HY := toHid hs2
            have HR2 := toHid hR2
            have HK2 := toHid (HK1.out.trans k2)
            clear hm2 hs2 hR2 k2
            go_wp2_with fail
            go_meet
            exact ⟨D2, HX.out, HY.out, HR2.out, HK2.out⟩
          · rw [decide_eq_false hpq]
            go_wp2_with fail
            go_meet
            refine ⟨D1, MixS.refl _ _ _, ?_, HR1.out, HK1.out⟩
            by_cases hra : r = a
            · have := HR2'.out
              rw [hra] at this
              exact this
            · have : r = mid := by omega
              rw [← this]
              exact HR1'.out
      case rest =>
      obtain ⟨D2, hm2, hs2, hR2, hk2⟩ := hcut
      have HX := toHid hm2
      have HY := toHid hs2
      have HR2 := toHid hR2
      have HK2 := toHid hk2
      have HL2 := toHid (hm2.1.trans HL1.out)
      have HR3 := toHid (HR3'.out.behind hm2 (Nat.le_refl _))
      have HR4 := toHid (HR4'.out.behind hm2 (by omega))
      clear hm2 hs2 hR2 hk2 HR1 HK1 HR1' HR2' HR3' HR4'
      clear x0 x1 hbl
      have hbx2 := box_kept (bl := bl) (s0 := s0) (s1 := s1) hg (by rw [← HW0.out]; exact HK2.out)
      have x0 := cell_of hbx2 0
      have x1 := cell_of hbx2 1
      simp at x0 x1
      have hbl := blkF_lt hbx2
      clear hbx2
      generalize wc = w2 at *
      go_upto_region 44 with fail
      go_cut [171] (fun c wz => c = .bool (decide (mid < e ∧ e < b)) ∧ wz = w2)
      case first =>
        as_aux_lemma =>
          by_cases hP : mid < e
          · have hPi : (mid : Int) < (e : Int) := by omega
            by_cases hQ : e < b
            · have hQi : (e : Int) < (b : Int) := by omega
              go_wp2_with fail
              go_meet
              exact ⟨congrArg Value.bool (decide_eq_true (p := mid < e ∧ e < b) ⟨hP, hQ⟩).symm, rfl⟩
            · have hQi : ¬ (e : Int) < (b : Int) := by omega
              go_wp2_with fail
              go_meet
              exact ⟨congrArg Value.bool (decide_eq_false (p := mid < e ∧ e < b) (fun h => hQ h.2)).symm, rfl⟩
          · have hPi : ¬ (mid : Int) < (e : Int) := by omega
            go_wp2_with fail
            go_meet
            exact ⟨congrArg Value.bool (decide_eq_false (p := mid < e ∧ e < b) (fun h => hP h.1)).symm, rfl⟩
      case rest =>
      obtain ⟨rfl, hwc⟩ := hcut
      replace hwc := hwc.symm
      subst hwc
      by_cases hpq : mid < e ∧ e < b
      · rw [decide_eq_true hpq]
        have HI := HIH.out mid e b D2 w2 (by omega) HR2.out hpq.1 hpq.2 (by have := HL2.out; omega) (by have := HL2.out; omega) HR3.out HR4.out
        have HI' := toHid HI
        clear HI
        go_wp2_with fail
        refine HI'.out.mono ?_
        rintro e' w3 ⟨rfl, D3, hm3, hs3, hR3, k3⟩
        have hend := merge_end (key := key) hbd.1 hbd.2.2.2.2.1 hbd.2.2.2.2.2 hbd.2.2.2.1 HU.out HX.out HY.out hm3 hs3
        have HEND := toHid hend
        have HR3x := toHid hR3
        have HK3 := toHid (box_rg (by rw [← HW0.out]; exact HK2.out.trans k3))
        clear hm3 hs3 hR3 k3 hend
        go_wp2_with fail
        go_end0
        exact ⟨rfl, D3, (HMX.out.wide hbd.1 hbd.2.2.2.1).trans HEND.out.2, HEND.out.1, HR3x.out, HK3.out⟩
      · rw [decide_eq_false hpq]
        have hs3 : Ris key D2 mid b := by
          by_cases hme : e = mid
          · have := HR4.out
            rw [hme] at this
            exact this
          · have : e = b := by omega
            have h3 := HR3.out
            rw [this] at h3
            exact h3
        have HEND := toHid (merge_end (key := key) hbd.1 hbd.2.2.2.2.1 hbd.2.2.2.2.2 hbd.2.2.2.1 HU.out HX.out HY.out (MixS.refl _ _ _) hs3)
        clear hs3
        go_wp2_with fail
        go_end0
        exact ⟨rfl, D2, (HMX.out.wide hbd.1 hbd.2.2.2.1).trans HEND.out.2, HEND.out.1, HR2.out, box_rg (by rw [← HW0.out]; exact HK2.out)⟩

/-- sort's merge in place. -/
theorem symF (O : SrtOk key g bl s0 s1 St) : ∀ N, SymF key g bl s0 s1 St N := by
  intro N
  induction N with
  | zero => intro a m b D w h1 _ h2 h3; omega
  | succ N ih =>
    intro a m b D w hN hR ham hmb hb hD hS1 hS2
    by_cases h1 : m = a + 1
    · exact sym1F O a m b D w hR h1 hmb hb hD hS2
    · by_cases h2 : b = m + 1
      · exact sym2F O a m b D w hR (by omega) h2 hb hD hS1
      · exact sym3F O N a m b D w ih hN hR (by omega) (by omega) hb hD hS1 hS2
end
end Go.Proofs.YtbaafhldbddeaaaGreatDoor
