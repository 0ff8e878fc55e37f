/-
  What is proved here: what the texts FJoinG prove, in one text.
-/
import Derived.Test.YtbjkpbeijkmoeaaGreatDoorQBAU
import Derived.Test.YtbjkpbeijkmoeaaGreatDoorQBAO
import Derived.Deep.RegionHeld3
import Derived.Deep.DeepFit
import Derived.Deep.CutBlock
import Derived.Deep.DeepCutAuto
import Derived.BigQuiet
namespace Go.Proofs.YtbjkpbeijkmoeaaGreatDoor
open Go.RowKit
set_option linter.unusedVariables false

set_option linter.unusedSimpArgs false

set_option maxHeartbeats 16000000 in
set_option maxRecDepth 100000 in
theorem join_good (M N : List (Ct × Int)) (k : Nat) (a : Option Addr) (l c : Nat) (a' : Option Addr) (l' c' : Nat) (w : World) (hT : Tabs w.heap.size w) (hM : BagArg w M a l) (hN : BagArg w N a' l') (hE : joinE M N k = 0) :
    Calls Tryz.prog 6 #[.slice a l c, .slice a' l' c', .int .i64 k] w fun e w' => e = .returned (.bool true) ∧ Below w.heap.size w w' := by
  obtain ⟨⟨hk0, hk30⟩, hsx, hsy, hpr, hbx, hby⟩ := joinE_zero hE
  have hok : ∀ (X : List (Ct × Int)) (q : Option Addr) (n : Nat), BagArg w X q n → bagE X = 0 → (∀ x e, (x, e) ∈ X → (k : Int) ≤ x.l) → ∀ x ∈ X.map (·.1), JoinOk w k x ∧ SmallN x := fun X q n hX h0 hs x hx => by
    obtain ⟨e, he⟩ := mem_fst hx
    obtain ⟨he0, hsm⟩ := (bagE_zero h0).2 x e he
    obtain ⟨h1, h2, h3⟩ := hX.rows x e he
    obtain ⟨h4, es, h5, h6, h7⟩ := hX.bag.rows x e he
    exact ⟨⟨⟨h4, h7 he0, by have := hs x e he; omega, h1⟩, (h3 he0).1, (h3 he0).2, h2⟩, hsm⟩
  have HOX := toHid (hok M a l hM hbx hsx)
  have HOY := toHid (hok N a' l' hN hby hsy)
  have HJ := toHid (join_said w.heap.size M N k a a' l c l' c' w (Nat.le_refl _) hT hM hN hE)
  have HCX : Hid (∀ W, Below w.heap.size w W → Calls Tryz.prog 13 #[.slice a l c] W fun e w' => e = .returned (.int .i64 0) ∧ Below W.heap.size W w') := fun W kW => by
    have h := checkBag_ref M a l c w W hM.bag kW
    rw [hbx] at h
    exact h
  have HCY : Hid (∀ W, Below w.heap.size w W → Calls Tryz.prog 13 #[.slice a' l' c'] W fun e w' => e = .returned (.int .i64 0) ∧ Below W.heap.size W w') := fun W kW => by
    have h := checkBag_ref N a' l' c' w W hN.bag kW
    rw [hby] at h
    exact h
  have HAF := toHid hM.bag.at'
  have HAG := toHid hN.bag.at'
  have HPR : Hid ((M.map (·.1)).length * (N.map (·.1)).length ≤ 20000) := by
    show _ ≤ _
    rw [List.length_map, List.length_map]
    exact hpr
  have hl6 : l ≤ 1000000 := hM.bag.at'.2.1
  have hl6' : l' ≤ 1000000 := hN.bag.at'.2.1
  have HT := toHid hT
  clear hsx hsy hpr hbx hby hok hM hN hE hT
  generalize M.map (·.1) = F at HOX HJ HAF HPR
  generalize N.map (·.1) = G at HOY HJ HAG HPR
  have HLF := toHid HAF.out.1
  have HLG := toHid HAG.out.1
  have hll : l * l' ≤ 20000 := by rw [HLF.out, HLG.out]; exact HPR.out
  have hkn : ¬ ((k : Int) < 0) := by omega
  have hk3 : ¬ ((30 : Int) < k) := by omega
  have HK30 : Hid (k ≤ 30) := by show k ≤ 30; omega
  clear hk0 hk30
  go_enter Tryz.func6, Tryz.ntmps6
  go_wp2_with fail
  refine HJ.out.mono ?_
  rintro e w1 ⟨⟨sa, sl, sc, ze, rfl, hjs⟩, k1⟩
  have HJS := toHid hjs
  have HK1 := toHid k1
  clear k1 hjs HJ
  have HB1 : Hid (Below w1.heap.size w1 (w1.alloc (.cells #[.slice a l c, .slice a' l' c'] 24))) := (Below.refl _ _).alloc (Nat.le_refl _) _
  have HN1 := toHid (alloc_new w1 (.cells #[.slice a l c, .slice a' l' c'] 24))
  go_wp2_with fail
  generalize w1.alloc (.cells #[.slice a l c, .slice a' l' c'] 24) = V1 at HB1 HN1 ⊢
  generalize hbs : w1.heap.size = bs at HN1 ⊢
  clear hbs
  have HK2 := toHid (HK1.out.trans (HB1.out.mono HK1.out.size))
  have HJ2 := toHid (HJS.out.below HB1.out)
  have hbs1 := blkB_lt HN1.out
  clear HB1 HJS HK1
  go_loopg [9, 42] 2 (fun q s9 s42 wr => ∃ i : Nat, i ≤ 2 ∧ 2 - i ≤ q ∧ s42 = .int .i64 i ∧ s9 = .int .i64 0 ∧ Below V1.heap.size V1 wr)
  case atStart => exact ⟨0, Nat.zero_le _, by omega, rfl, rfl, Below.refl _ _⟩
  case round =>
    obtain ⟨i, hi, hq, rfl, rfl, hk⟩ := hrel
    have HK := toHid hk
    clear hk
    by_cases hlt : i < 2
    · have hil : (i : Int) < 2 := by omega
      obtain ⟨xa, xl, xc, XF, d0, hat, hns⟩ : ∃ xa xl xc XF, wr.cell? ⟨bs, i, none⟩ = some (.slice xa xl xc) ∧ CtsAt w XF xa xl ∧ ∀ x ∈ XF, ¬ ((x.l : Int) < (k : Int)) := by
        have e : i = 0 ∨ i = 1 := by omega
        rcases e with rfl | rfl
        · exact ⟨a, l, c, F, (HK.out.cell (p := ⟨bs, 0, none⟩) hbs1).trans ((cell_of HN1.out 0).trans rfl), HAF.out, fun x hx => by have := (HOX.out x hx).1.row.cut; omega⟩
        · exact ⟨a', l', c', G, (HK.out.cell (p := ⟨bs, 1, none⟩) hbs1).trans ((cell_of HN1.out 1).trans rfl), HAG.out, fun x hx => by have := (HOY.out x hx).1.row.cut; omega⟩
      have HAT := toHid hat
      have HNS := toHid hns
      have hxl6 : xl ≤ 1000000 := hat.2.1
      have hbsr : bs < wr.heap.size := Nat.lt_of_lt_of_le hbs1 HK.out.size
      clear hat hns
      go_wp2_with fail
      clear d0 hbsr
      obtain ⟨wo, hren⟩ : ∃ z : World, z = wr := ⟨_, rfl⟩
      subst hren
      go_loopg [9, 48] xl (fun g s9 s48 wr => ∃ j : Nat, j ≤ xl ∧ xl - j ≤ g ∧ s48 = .int .i64 j ∧ s9 = .int .i64 0 ∧ Below V1.heap.size V1 wr)
      case atStart => exact ⟨0, Nat.zero_le _, by omega, rfl, rfl, HK.out⟩
      case round =>
        clear HK
        obtain ⟨j, hj, hg, rfl, rfl, hk⟩ := hrel
        have HK := toHid hk
        clear hk
        by_cases hjt : j < xl
        · have hjl : (j : Int) < xl := by omega
          obtain ⟨x, hx, _⟩ := drop_get (L := XF) (i := j) (by have := HAT.out.1; omega)
          obtain ⟨b, off, rfl, hb, hc⟩ := HAT.out.2.2 (by omega)
          have kk := HK2.out.trans (HK.out.mono HK2.out.size)
          have d0 := (kk.cell (p := ⟨b, off + j * 2, none⟩) hb).trans (hc j x hx).1
          have d1 := (kk.cell (p := ⟨b, off + j * 2 + 1, none⟩) hb).trans (hc j x hx).2
          have hblr : b < wr.heap.size := Nat.lt_of_lt_of_le hb kk.size
          have HA : Hid (Below wr.heap.size wr (wr.alloc (cObj x))) := (Below.refl _ _).alloc (Nat.le_refl _) _
          have HN := toHid (alloc_new wr (cObj x))
          have hsh := HNS.out x (List.mem_of_getElem? hx)
          clear hc hx kk hb
          go_upto_region 11 with fail
          have HKA := toHid (HK.out.trans (HA.out.mono HK.out.size))
          generalize wr.alloc (cObj x) = W1 at HA HN HKA ⊢
          generalize wr.heap.size = bx at HN ⊢
          have x0 := cell_of HN.out 0
          simp at x0
          have hbx := blkF_lt HN.out
          clear d0 d1 hblr HA HK HN
          go_wp2_with fail
          go_roundg (xl - (j + 1))
          case measure => omega
          case rel => exact ⟨j + 1, by omega, Nat.le_refl _, by go_num, rfl, HKA.out⟩
        · have he : j = xl := by omega
          subst he
          go_wp2_with fail
          go_roundg (2 - (i + 1))
          case measure => omega
          case rel => exact ⟨i + 1, by omega, Nat.le_refl _, by go_num, rfl, HK.out⟩
    · have he : i = 2 := by omega
      subst he
      have hpr1 : wrap64 ((l : Int) * (l' : Int)) = ((l * l' : Nat) : Int) := by
        rw [← Int.natCast_mul]
        unfold wrap64
        omega
      have hpr2 : IntKind.i64.wrap ((l : Int) * (l' : Int)) = (l : Int) * (l' : Int) := by
        rw [← Int.natCast_mul, IntKind.wrap_i64]
        omega
      have hpr3 : ¬ ((20000 : Int) < (l : Int) * (l' : Int)) := by
        rw [← Int.natCast_mul]
        omega
      have HB3 : Hid (Below wr.heap.size wr (wr.alloc (.cells #[.slice a l c, .slice a' l' c'] 24))) := (Below.refl _ _).alloc (Nat.le_refl _) _
      have HN3 := toHid (alloc_new wr (.cells #[.slice a l c, .slice a' l' c'] 24))
      have HKW := toHid (HK2.out.trans (HK.out.mono HK2.out.size))
      have HJW := toHid (HJ2.out.below HK.out)
      clear HK HN1 hbs1 HK2 HJ2
      go_wp2_with fail
      clear hpr1 hpr2 hpr3
      generalize wr.alloc (.cells #[.slice a l c, .slice a' l' c'] 24) = V3 at HB3 HN3 ⊢
      generalize hbs : wr.heap.size = b3 at HN3 ⊢
      clear hbs
      have HK3 := toHid (HKW.out.trans (HB3.out.mono HKW.out.size))
      have HJ3 := toHid (HJW.out.below HB3.out)
      have hbs3 := blkB_lt HN3.out
      clear HB3 HJW HKW
      obtain ⟨wo, hren⟩ : ∃ z : World, z = wr := ⟨_, rfl⟩
      subst hren
      go_loopg [9, 77] 2 (fun q s9 s77 wr => ∃ i : Nat, i ≤ 2 ∧ 2 - i ≤ q ∧ s77 = .int .i64 i ∧ s9 = .int .i64 0 ∧ Below V3.heap.size V3 wr)
      case atStart => exact ⟨0, Nat.zero_le _, by omega, rfl, rfl, Below.refl _ _⟩
      case round =>
        obtain ⟨i, hi, hq, rfl, rfl, hk⟩ := hrel
        have HK := toHid hk
        clear hk
        by_cases hlt : i < 2
        · have hil : (i : Int) < 2 := by omega
          obtain ⟨xa, xl, xc, d0, hck⟩ : ∃ xa xl xc, wr.cell? ⟨b3, i, none⟩ = some (.slice xa xl xc) ∧ ∀ W, Below w.heap.size w W → Calls Tryz.prog 13 #[.slice xa xl xc] W fun e w' => e = .returned (.int .i64 0) ∧ Below W.heap.size W w' := by
            have e : i = 0 ∨ i = 1 := by omega
            rcases e with rfl | rfl
            · exact ⟨a, l, c, (HK.out.cell (p := ⟨b3, 0, none⟩) hbs3).trans ((cell_of HN3.out 0).trans rfl), HCX.out⟩
            · exact ⟨a', l', c', (HK.out.cell (p := ⟨b3, 1, none⟩) hbs3).trans ((cell_of HN3.out 1).trans rfl), HCY.out⟩
          have HCK := toHid (hck wr (HK3.out.trans (HK.out.mono HK3.out.size)))
          have hbsr : b3 < wr.heap.size := Nat.lt_of_lt_of_le hbs3 HK.out.size
          clear hck
          go_wp2_with fail
          refine HCK.out.mono ?_
          rintro e w5 ⟨rfl, k5⟩
          have HK5 := toHid (HK.out.trans (k5.mono HK.out.size))
          clear k5 d0 hbsr
          go_wp2_with fail
          go_roundg (2 - (i + 1))
          case measure => omega
          case rel => exact ⟨i + 1, by omega, Nat.le_refl _, by go_num, rfl, HK5.out⟩
        · have he : i = 2 := by omega
          subst he
          have HK4 := toHid (HK3.out.trans (HK.out.mono HK3.out.size))
          have HJ4 := toHid (HJ3.out.below HK.out)
          clear HK HN3 hbs3 HK3 HJ3 HCX HCY
          obtain ⟨w4, hren⟩ : ∃ z : World, z = wr := ⟨_, rfl⟩
          subst hren
          go_wp2_with fail
          obtain ⟨i0, hi0, hz0, hsz0, hby0⟩ := ct_info
          go_loopg [9, 16, 17] l (fun q s9 s16 s17 wr => ∃ (i : Nat) (v : Value) (Q : List Ct) (f : Bool), i ≤ l ∧ l - i ≤ q ∧ s17 = .int .i64 i ∧ v = s16 ∧ s9 = .int .i64 (bad9 f) ∧ (f = true → (meetL k F G).any overC = true) ∧ (f = false → PairsOk w4 k (meetL k (F.take i) G) Q v wr) ∧ Below w4.heap.size w4 wr)
          case atStart => exact ⟨0, _, [], false, Nat.zero_le _, by omega, rfl, rfl, rfl, fun h => (by cases h), fun _ => pairs_none w4 k F G, Below.refl _ _⟩
          case round =>
            obtain ⟨i, v, Q, f, hi, hq, rfl, rfl, rfl, hbad, hgood, hk⟩ := hrel
            have HBAD := toHid hbad
            have HGOOD := toHid hgood
            have HK := toHid hk
            clear hbad hgood hk
            cases f with
            | true =>
              have n1 : bad9 true = 9 := rfl
              have HOV := toHid (HBAD.out rfl)
              obtain ⟨rfl, rfl⟩ := HJ4.out.1 HOV.out
              have HKR := toHid (HK4.out.trans (HK.out.mono HK4.out.size))
              clear HBAD HGOOD
              go_wp2_with fail
              refine (bagged_true w.heap.size wr HKR.out.size (HT.out.below HKR.out)).mono ?_
              rintro e w6 ⟨rfl, k6⟩
              have HK6 := toHid (HKR.out.trans (k6.mono HKR.out.size))
              clear k6
              go_wp2_with fail
              refine (bagged_true w.heap.size w6 HK6.out.size (HT.out.below HK6.out)).mono ?_
              rintro e w7 ⟨rfl, k7⟩
              have HK7 := toHid (HK6.out.trans (k7.mono HK6.out.size))
              clear k7
              go_wp2_with fail
              go_ret
              exact ⟨rfl, HK7.out⟩
            | false =>
              have n1 : bad9 false = 0 := rfl
              have HP := toHid (HGOOD.out rfl)
              clear HBAD HGOOD
              by_cases hlt : i < l
              · have hil : (i : Int) < l := by omega
                obtain ⟨x, hx, _⟩ := drop_get (L := F) (i := i) (by have := HLF.out; omega)
                obtain ⟨b, off, rfl, hb, hc⟩ := HAF.out.2.2 (by omega)
                have HXC := toHid (hc i x hx)
                have hxm := List.mem_of_getElem? hx
                have HXM := toHid hxm
                have HXO := toHid (HOX.out x hxm)
                have HTK := toHid (meetL_take (k := k) (Y := G) hx)
                generalize hD : meetL k (F.take i) G = D at HP HTK
                have HDL : Hid (D.length ≤ i * G.length) := by
                  have h1 := meetL_len k G (F.take i)
                  rw [hD, List.length_take] at h1
                  exact Nat.le_trans h1 (Nat.mul_le_mul_right _ (Nat.min_le_left _ _))
                have HB := toHid hb
                clear hc hx hxm hD hb
                go_wp2_with fail
                obtain ⟨wo, hren⟩ : ∃ z : World, z = wr := ⟨_, rfl⟩
                subst hren
                go_loopg [9, 16, 98] l' (fun g s9 s16 s98 wr => ∃ (j : Nat) (v : Value) (Q : List Ct), j ≤ l' ∧ l' - j ≤ g ∧ s98 = .int .i64 j ∧ v = s16 ∧ s9 = .int .i64 (bad9 false) ∧ PairsOk w4 k (D ++ meetY k x (G.take j)) Q v wr ∧ Below w4.heap.size w4 wr)
                case atStart =>
                  have e1 : meetY k x (G.take 0) = [] := by unfold meetY; split <;> rfl
                  exact ⟨0, _, Q, Nat.zero_le _, by omega, rfl, rfl, rfl, by rw [e1, List.append_nil]; exact HP.out, HK.out⟩
                case round =>
                  clear HP HK
                  obtain ⟨j, v, Q, hj, hg, rfl, rfl, rfl, hp, hk⟩ := hrel
                  have HP := toHid hp
                  have HK := toHid hk
                  clear hp hk
                  by_cases hjt : j < l'
                  · have hjl : (j : Int) < l' := by omega
                    obtain ⟨y, hy, _⟩ := drop_get (L := G) (i := j) (by have := HLG.out; omega)
                    obtain ⟨b', off', rfl, hb', hc'⟩ := HAG.out.2.2 (by omega)
                    have kk := HK4.out.trans (HK.out.mono HK4.out.size)
                    have d0 := (kk.cell (p := ⟨b', off' + j * 2, none⟩) hb').trans (hc' j y hy).1
                    have d1 := (kk.cell (p := ⟨b', off' + j * 2 + 1, none⟩) hb').trans (hc' j y hy).2
                    have d2 := (kk.cell (p := ⟨b, off + i * 2, none⟩) HB.out).trans HXC.out.1
                    have d3 := (kk.cell (p := ⟨b, off + i * 2 + 1, none⟩) HB.out).trans HXC.out.2
                    have hblr : b' < wr.heap.size := Nat.lt_of_lt_of_le hb' kk.size
                    have hblx : b < wr.heap.size := Nat.lt_of_lt_of_le HB.out kk.size
                    have hym := List.mem_of_getElem? hy
                    have HYM := toHid hym
                    have HYO := toHid (HOY.out y hym)
                    have HTY := toHid (meetY_step (k := k) (x := x) hy)
                    have HA : Hid (Below wr.heap.size wr ((wr.alloc (cObj y)).alloc (cObj x))) := ((Below.refl _ _).alloc (Nat.le_refl _) _).alloc (by simp) _
                    have HNY := toHid ((Below.heap_alloc (wr.alloc (cObj y)) (cObj x) wr.heap.size (by simp)).trans (alloc_new wr (cObj y)))
                    have HNX := toHid (alloc_two wr (cObj y) (cObj x))
                    have HKR := toHid kk
                    clear hc' hy kk hb' hym
                    go_upto_region 31 with fail
                    have HKA := toHid (HK.out.trans (HA.out.mono HK.out.size))
                    have HKB := toHid (HKR.out.trans (HA.out.mono HKR.out.size))
                    have HPA := toHid (HP.out.below HA.out)
                    have HDJ : Hid ((D ++ meetY k x (G.take j)).length + 1 ≤ 20000) := by
                      have h1 := meetY_len k x (G.take j)
                      have h2 := HDL.out
                      have h3 : (i + 1) * G.length ≤ l * G.length := Nat.mul_le_mul_right _ (by omega)
                      rw [Nat.add_mul, Nat.one_mul] at h3
                      rw [List.length_take] at h1
                      have h4 : l * G.length ≤ 20000 := by rw [← HLG.out]; exact hll
                      have h5 := HLG.out
                      show (_ : Nat) ≤ _
                      rw [List.length_append]
                      omega
                    generalize hDD : D ++ meetY k x (G.take j) = DD at HP HPA HDJ
                    have HDD : Hid (D ++ meetY k x (G.take (j + 1)) = DD ++ (if sameTo x.L y.L k = true then [(x, y)] else [])) := by
                      show _ = _
                      rw [HTY.out, ← List.append_assoc, hDD]
                    have HXY : Hid (sameTo x.L y.L k = true → (x, y) ∈ meetL k F G) := fun hs => by
                      unfold sameTo at hs
                      rw [Bool.and_eq_true] at hs
                      exact meet_mem HXM.out HYM.out (by simpa using hs.1) (by simpa using hs.2)
                    generalize (wr.alloc (cObj y)).alloc (cObj x) = W2 at HA HNX HNY HKA HKB HPA ⊢
                    generalize wr.heap.size = by' at HNX HNY ⊢
                    obtain ⟨pk, pn, pf, hp1, hp2, hrk⟩ := reckon_mul x y HXO.out.2 HYO.out.2
                    have HP1 := toHid hp1
                    have HP2 := toHid hp2
                    have HRK := toHid hrk
                    clear hp1 hp2 hrk d0 d1 d2 d3 hblr hblx HA HK HKR HP HTY hDD
                    obtain ⟨xn, xa, xl, xc, xL⟩ := x
                    obtain ⟨yn, ya, yl, yc, yL⟩ := y
                    simp only at HXO HYO HNX HNY HDD HXY HP1 HP2 HRK HTK
                    have x0 := cell_of HNX.out 0
                    have x1 := cell_of HNX.out 1
                    have y0 := cell_of HNY.out 0
                    have y1 := cell_of HNY.out 1
                    simp at x0 x1 y0 y1
                    have hbX := blkF_lt HNX.out
                    have hbY := blkF_lt HNY.out
                    have HLX := toHid HXO.out.1.row.lies
                    have HLY := toHid HYO.out.1.row.lies
                    simp only at HLX HLY
                    have hkx : k ≤ xl := HXO.out.1.row.cut
                    have hky : k ≤ yl := HYO.out.1.row.cut
                    have hyc : yl ≤ yc := HYO.out.1.row.cap
                    have HWX : Hid (wtL xL ≤ 274877906944) := HXO.out.1.wt
                    have HWY : Hid (wtL yL ≤ 274877906944) := HYO.out.1.wt
                    have HXN : Hid (xl ≤ 30 ∧ yl ≤ 30) := ⟨HXO.out.1.len, HYO.out.1.len⟩
                    have HCELL := toHid (And.intro (And.intro x0 x1) (And.intro y0 y1))
                    clear x0 x1 y0 y1
                    go_wp2_with fail
                    obtain ⟨wi, hren⟩ : ∃ z : World, z = wr := ⟨_, rfl⟩
                    subst hren
                    go_loopg [21, 107] k (fun g s21 s107 wr => ∃ (t : Nat) (sm : Bool), t ≤ k ∧ k - t ≤ g ∧ s107 = .int .i64 t ∧ s21 = .bool sm ∧ sm = sameTo xL yL t ∧ Below W2.heap.size W2 wr)
                    case atStart => exact ⟨0, true, Nat.zero_le _, by omega, rfl, rfl, (same_zero _ _).symm, Below.refl _ _⟩
                    case round =>
                      obtain ⟨t, sm, ht, hg6, rfl, rfl, hsm, hk6⟩ := hrel
                      have HSM := toHid hsm
                      have HK6 := toHid hk6
                      clear hsm hk6
                      by_cases htk : t < k
                      · have htk' : (t : Int) < k := by omega
                        obtain ⟨b3, off3, -, rfl, hb3, -⟩ := HLX.out.get (i := 0) (by omega)
                        obtain ⟨b4, off4, -, rfl, hb4, -⟩ := HLY.out.get (i := 0) (by omega)
                        obtain ⟨kt, nt, st, Lt, at3, lt3, ct3, -, hd3, p0, p1, p2, p3, hlc3, hLt, hwt3⟩ := HLX.out.at (i := t) (by omega)
                        obtain ⟨ku, nu, su, Lu, at4, lt4, ct4, -, hd4, q0, q1, q2, q3, hlc4, hLu, hwt4⟩ := HLY.out.at (i := t) (by omega)
                        have hLm : xL[t]? = some (.node kt nt st Lt) := by
                          have := congrArg (fun L => L[0]?) hd3
                          simpa using this
                        have hMm : yL[t]? = some (.node ku nu su Lu) := by
                          have := congrArg (fun L => L[0]?) hd4
                          simpa using this
                        have HSTEP := toHid (same_step hLm hMm)
                        have kk := HKB.out.trans (HK6.out.mono HKB.out.size)
                        have HSV : Hid (∀ W, Below wr.heap.size wr W → Calls Tryz.prog 18 #[.agg #[.int .i64 kt, .int .i64 nt, .string st, .slice at3 lt3 ct3], .agg #[.int .i64 ku, .int .i64 nu, .string su, .slice at4 lt4 ct4]] W fun e w' => e = .returned (.bool (ordT (.node kt nt st Lt) (.node ku nu su Lu) == 0)) ∧ Below W.heap.size W w') := fun W kW => by
                          have kw := kk.trans (kW.mono kk.size)
                          refine same_of _ _ _ _ _ _ _ _ _ _ _ _ _ W fun w' kw' => ?_
                          have kw2 := kw.trans (kw'.mono kw.size)
                          exact ref_ord63 (wtL Lt) kt nt st at3 lt3 ct3 Lt ku nu su at4 lt4 ct4 Lu w' (Nat.le_refl _) (by have := HWX.out; omega) (by have := HWY.out; omega) (LiesS.below kw2 _ _ _ hLt) (LiesS.below kw2 _ _ _ hLu)
                        have r0 := (kk.cell (p := ⟨b3, off3 + t * 4, none⟩) hb3).trans p0
                        have r1 := (kk.cell (p := ⟨b3, off3 + t * 4 + 1, none⟩) hb3).trans p1
                        have r2 := (kk.cell (p := ⟨b3, off3 + t * 4 + 1 + 1, none⟩) hb3).trans p2
                        have r3 := (kk.cell (p := ⟨b3, off3 + t * 4 + 1 + 1 + 1, none⟩) hb3).trans p3
                        have u0 := (kk.cell (p := ⟨b4, off4 + t * 4, none⟩) hb4).trans q0
                        have u1 := (kk.cell (p := ⟨b4, off4 + t * 4 + 1, none⟩) hb4).trans q1
                        have u2 := (kk.cell (p := ⟨b4, off4 + t * 4 + 1 + 1, none⟩) hb4).trans q2
                        have u3 := (kk.cell (p := ⟨b4, off4 + t * 4 + 1 + 1 + 1, none⟩) hb4).trans q3
                        have z0 := (HK6.out.cell (p := ⟨by' + 1, 0, none⟩) hbX).trans HCELL.out.1.1
                        have z1 := (HK6.out.cell (p := ⟨by', 0, none⟩) hbY).trans HCELL.out.2.1
                        have g1 : by' + 1 < wr.heap.size := Nat.lt_of_lt_of_le hbX HK6.out.size
                        have g2 : by' < wr.heap.size := Nat.lt_of_lt_of_le hbY HK6.out.size
                        have g3 : b3 < wr.heap.size := Nat.lt_of_lt_of_le hb3 kk.size
                        have g4 : b4 < wr.heap.size := Nat.lt_of_lt_of_le hb4 kk.size
                        have htx : (t : Int) < xl := by omega
                        have hty : (t : Int) < yl := by omega
                        generalize hoz : (ordT (.node kt nt st Lt) (.node ku nu su Lu) == 0) = oz at HSTEP HSV
                        have hnn : nullT (.node kt nt st Lt) = decide (kt = 0) := rfl
                        rw [hnn] at HSTEP
                        clear p0 p1 p2 p3 q0 q1 q2 q3 hlc3 hLt hwt3 hlc4 hLu hwt4 hd3 hd4 hLm hMm kk hoz hnn hb3 hb4
                        have D0 : Below wr.heap.size wr wr.drew := (Below.refl _ _).drew
                        go_upto_region 35 with fail
                        as_aux_lemma =>
                          cases sm with
                          | false =>
                            have HRS : Hid (false = sameTo xL yL (t + 1)) := by
                              show _ = _
                              rw [HSTEP.out, ← HSM.out]
                              rfl
                            go_quiet (fail)
                            all_goals
                              clear r0 r1 r2 r3 u0 u1 u2 u3 z0 z1 g1 g2 g3 g4
                              go_wp2_with fail
                              go_roundg (k - (t + 1))
                              case measure => omega
                              case rel => exact ⟨t + 1, false, by omega, Nat.le_refl _, by go_num, rfl, HRS.out, HK6.out.trans ((below_drewN _ _).mono HK6.out.size)⟩
                          | true =>
                            by_cases hnull : kt = 0
                            · have HRS : Hid (false = sameTo xL yL (t + 1)) := by
                                show _ = _
                                rw [HSTEP.out, ← HSM.out, hnull]
                                rfl
                              have n2 : (kt != 0) = false := by simp [hnull]
                              clear hnull
                              go_quiet (fail)
                              all_goals
                                clear r0 r1 r2 r3 u0 u1 u2 u3 z0 z1 g1 g2 g3 g4
                                go_wp2_with fail
                                go_roundg (k - (t + 1))
                                case measure => omega
                                case rel => exact ⟨t + 1, false, by omega, Nat.le_refl _, by go_num, rfl, HRS.out, HK6.out.trans ((below_drewN _ _).mono HK6.out.size)⟩
                            · have HRS : Hid (oz = sameTo xL yL (t + 1)) := by
                                show _ = _
                                rw [HSTEP.out, ← HSM.out]
                                simp [hnull]
                              have n2 : (kt != 0) = true := by simp [hnull]
                              clear hnull
                              go_region_held3 (fun W' => (W'.cell? ⟨by' + 1, 0, none⟩ = some (.slice (some ⟨b3, off3, none⟩) xl xc) ∧ W'.cell? ⟨by', 0, none⟩ = some (.slice (some ⟨b4, off4, none⟩) yl yc)) ∧ (W'.cell? ⟨b3, off3 + t * 4, none⟩ = some (.int .i64 kt) ∧ W'.cell? ⟨b3, off3 + t * 4 + 1, none⟩ = some (.int .i64 nt) ∧ W'.cell? ⟨b3, off3 + t * 4 + 1 + 1, none⟩ = some (.string st) ∧ W'.cell? ⟨b3, off3 + t * 4 + 1 + 1 + 1, none⟩ = some (.slice at3 lt3 ct3)) ∧ (W'.cell? ⟨b4, off4 + t * 4, none⟩ = some (.int .i64 ku) ∧ W'.cell? ⟨b4, off4 + t * 4 + 1, none⟩ = some (.int .i64 nu) ∧ W'.cell? ⟨b4, off4 + t * 4 + 1 + 1, none⟩ = some (.string su) ∧ W'.cell? ⟨b4, off4 + t * 4 + 1 + 1 + 1, none⟩ = some (.slice at4 lt4 ct4)))
                                (first
                              | exact ⟨⟨z0, z1⟩, ⟨r0, r1, r2, r3⟩, ⟨u0, u1, u2, u3⟩⟩
                              | exact ⟨⟨(ks.cell (p := ⟨by' + 1, 0, none⟩) g1).trans z0, (ks.cell (p := ⟨by', 0, none⟩) g2).trans z1⟩, ⟨(ks.cell (p := ⟨b3, off3 + t * 4, none⟩) g3).trans r0, (ks.cell (p := ⟨b3, off3 + t * 4 + 1, none⟩) g3).trans r1, (ks.cell (p := ⟨b3, off3 + t * 4 + 1 + 1, none⟩) g3).trans r2, (ks.cell (p := ⟨b3, off3 + t * 4 + 1 + 1 + 1, none⟩) g3).trans r3⟩, ⟨(ks.cell (p := ⟨b4, off4 + t * 4, none⟩) g4).trans u0, (ks.cell (p := ⟨b4, off4 + t * 4 + 1, none⟩) g4).trans u1, (ks.cell (p := ⟨b4, off4 + t * 4 + 1 + 1, none⟩) g4).trans u2, (ks.cell (p := ⟨b4, off4 + t * 4 + 1 + 1 + 1, none⟩) g4).trans u3⟩⟩
                              | go_keep)
                                (first
                                  | (go_at_call 18; go_fit (HSV.out wr.drew D0); rintro e us ⟨rfl, hs⟩; have ks : Below wr.heap.size wr us := D0.trans hs))
                              all_goals
                                clear r0 r1 r2 r3 u0 u1 u2 u3 z0 z1 g1 g2 g3 g4
                                go_wp2_with fail
                                go_roundg (k - (t + 1))
                                case measure => omega
                                case rel => exact ⟨t + 1, oz, by omega, Nat.le_refl _, by go_num, rfl, HRS.out, HK6.out.trans (ks.mono HK6.out.size)⟩
                      · have he : t = k := by omega
                        have HSK : Hid (sm = sameTo xL yL k) := by rw [← he]; exact HSM.out
                        clear HSM
                        subst he
                        cases sm with
                        | false =>
                          have HDF : Hid (D ++ meetY t ⟨xn, xa, xl, xc, xL⟩ (G.take (j + 1)) = DD) := by
                            show _ = _
                            rw [HDD.out, ← HSK.out]
                            simp
                          go_wp2_with fail
                          go_roundg (l' - (j + 1))
                          case measure => omega
                          case rel => exact ⟨j + 1, v, Q, by omega, Nat.le_refl _, by go_num, rfl, rfl, by rw [HDF.out]; exact HPA.out.below HK6.out, HKA.out.trans (HK6.out.mono HKA.out.size)⟩
                        | true =>
                          have HDT : Hid (D ++ meetY t ⟨xn, xa, xl, xc, xL⟩ (G.take (j + 1)) = DD ++ [(⟨xn, xa, xl, xc, xL⟩, ⟨yn, ya, yl, yc, yL⟩)]) := by
                            show _ = _
                            rw [HDD.out, ← HSK.out]
                            rfl
                          have HXM2 := toHid (HXY.out HSK.out.symm)
                          have HPB := toHid (HPA.out.below HK6.out)
                          have HKC := toHid (HKA.out.trans (HK6.out.mono HKA.out.size))
                          have HKD := toHid (HKB.out.trans (HK6.out.mono HKB.out.size))
                          have z1 := (HK6.out.cell (p := ⟨by' + 1, 1, none⟩) hbX).trans HCELL.out.1.2
                          have z3 := (HK6.out.cell (p := ⟨by', 1, none⟩) hbY).trans HCELL.out.2.2
                          have g1 : by' + 1 < wr.heap.size := Nat.lt_of_lt_of_le hbX HK6.out.size
                          have g2 : by' < wr.heap.size := Nat.lt_of_lt_of_le hbY HK6.out.size
                          have HZ0 := toHid ((HK6.out.cell (p := ⟨by' + 1, 0, none⟩) hbX).trans HCELL.out.1.1)
                          have HZ2 := toHid ((HK6.out.cell (p := ⟨by', 0, none⟩) hbY).trans HCELL.out.2.1)
                          have HNUM : Hid (∀ n W, Calls Tryz.prog 20 #[.int .i64 n] W fun e w' => e = .returned (.agg #[.int .i64 2, .int .i64 n, .string ⟨#[]⟩, .slice none 0 0]) ∧ Below W.heap.size W w') := fun n W => numB_any n W
                          clear HDD HXY HPA HKA HKB HNX HNY HCELL HK6
                          have D0 : Below wr.heap.size wr wr.drew := (Below.refl _ _).drew
                          go_upto_region 38 with fail
                          go_cut [23, 24] (fun s23 s24 wx => ∃ bp, s23 = .pointer (some ⟨bp, 0, none⟩) ∧ s24 = .int .i64 pf ∧ wx.heap[bp]? = some (.cells #[.int .i64 pk, .int .i64 pn, .string ⟨#[]⟩, .slice none 0 0] 45 (0, 0)) ∧ Below wr.heap.size wr wx)
                          case first =>
                            as_aux_lemma =>
                              have HS : Hid (∀ W', Below wr.heap.size wr W' → W'.cell? ⟨by' + 1, 1, none⟩ = some (.int .i64 xn) ∧ W'.cell? ⟨by', 1, none⟩ = some (.int .i64 yn)) := fun W' kk => ⟨(kk.cell (p := ⟨by' + 1, 1, none⟩) g1).trans z1, (kk.cell (p := ⟨by', 1, none⟩) g2).trans z3⟩
                              go_region_held3 (fun W' => W'.cell? ⟨by' + 1, 1, none⟩ = some (.int .i64 xn) ∧ W'.cell? ⟨by', 1, none⟩ = some (.int .i64 yn))
                                (first
                                  | with_reducible exact ⟨z1, z3⟩
                                  | with_reducible exact HS.out _ k3
                                  | with_reducible exact HS.out _ k2
                                  | with_reducible exact HS.out _ k1
                                  | with_reducible exact HS.out _ D0
                                  | with_reducible exact HS.out _ (k3.alloc k3.size _)
                                  | with_reducible exact HS.out _ (k2.alloc k2.size _)
                                  | with_reducible exact HS.out _ (k1.alloc k1.size _)
                                  | with_reducible exact HS.out _ (D0.alloc (Nat.le_refl _) _)
                                  | exact HS.out _ ((((k3.setCell (p := ⟨_, 0, none⟩) hZk _).setCell (p := ⟨_, 1, none⟩) hZk _).setCell (p := ⟨_, 2, none⟩) hZk _).setCell (p := ⟨_, 3, none⟩) hZk _)
                                  | go_keep)
                                (first
                                  | (go_at_call 19; go_fit (HRK.out u2); rintro e u3 ⟨rfl, h3⟩; have k3 : Below wr.heap.size wr u3 := k2.trans (h3.mono k2.size); (try have hZ := (h3.block _ (blkF_lt hZ)).trans hZ); (try have c0 := cell_of hZ 0); (try have c1 := cell_of hZ 1); (try have c2 := cell_of hZ 2); (try have c3 := cell_of hZ 3); (try have f0 := free_of hZ 0); (try have f1 := free_of hZ 1); (try have f2 := free_of hZ 2); (try have f3 := free_of hZ 3); (try simp at c0 c1 c2 c3); (try have hlZ := blkF_lt hZ))
                                  | (go_at_call 19; go_fit (HRK.out (u2.alloc (.cells #[.int .i64 0, .int .i64 0, .string ⟨#[]⟩, .slice none 0 0] 45))); rintro e u3 ⟨rfl, h3⟩; have k3 : Below wr.heap.size wr u3 := (k2.alloc k2.size _).trans (h3.mono (Nat.le_trans k2.size (by simp))); have hZ : u3.heap[u2.heap.size]? = some (.cells #[.int .i64 0, .int .i64 0, .string ⟨#[]⟩, .slice none 0 0] 45 (0, 0)) := (h3.block u2.heap.size (by simp)).trans (alloc_new u2 (.cells #[.int .i64 0, .int .i64 0, .string ⟨#[]⟩, .slice none 0 0] 45)); have hZk : wr.heap.size ≤ u2.heap.size := k2.size; have c0 := cell_of hZ 0; have c1 := cell_of hZ 1; have c2 := cell_of hZ 2; have c3 := cell_of hZ 3; have f0 := free_of hZ 0; have f1 := free_of hZ 1; have f2 := free_of hZ 2; have f3 := free_of hZ 3; simp at c0 c1 c2 c3; have hlZ := blkF_lt hZ)
                                  | (go_at_call 20; go_fit (HNUM.out yn u1); rintro e u2 ⟨rfl, h2⟩; have k2 : Below wr.heap.size wr u2 := k1.trans (h2.mono k1.size); (try have hZ := (h2.block _ (blkF_lt hZ)).trans hZ))
                                  | (go_at_call 20; go_fit (HNUM.out yn (u1.alloc (.cells #[.int .i64 0, .int .i64 0, .string ⟨#[]⟩, .slice none 0 0] 45))); rintro e u2 ⟨rfl, h2⟩; have k2 : Below wr.heap.size wr u2 := (k1.alloc k1.size _).trans (h2.mono (Nat.le_trans k1.size (by simp))); have hZ : u2.heap[u1.heap.size]? = some (.cells #[.int .i64 0, .int .i64 0, .string ⟨#[]⟩, .slice none 0 0] 45 (0, 0)) := (h2.block u1.heap.size (by simp)).trans (alloc_new u1 (.cells #[.int .i64 0, .int .i64 0, .string ⟨#[]⟩, .slice none 0 0] 45)); have hZk : wr.heap.size ≤ u1.heap.size := k1.size)
                                  | (go_at_call 20; go_fit (HNUM.out xn wr.drew); rintro e u1 ⟨rfl, h1⟩; have k1 : Below wr.heap.size wr u1 := D0.trans h1)
                                  | (go_at_call 20; go_fit (HNUM.out xn (wr.drew.alloc (.cells #[.int .i64 0, .int .i64 0, .string ⟨#[]⟩, .slice none 0 0] 45))); rintro e u1 ⟨rfl, h1⟩; have k1 : Below wr.heap.size wr u1 := (D0.alloc (Nat.le_refl _) _).trans (h1.mono (by simp)); have hZ : u1.heap[wr.heap.size]? = some (.cells #[.int .i64 0, .int .i64 0, .string ⟨#[]⟩, .slice none 0 0] 45 (0, 0)) := (h1.block wr.heap.size (by simp)).trans (alloc_new wr.drew (.cells #[.int .i64 0, .int .i64 0, .string ⟨#[]⟩, .slice none 0 0] 45)); have hZk : wr.heap.size ≤ wr.heap.size := Nat.le_refl _))
                              all_goals
                                go_wp2_with fail
                                go_meet
                                first
                                  | exact ⟨_, rfl, rfl, alloc_new u3 _, k3.alloc k3.size _⟩
                                  | exact ⟨_, rfl, rfl, BG.set4_here hZ _ _ _ _, (((k3.setCell (p := ⟨_, 0, none⟩) hZk _).setCell (p := ⟨_, 1, none⟩) hZk _).setCell (p := ⟨_, 2, none⟩) hZk _).setCell (p := ⟨_, 3, none⟩) hZk _⟩
                          case rest =>
                            obtain ⟨bp, rfl, rfl, hbp, hk8⟩ := hcut
                            have HBP := toHid hbp
                            have HK8 := toHid hk8
                            have b1 := cell_of hbp 1
                            simp at b1
                            have hbl := blkF_lt hbp
                            clear hbp hk8 z1 z3 HNUM HRK
                            cases hov : overC (⟨xn, xa, xl, xc, xL⟩, ⟨yn, ya, yl, yc, yL⟩) with
                            | true =>
                              have HOVT : Hid ((meetL t F G).any overC = true) := List.any_eq_true.2 ⟨_, HXM2.out, hov⟩
                              have hor := HP1.out hov
                              have HKF := toHid (HKC.out.trans (HK8.out.mono HKC.out.size))
                              clear hov HP1 HP2
                              by_cases h1 : pf = 0
                              · have n2 : (pf != 0) = false := by simp [h1]
                                by_cases h2 : 1099511627776 < pn
                                · clear hor h1
                                  go_wp2_with fail
                                  go_roundg (l - (i + 1))
                                  case measure => omega
                                  case rel => exact ⟨i + 1, v, Q, true, by omega, Nat.le_refl _, by go_num, rfl, rfl, fun _ => HOVT.out, fun h => (by cases h), HKF.out⟩
                                · have h3 : pn < -1099511627776 := by omega
                                  clear hor h1
                                  go_wp2_with fail
                                  go_roundg (l - (i + 1))
                                  case measure => omega
                                  case rel => exact ⟨i + 1, v, Q, true, by omega, Nat.le_refl _, by go_num, rfl, rfl, fun _ => HOVT.out, fun h => (by cases h), HKF.out⟩
                              · have n2 : (pf != 0) = true := by simp [h1]
                                clear hor h1
                                go_wp2_with fail
                                go_roundg (l - (i + 1))
                                case measure => omega
                                case rel => exact ⟨i + 1, v, Q, true, by omega, Nat.le_refl _, by go_num, rfl, rfl, fun _ => HOVT.out, fun h => (by cases h), HKF.out⟩
                            | false =>
                              obtain ⟨rfl, hpn, h1, h2⟩ := HP2.out hov
                              have HOVF := toHid hov
                              have HPN := toHid hpn
                              have h1' : ¬ (1099511627776 < pn) := by omega
                              have h2' : ¬ (pn < -1099511627776) := by omega
                              have hpmax : pn ≤ 9223372036854775807 := by omega
                              have z0 := (HK8.out.cell (p := ⟨by' + 1, 0, none⟩) g1).trans HZ0.out
                              have z2 := (HK8.out.cell (p := ⟨by', 0, none⟩) g2).trans HZ2.out
                              have g1' := Nat.lt_of_lt_of_le g1 HK8.out.size
                              have g2' := Nat.lt_of_lt_of_le g2 HK8.out.size
                              have HPC := toHid (HPB.out.below HK8.out)
                              have HKE := toHid (HKC.out.trans (HK8.out.mono HKC.out.size))
                              have HKG := toHid (HKD.out.trans (HK8.out.mono HKD.out.size))
                              clear hov HP1 HP2 hpn h1 h2 HPB HKC HKD HZ0 HZ2 HK8 g1 g2
                              obtain ⟨wj, hren⟩ : ∃ z : World, z = wr := ⟨_, rfl⟩
                              subst hren
                              go_upto_region 41 with fail
                              have hql : Q.length + 1 ≤ 20000 := by rw [HPC.out.len]; exact HDJ.out
                              have HOWN : Hid (∀ g, v.ownBlock = some g → w4.heap.size ≤ g ∧ g < wc.heap.size) := fun g hg => rowLt HPC.out.row hg
                              have HLIF : Hid (∀ L q n, LiesS w L q n → LieA (fun g => v.ownBlock ≠ some g) wc L q n) := fun L q n h => LieA.kept HKG.out.size (fun g hg _ => ⟨fun e => by have h5 := (HOWN.out g e).1; have h6 := HK4.out.size; omega, HKG.out.block g hg⟩) _ _ _ (lie_low h)
                              have HLIX := toHid (HLIF.out _ _ _ HLX.out)
                              have HLI0 := toHid (HLIF.out _ _ _ HLY.out)
                              clear HLIF
                              have hkt : (t : Int) ≤ yl := by omega
                              have hkc : t ≤ yc := Nat.le_trans hky hyc
                              have hkc' : (t : Int) ≤ yc := by omega
                              have hk0 : (0 : Int) ≤ t := by omega
                              cases ya with
                              | none =>
                                have h0 : yl ≤ t := by
                                  have h5 := HLI0.out
                                  have h6 := (LieA.lies _ _ _ h5).length.1
                                  cases yL with
                                  | nil => simp at h6; omega
                                  | cons t0 ts =>
                                    unfold LieA at h5
                                    obtain ⟨b5, off5, e, _⟩ := h5
                                    cases e
                                have HLIY : Hid (LieA (fun g => v.ownBlock ≠ some g) wc (yL.drop t) none (yl - t)) := lie_end HLI0.out h0
                                clear h0 HLI0
                                have HCC : Hid (∀ W bs, Below wc.heap.size wc W → W.heap[bs]? = some (.cells #[.slice xa xl xc, .slice none (yl - t) (yc - t)] 30 (0, 0)) → Calls Tryz.prog 21 #[.slice (some ⟨bs, 0, none⟩) 2 2] W fun e w' => (∃ a1 c1, e = .returned (.slice a1 (xl + (yl - t)) c1) ∧ LieA (fun g => v.ownBlock ≠ some g) w' (xL ++ yL.drop t) a1 (xl + (yl - t))) ∧ Below W.heap.size W w') := fun W bs kW hb => concat_two (fun g => v.ownBlock ≠ some g) xL (yL.drop t) xa none xl xc (yl - t) (yc - t) bs W hb (LieA.kept kW.size (fun g hg hl => ⟨hg, kW.block g hl⟩) _ _ _ HLIX.out) (LieA.kept kW.size (fun g hg hl => ⟨hg, kW.block g hl⟩) _ _ _ HLIY.out) (by have := HXN.out; omega) (fun g hg e => by have h5 := HOWN.out g e; have h6 := kW.size; omega)
                                have KA : Below wc.heap.size wc (wc.drew.alloc (.cells #[.slice xa xl xc, .slice none (yl - t) (yc - t)] 30)) := ((Below.refl _ _).drew).alloc (Nat.le_refl _) _
                                have HAN : Hid ((wc.drew.alloc (.cells #[.slice xa xl xc, .slice none (yl - t) (yc - t)] 30)).heap[wc.heap.size]? = some (.cells #[.slice xa xl xc, .slice none (yl - t) (yc - t)] 30 (0, 0))) := alloc_new wc.drew _
                                have HCD := toHid (HCC.out _ _ KA HAN.out)
                                clear HCC HLIX HLIY
                                go_region_law (first
                                  | (refine step_append_both _ (by rfl) _ _ _ (by rfl) w4.heap.size 32 i0 _ 2 32 Tryz.underlying23 hi0 hz0 hsz0 hby0 rfl (by omega) v Q.length (ctRow Q) (by rfl) (hrowc.alloc _) (some ⟨uc.heap.size, 0, none⟩) 1 1 [.slice a1 (xl + (yl - t)) c1, .int .i64 pn] (by rfl) (by rfl) (fun j u hu => ⟨_, rfl, World.news_of_block (cs := #[.slice a1 (xl + (yl - t)) c1, .int .i64 pn]) (t := 32) (fr := (0, 0)) (alloc_new uc _) j u hu⟩) (by simp [Value.oneCell']) (by unfold maxLen; omega) (by omega) (by have h5 := HKE.out.size; have h6 := kc.size; simp; omega) ?_; intro v' w5 hown5 hgrow hob)
                                  | (go_simp
                                     go_at_call 21
                                     refine HCD.out.mono ?_
                                     rintro e uc ⟨⟨a1, c1, rfl, hq1⟩, kk⟩
                                     have kc : Below wc.heap.size wc uc := KA.trans (kk.mono KA.size)
                                     have b1c := (kc.cell (p := ⟨bp, 1, none⟩) hbl).trans b1
                                     have hblc : bp < uc.heap.size := Nat.lt_of_lt_of_le hbl kc.size
                                     have hrowc : uc.ownsRow w4.heap.size 32 2 v Q.length (ctRow Q) := rowK1 HPC.out.row fun g hg => kc.block g (rowLt HPC.out.row hg).2))
                                all_goals
                                  have HPQ := toHid (HPC.out.snoc (q := ⟨pn, a1, xl + (yl - t), c1, xL ++ yL.drop t⟩) (p := (⟨xn, xa, xl, xc, xL⟩, ⟨yn, none, yl, yc, yL⟩)) kc hq1 hown5 hgrow hob (by show (_, _) = (_, _); rw [HPN.out]) HOVF.out)
                                  have HK9 := toHid (HPC.out.grown HKE.out kc hgrow)
                                  clear hown5 hgrow hob hq1 kk kc b1c hblc hrowc z0 z2 b1 g1' g2' hbl
                                  go_wp2_with fail
                                  go_roundg (l' - (j + 1))
                                  case measure => omega
                                  case rel => exact ⟨j + 1, v', _, by omega, Nat.le_refl _, by go_num, rfl, rfl, by rw [HDT.out]; exact HPQ.out, HK9.out⟩
                              | some A =>
                                by_cases hck : yc = t
                                · subst hck
                                  have HLIY : Hid (LieA (fun g => v.ownBlock ≠ some g) wc (yL.drop yc) (some A) 0) := by
                                    have h1 := lie_end (a' := some A) HLI0.out hyc
                                    rw [show yl - yc = 0 by omega] at h1
                                    exact h1
                                  clear HLI0
                                  have HCC : Hid (∀ W bs, Below wc.heap.size wc W → W.heap[bs]? = some (.cells #[.slice xa xl xc, .slice (some A) 0 0] 30 (0, 0)) → Calls Tryz.prog 21 #[.slice (some ⟨bs, 0, none⟩) 2 2] W fun e w' => (∃ a1 c1, e = .returned (.slice a1 (xl + 0) c1) ∧ LieA (fun g => v.ownBlock ≠ some g) w' (xL ++ yL.drop yc) a1 (xl + 0)) ∧ Below W.heap.size W w') := fun W bs kW hb => concat_two (fun g => v.ownBlock ≠ some g) xL (yL.drop yc) xa (some A) xl xc 0 0 bs W hb (LieA.kept kW.size (fun g hg hl => ⟨hg, kW.block g hl⟩) _ _ _ HLIX.out) (LieA.kept kW.size (fun g hg hl => ⟨hg, kW.block g hl⟩) _ _ _ HLIY.out) (by have := HXN.out; omega) (fun g hg e => by have h5 := HOWN.out g e; have h6 := kW.size; omega)
                                  have KA : Below wc.heap.size wc (wc.drew.alloc (.cells #[.slice xa xl xc, .slice (some A) 0 0] 30)) := ((Below.refl _ _).drew).alloc (Nat.le_refl _) _
                                  have HAN : Hid ((wc.drew.alloc (.cells #[.slice xa xl xc, .slice (some A) 0 0] 30)).heap[wc.heap.size]? = some (.cells #[.slice xa xl xc, .slice (some A) 0 0] 30 (0, 0))) := alloc_new wc.drew _
                                  have HCD := toHid (HCC.out _ _ KA HAN.out)
                                  clear HCC HLIX HLIY
                                  go_region_law (first
                                    | (refine step_append_both _ (by rfl) _ _ _ (by rfl) w4.heap.size 32 i0 _ 2 32 Tryz.underlying23 hi0 hz0 hsz0 hby0 rfl (by omega) v Q.length (ctRow Q) (by rfl) (hrowc.alloc _) (some ⟨uc.heap.size, 0, none⟩) 1 1 [.slice a1 (xl + 0) c1, .int .i64 pn] (by rfl) (by rfl) (fun j u hu => ⟨_, rfl, World.news_of_block (cs := #[.slice a1 (xl + 0) c1, .int .i64 pn]) (t := 32) (fr := (0, 0)) (alloc_new uc _) j u hu⟩) (by simp [Value.oneCell']) (by unfold maxLen; omega) (by omega) (by have h5 := HKE.out.size; have h6 := kc.size; simp; omega) ?_; intro v' w5 hown5 hgrow hob)
                                    | (go_simp
                                       go_at_call 21
                                       refine HCD.out.mono ?_
                                       rintro e uc ⟨⟨a1, c1, rfl, hq1⟩, kk⟩
                                       have kc : Below wc.heap.size wc uc := KA.trans (kk.mono KA.size)
                                       have b1c := (kc.cell (p := ⟨bp, 1, none⟩) hbl).trans b1
                                       have hblc : bp < uc.heap.size := Nat.lt_of_lt_of_le hbl kc.size
                                       have hrowc : uc.ownsRow w4.heap.size 32 2 v Q.length (ctRow Q) := rowK1 HPC.out.row fun g hg => kc.block g (rowLt HPC.out.row hg).2))
                                  all_goals
                                    have HPQ := toHid (HPC.out.snoc (q := ⟨pn, a1, xl + 0, c1, xL ++ yL.drop yc⟩) (p := (⟨xn, xa, xl, xc, xL⟩, ⟨yn, (some A), yl, yc, yL⟩)) kc hq1 hown5 hgrow hob (by show (_, _) = (_, _); rw [HPN.out]) HOVF.out)
                                    have HK9 := toHid (HPC.out.grown HKE.out kc hgrow)
                                    clear hown5 hgrow hob hq1 kk kc b1c hblc hrowc z0 z2 b1 g1' g2' hbl
                                    go_wp2_with fail
                                    go_roundg (l' - (j + 1))
                                    case measure => omega
                                    case rel => exact ⟨j + 1, v', _, by omega, Nat.le_refl _, by go_num, rfl, rfl, by rw [HDT.out]; exact HPQ.out, HK9.out⟩
                                · have HLIY : Hid (LieA (fun g => v.ownBlock ≠ some g) wc (yL.drop t) (some (A.add (t * 4))) (yl - t)) := by
                                    by_cases hkl : t < yl
                                    · have hA : ∃ b off, A = ⟨b, off, none⟩ := by
                                        cases yL with
                                        | nil => have h6 := (LieA.lies _ _ _ HLI0.out).length.1; simp at h6; omega
                                        | cons t0 ts =>
                                          have h2 := HLI0.out
                                          unfold LieA at h2
                                          obtain ⟨b5, off5, e, _⟩ := h2
                                          injection e with e
                                          exact ⟨b5, off5, e⟩
                                      obtain ⟨b5, off5, rfl⟩ := hA
                                      rw [add_none]
                                      exact lie_drop HLI0.out hkl
                                    · exact lie_end HLI0.out (by omega)
                                  clear HLI0
                                  have HCC : Hid (∀ W bs, Below wc.heap.size wc W → W.heap[bs]? = some (.cells #[.slice xa xl xc, .slice (some (A.add (t * 4))) (yl - t) (yc - t)] 30 (0, 0)) → Calls Tryz.prog 21 #[.slice (some ⟨bs, 0, none⟩) 2 2] W fun e w' => (∃ a1 c1, e = .returned (.slice a1 (xl + (yl - t)) c1) ∧ LieA (fun g => v.ownBlock ≠ some g) w' (xL ++ yL.drop t) a1 (xl + (yl - t))) ∧ Below W.heap.size W w') := fun W bs kW hb => concat_two (fun g => v.ownBlock ≠ some g) xL (yL.drop t) xa (some (A.add (t * 4))) xl xc (yl - t) (yc - t) bs W hb (LieA.kept kW.size (fun g hg hl => ⟨hg, kW.block g hl⟩) _ _ _ HLIX.out) (LieA.kept kW.size (fun g hg hl => ⟨hg, kW.block g hl⟩) _ _ _ HLIY.out) (by have := HXN.out; omega) (fun g hg e => by have h5 := HOWN.out g e; have h6 := kW.size; omega)
                                  have KA : Below wc.heap.size wc (wc.drew.alloc (.cells #[.slice xa xl xc, .slice (some (A.add (t * 4))) (yl - t) (yc - t)] 30)) := ((Below.refl _ _).drew).alloc (Nat.le_refl _) _
                                  have HAN : Hid ((wc.drew.alloc (.cells #[.slice xa xl xc, .slice (some (A.add (t * 4))) (yl - t) (yc - t)] 30)).heap[wc.heap.size]? = some (.cells #[.slice xa xl xc, .slice (some (A.add (t * 4))) (yl - t) (yc - t)] 30 (0, 0))) := alloc_new wc.drew _
                                  have HCD := toHid (HCC.out _ _ KA HAN.out)
                                  clear HCC HLIX HLIY
                                  go_region_law (first
                                    | (refine step_append_both _ (by rfl) _ _ _ (by rfl) w4.heap.size 32 i0 _ 2 32 Tryz.underlying23 hi0 hz0 hsz0 hby0 rfl (by omega) v Q.length (ctRow Q) (by rfl) (hrowc.alloc _) (some ⟨uc.heap.size, 0, none⟩) 1 1 [.slice a1 (xl + (yl - t)) c1, .int .i64 pn] (by rfl) (by rfl) (fun j u hu => ⟨_, rfl, World.news_of_block (cs := #[.slice a1 (xl + (yl - t)) c1, .int .i64 pn]) (t := 32) (fr := (0, 0)) (alloc_new uc _) j u hu⟩) (by simp [Value.oneCell']) (by unfold maxLen; omega) (by omega) (by have h5 := HKE.out.size; have h6 := kc.size; simp; omega) ?_; intro v' w5 hown5 hgrow hob)
                                    | (go_simp
                                       go_at_call 21
                                       refine HCD.out.mono ?_
                                       rintro e uc ⟨⟨a1, c1, rfl, hq1⟩, kk⟩
                                       have kc : Below wc.heap.size wc uc := KA.trans (kk.mono KA.size)
                                       have b1c := (kc.cell (p := ⟨bp, 1, none⟩) hbl).trans b1
                                       have hblc : bp < uc.heap.size := Nat.lt_of_lt_of_le hbl kc.size
                                       have hrowc : uc.ownsRow w4.heap.size 32 2 v Q.length (ctRow Q) := rowK1 HPC.out.row fun g hg => kc.block g (rowLt HPC.out.row hg).2))
                                  all_goals
                                    have HPQ := toHid (HPC.out.snoc (q := ⟨pn, a1, xl + (yl - t), c1, xL ++ yL.drop t⟩) (p := (⟨xn, xa, xl, xc, xL⟩, ⟨yn, (some A), yl, yc, yL⟩)) kc hq1 hown5 hgrow hob (by show (_, _) = (_, _); rw [HPN.out]) HOVF.out)
                                    have HK9 := toHid (HPC.out.grown HKE.out kc hgrow)
                                    clear hown5 hgrow hob hq1 kk kc b1c hblc hrowc z0 z2 b1 g1' g2' hbl
                                    go_wp2_with fail
                                    go_roundg (l' - (j + 1))
                                    case measure => omega
                                    case rel => exact ⟨j + 1, v', _, by omega, Nat.le_refl _, by go_num, rfl, rfl, by rw [HDT.out]; exact HPQ.out, HK9.out⟩
                  · have he : j = l' := by omega
                    have hz : G.take j = G := List.take_of_length_le (by have := HLG.out; omega)
                    have HPF : Hid (PairsOk w4 k (meetL k (F.take (i + 1)) G) Q v wr) := by
                      rw [HTK.out]
                      have h := HP.out
                      rw [hz] at h
                      exact h
                    clear hz
                    subst he
                    go_wp2_with fail
                    go_roundg (l - (i + 1))
                    case measure => omega
                    case rel => exact ⟨i + 1, v, Q, false, by omega, Nat.le_refl _, by go_num, rfl, rfl, fun h => (by cases h), fun _ => HPF.out, HK.out⟩
              · have he : i = l := by omega
                have hz : F.take i = F := List.take_of_length_le (by have := HLF.out; omega)
                have hp := HP.out
                rw [hz] at hp
                have HP' := toHid hp
                clear hz hp HP
                subst he
                as_aux_lemma =>
                  obtain ⟨va, ql, vc, rfl, hat9, hrows, habs⟩ := pairs_end HP'.out (fun x hx => (HOX.out x hx).1) (fun y hy => (HOY.out y hy).1) (fun y hy => (HOY.out y hy).2) HPR.out
                  have HTD := toHid (HJ4.out.2 HP'.out.no)
                  have HKR := toHid (HK4.out.trans (HK.out.mono HK4.out.size))
                  have HCM := toHid HP'.out.cn
                  have HAT9 := toHid hat9
                  have HRW := toHid hrows
                  have HABS := toHid habs
                  clear hat9 hrows habs HP'
                  go_wp2_with fail
                  refine (bagged_true w.heap.size wr HKR.out.size (HT.out.below HKR.out)).mono ?_
                  rintro e w6 ⟨rfl, k6⟩
                  have HK6 := toHid (HKR.out.trans (k6.mono HKR.out.size))
                  have HK46 := toHid (HK.out.trans (k6.mono HK.out.size))
                  have HRF := toHid (bagOf_ref Q va ql vc w6 (HAT9.out.below k6) (fun x hx => ⟨LiesS.below k6 _ _ _ (HRW.out x hx).1, (HRW.out x hx).2.2⟩) HABS.out)
                  have HRW6 : Hid (∀ y ∈ Q, LiesS w6 y.L y.a y.l ∧ InL y.L ∧ wtL y.L ≤ 1099511627776) := fun y hy => ⟨LiesS.below k6 _ _ _ (HRW.out y hy).1, (HRW.out y hy).2⟩
                  have HQL : Hid (Q.length ≤ 1000000) := by show _ ≤ _; rw [← HAT9.out.1]; exact HAT9.out.2.1
                  clear k6 HRW HAT9 HABS HKR HK
                  go_wp2_with fail
                  refine HRF.out.mono ?_
                  rintro e w10 ⟨⟨v10, E, rfl, hp, hs, hrow⟩, k10⟩
                  have HK10 := toHid (HK6.out.trans (k10.mono HK6.out.size))
                  have k410 := HK46.out.trans (k10.mono HK46.out.size)
                  obtain ⟨fa, fc, rfl⟩ := row_slice hrow
                  have hel : E.length ≤ 1000000 := by rw [hp.length_eq]; exact HQL.out
                  have hfl := ref_len E
                  have hcat := ctsOwn (R := nzC (tgCs E)) hrow (by omega)
                  obtain ⟨Z, z1, z2, z3⟩ := HTD.out
                  have hfx : (nzC (tgCs E)).map Ct.cn = Z := bag_ext _ _ (ref_bag hp hs).1 z1 fun r => by rw [(ref_bag hp hs).2, HCM.out, z2]
                  have hmem := ref_mem (P := fun x => LiesS w10 x.L x.a x.l ∧ InL x.L ∧ wtL x.L ≤ 1099511627776) (fun p n h => h) hp fun x hx => ⟨LiesS.below k10 _ _ _ (HRW6.out x hx).1, (HRW6.out x hx).2⟩
                  have HBS := toHid (bags_any w.heap.size Z sa sl sc ze (nzC (tgCs E)) fa (nzC (tgCs E)).length fc w10 HK10.out.size (HT.out.below HK10.out) hfx hcat hmem (z3.imp (fun h => ⟨h.1, h.2.1, h.2.2.below k410⟩) id))
                  generalize (nzC (tgCs E)).length = fl at HBS hfl
                  clear hp hs hrow k10 hel hfl hcat hfx hmem k410 z1 z2 z3 HRF
                  go_wp2_with fail
                  refine HBS.out.mono ?_
                  rintro e w11 ⟨rfl, k11⟩
                  have HK11 := toHid (HK10.out.trans (k11.mono HK10.out.size))
                  clear k11
                  go_wp2_with fail
                  go_ret
                  exact ⟨rfl, HK11.out⟩
end Go.Proofs.YtbjkpbeijkmoeaaGreatDoor
