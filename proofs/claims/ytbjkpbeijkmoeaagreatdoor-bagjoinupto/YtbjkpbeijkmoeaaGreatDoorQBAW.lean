/-
  What is proved here: what the texts FJoinB, FJoinL prove, in one text.
-/
import Derived.Test.YtbjkpbeijkmoeaaGreatDoorQBAU
import Derived.Test.YtbjkpbeijkmoeaaGreatDoorQBAO
import Derived.Deep.RegionHeld3
import Derived.Deep.DeepFit
import Derived.Deep.CutBlock
import Derived.Deep.DeepCutAuto
import Derived.Test.YtbjkpbeijkmoeaaGreatDoorQBAV
namespace Go.Proofs.YtbjkpbeijkmoeaaGreatDoor
open Go.RowKit
set_option linter.unusedVariables false

set_option linter.unusedSimpArgs false

theorem any_takeJ {α : Type} {p : α → Bool} {L : List α} {i : Nat} {x : α} (h : L[i]? = some x) : (L.take (i + 1)).any p = ((L.take i).any p || p x) := by
  rw [List.take_add_one, h, Option.toList_some, List.any_append, List.any_cons, List.any_nil, Bool.or_false]

set_option maxHeartbeats 16000000 in
set_option maxRecDepth 100000 in
theorem join_bad1 (M N : List (Ct × Int)) (k : Int) (a : Option Addr) (l c : Nat) (a' : Option Addr) (l' c' : Nat) (w : World) (hT : Tabs w.heap.size w) (hM : BagArg w M a l) (hN : BagArg w N a' l') (hE : joinE M N k ≠ 0) (hk : k < 0) :
    Calls Tryz.prog 6 #[.slice a l c, .slice a' l' c', .int .i64 k] w fun e w' => e = .returned (.bool true) ∧ Below w.heap.size w w' := by
  have HJ : Hid (Calls Tryz.prog 17 #[.slice a l c, .slice a' l' c', .int .i64 k] w fun e w' => e = .returned (.tuple #[.slice none 0 0, .int .i64 (joinE M N k)]) ∧ Below w.heap.size w w') := by
    refine (join_any w.heap.size M N k a a' l c l' c' w (Nat.le_refl _) hT hM.bag hN.bag hM.rows hN.rows).mono ?_
    rintro e w' ⟨h, kb⟩
    rcases h with ⟨_, h⟩ | ⟨h, _⟩
    · exact ⟨h, kb⟩
    · exact absurd h hE
  have HCX : Hid (∀ W, Below w.heap.size w W → Calls Tryz.prog 13 #[.slice a l c] W fun e w' => e = .returned (.int .i64 (bagE M)) ∧ Below W.heap.size W w') := fun W kW => checkBag_ref M a l c w W hM.bag kW
  have HCY : Hid (∀ W, Below w.heap.size w W → Calls Tryz.prog 13 #[.slice a' l' c'] W fun e w' => e = .returned (.int .i64 (bagE N)) ∧ Below W.heap.size W w') := fun W kW => checkBag_ref N a' l' c' w W hN.bag kW
  have HAF := toHid hM.bag.at'
  have HAG := toHid hN.bag.at'
  have HLM : Hid (M.length = l) := by have := hM.bag.at'.1; rw [List.length_map] at this; exact this.symm
  have HLN : Hid (N.length = l') := by have := hN.bag.at'.1; rw [List.length_map] at this; exact this.symm
  have hl6 : l ≤ 1000000 := hM.bag.at'.2.1
  have hl6' : l' ≤ 1000000 := hN.bag.at'.2.1
  have HT := toHid hT
  have hEE := joinE_is M N k
  rw [HLM.out, HLN.out, show decide (k < 0 ∨ 30 < k) = true from decide_eq_true (.inl hk)] at hEE
  generalize joinE M N k = E at HJ hEE hE
  generalize bagE M = zx at HCX hEE
  generalize bagE N = zy at HCY hEE
  generalize M.map (·.1) = F at HAF hEE
  generalize N.map (·.1) = G at HAG hEE
  have HEQ := toHid hEE
  have HNE := toHid hE
  clear hM hN hE hT hEE HLM HLN
  have hll : l * l' ≤ 1000000000000 := Nat.mul_le_mul hl6 hl6'
  go_enter Tryz.func6, Tryz.ntmps6
  go_wp2_with fail
  refine HJ.out.mono ?_
  rintro e w1 ⟨rfl, k1⟩
  have HK1 := toHid k1
  clear k1 HJ
  have HB1 : Hid (Below w1.heap.size w1 (w1.alloc (.cells #[.slice a l c, .slice a' l' c'] 24))) := (Below.refl _ _).alloc (Nat.le_refl _) _
  have HN1 := toHid (alloc_new w1 (.cells #[.slice a l c, .slice a' l' c'] 24))
  go_wp2_with fail
  generalize w1.alloc (.cells #[.slice a l c, .slice a' l' c'] 24) = V1 at HB1 HN1 ⊢
  generalize hbs : w1.heap.size = bs at HN1 ⊢
  clear hbs
  have HK2 := toHid (HK1.out.trans (HB1.out.mono HK1.out.size))
  have hbs1 := blkB_lt HN1.out
  clear HB1 HK1
  go_loopg [9, 42] 2 (fun q s9 s42 wr => ∃ (i : Nat) (f : Bool), i ≤ 2 ∧ 2 - i ≤ q ∧ s42 = .int .i64 i ∧ s9 = .int .i64 (bad9 f) ∧ f = (true || ([F, G].take i).any (fun X => X.any (shortC k))) ∧ Below V1.heap.size V1 wr)
  case atStart => exact ⟨0, true, Nat.zero_le _, by omega, rfl, rfl, rfl, Below.refl _ _⟩
  case round =>
    obtain ⟨i, f, hi, hq, rfl, rfl, hf, hk⟩ := hrel
    have HK := toHid hk
    have HFF := toHid hf
    clear hk hf
    by_cases hlt : i < 2
    · have hil : (i : Int) < 2 := by omega
      obtain ⟨xa, xl, xc, XF, d0, hat, hns⟩ : ∃ xa xl xc XF, wr.cell? ⟨bs, i, none⟩ = some (.slice xa xl xc) ∧ CtsAt w XF xa xl ∧ [F, G][i]? = some XF := by
        have e : i = 0 ∨ i = 1 := by omega
        rcases e with rfl | rfl
        · exact ⟨a, l, c, F, (HK.out.cell (p := ⟨bs, 0, none⟩) hbs1).trans ((cell_of HN1.out 0).trans rfl), HAF.out, rfl⟩
        · exact ⟨a', l', c', G, (HK.out.cell (p := ⟨bs, 1, none⟩) hbs1).trans ((cell_of HN1.out 1).trans rfl), HAG.out, rfl⟩
      have HAT := toHid hat
      have HTK := toHid (any_takeJ (p := fun X : List Ct => X.any (shortC k)) hns)
      have hxl6 : xl ≤ 1000000 := hat.2.1
      have hbsr : bs < wr.heap.size := Nat.lt_of_lt_of_le hbs1 HK.out.size
      clear hat hns
      go_wp2_with fail
      clear d0 hbsr
      obtain ⟨wo, hren⟩ : ∃ z : World, z = wr := ⟨_, rfl⟩
      subst hren
      go_loopg [9, 48] xl (fun g s9 s48 wr => ∃ (j : Nat) (h : Bool), j ≤ xl ∧ xl - j ≤ g ∧ s48 = .int .i64 j ∧ s9 = .int .i64 (bad9 h) ∧ h = (f || (XF.take j).any (shortC k)) ∧ Below V1.heap.size V1 wr)
      case atStart => exact ⟨0, f, Nat.zero_le _, by omega, rfl, rfl, by simp, HK.out⟩
      case round =>
        clear HK
        obtain ⟨j, h, hj, hg, rfl, rfl, hh, hk⟩ := hrel
        have HK := toHid hk
        have HH := toHid hh
        clear hk hh
        by_cases hjt : j < xl
        · have hjl : (j : Int) < xl := by omega
          obtain ⟨x, hx, _⟩ := drop_get (L := XF) (i := j) (by have := HAT.out.1; omega)
          obtain ⟨b, off, rfl, hb, hc⟩ := HAT.out.2.2 (by omega)
          have kk := HK2.out.trans (HK.out.mono HK2.out.size)
          have d0 := (kk.cell (p := ⟨b, off + j * 2, none⟩) hb).trans (hc j x hx).1
          have d1 := (kk.cell (p := ⟨b, off + j * 2 + 1, none⟩) hb).trans (hc j x hx).2
          have hblr : b < wr.heap.size := Nat.lt_of_lt_of_le hb kk.size
          have HA : Hid (Below wr.heap.size wr (wr.alloc (cObj x))) := (Below.refl _ _).alloc (Nat.le_refl _) _
          have HN := toHid (alloc_new wr (cObj x))
          have HTJ : Hid ((f || (XF.take (j + 1)).any (shortC k)) = (h || shortC k x)) := by
            show _ = _
            rw [any_takeJ hx, HH.out, Bool.or_assoc]
          clear hc hx kk hb
          go_upto_region 11 with fail
          have HKA := toHid (HK.out.trans (HA.out.mono HK.out.size))
          generalize wr.alloc (cObj x) = W1 at HA HN HKA ⊢
          generalize wr.heap.size = bx at HN ⊢
          have x0 := cell_of HN.out 0
          simp at x0
          have hbx := blkF_lt HN.out
          clear d0 d1 hblr HA HK HN
          have FIN : ∀ u : Bool, u = (h || shortC k x) → u = (f || (XF.take (j + 1)).any (shortC k)) := fun u hu => hu.trans HTJ.out.symm
          cases h with
          | true =>
            have HE := toHid (FIN true rfl)
            clear FIN
            have n1 : bad9 true = 9 := rfl
            go_wp2_with fail
            go_roundg (xl - (j + 1))
            case measure => omega
            case rel => exact ⟨j + 1, true, by omega, Nat.le_refl _, by go_num, rfl, HE.out, HKA.out⟩
          | false =>
            have hc := HH.out
            rw [HFF.out] at hc
            simp at hc
        · have he : j = xl := by omega
          have HE : Hid (h = (true || ([F, G].take (i + 1)).any (fun X => X.any (shortC k)))) := by
            show _ = _
            rw [HTK.out, HH.out, HFF.out, show XF.take j = XF from List.take_of_length_le (by have := HAT.out.1; omega), Bool.or_assoc]
          subst he
          go_wp2_with fail
          go_roundg (2 - (i + 1))
          case measure => omega
          case rel => exact ⟨i + 1, h, by omega, Nat.le_refl _, by go_num, rfl, HE.out, HK.out⟩
    · have he : i = 2 := by omega
      subst he
      have hpr1 : wrap64 ((l : Int) * (l' : Int)) = ((l * l' : Nat) : Int) := by
        rw [← Int.natCast_mul]
        unfold wrap64
        omega
      have hpr2 : IntKind.i64.wrap ((l : Int) * (l' : Int)) = (l : Int) * (l' : Int) := by
        rw [← Int.natCast_mul, IntKind.wrap_i64]
        omega
      have HB3 : Hid (Below wr.heap.size wr (wr.alloc (.cells #[.slice a l c, .slice a' l' c'] 24))) := (Below.refl _ _).alloc (Nat.le_refl _) _
      have HN3 := toHid (alloc_new wr (.cells #[.slice a l c, .slice a' l' c'] 24))
      have HKW := toHid (HK2.out.trans (HK.out.mono HK2.out.size))
      have HO : Hid (((true || F.any (shortC k)) || G.any (shortC k)) = f) := by
        show _ = _
        rw [HFF.out]
        simp [Bool.or_assoc]
      rw [HO.out] at HEQ
      have HFT : Hid (f = true) := HFF.out
      clear HK HN1 hbs1 HK2 HFF HO
      cases f with
      | true =>
        have n1 : bad9 true = 9 := rfl
        have hE9 : E = 9 := HEQ.out
        subst hE9
        go_wp2_with fail
        clear hpr1 hpr2
        generalize wr.alloc (.cells #[.slice a l c, .slice a' l' c'] 24) = V3 at HB3 HN3 ⊢
        generalize hbs : wr.heap.size = b3 at HN3 ⊢
        clear hbs
        have HK3 := toHid (HKW.out.trans (HB3.out.mono HKW.out.size))
        have hbs3 := blkB_lt HN3.out
        clear HB3 HKW
        obtain ⟨wo, hren⟩ : ∃ z : World, z = wr := ⟨_, rfl⟩
        subst hren
        go_loopg [9, 77] 2 (fun q s9 s77 wr => ∃ i : Nat, i ≤ 2 ∧ 2 - i ≤ q ∧ s77 = .int .i64 i ∧ s9 = .int .i64 9 ∧ Below V3.heap.size V3 wr)
        case atStart => exact ⟨0, Nat.zero_le _, by omega, rfl, rfl, Below.refl _ _⟩
        case round =>
          obtain ⟨i, hi, hq, rfl, rfl, hk⟩ := hrel
          have HK := toHid hk
          clear hk
          by_cases hlt : i < 2
          · have hil : (i : Int) < 2 := by omega
            obtain ⟨xa, xl, xc, d0⟩ : ∃ xa xl xc, wr.cell? ⟨b3, i, none⟩ = some (.slice xa xl xc) := by
              have e : i = 0 ∨ i = 1 := by omega
              rcases e with rfl | rfl
              · exact ⟨a, l, c, (HK.out.cell (p := ⟨b3, 0, none⟩) hbs3).trans ((cell_of HN3.out 0).trans rfl)⟩
              · exact ⟨a', l', c', (HK.out.cell (p := ⟨b3, 1, none⟩) hbs3).trans ((cell_of HN3.out 1).trans rfl)⟩
            have hbsr : b3 < wr.heap.size := Nat.lt_of_lt_of_le hbs3 HK.out.size
            go_wp2_with fail
            go_roundg (2 - (i + 1))
            case measure => omega
            case rel => exact ⟨i + 1, by omega, Nat.le_refl _, by go_num, rfl, HK.out⟩
          · have he : i = 2 := by omega
            subst he
            have HK4 := toHid (HK3.out.trans (HK.out.mono HK3.out.size))
            clear HK HN3 hbs3 HK3 HCX HCY
            obtain ⟨w4, hren⟩ : ∃ z : World, z = wr := ⟨_, rfl⟩
            subst hren
            go_wp2_with fail
            go_loopg [9, 16, 17] 0 (fun q s9 s16 s17 wr => s9 = .int .i64 9 ∧ s16 = .slice none 0 0 ∧ s17 = .int .i64 0 ∧ wr = w4)
            case atStart => exact ⟨rfl, rfl, rfl, rfl⟩
            case round =>
              obtain ⟨rfl, rfl, rfl, rfl⟩ := hrel
              go_wp2_with fail
              refine (bagged_true w.heap.size wr HK4.out.size (HT.out.below HK4.out)).mono ?_
              rintro e w6 ⟨rfl, k6⟩
              have HK6 := toHid (HK4.out.trans (k6.mono HK4.out.size))
              clear k6
              go_wp2_with fail
              refine (bagged_true w.heap.size w6 HK6.out.size (HT.out.below HK6.out)).mono ?_
              rintro e w7 ⟨rfl, k7⟩
              have HK7 := toHid (HK6.out.trans (k7.mono HK6.out.size))
              clear k7
              go_wp2_with fail
              go_ret
              exact ⟨rfl, HK7.out⟩
      | false =>
        exact absurd HFT.out (by decide)

set_option maxHeartbeats 16000000 in
set_option maxRecDepth 100000 in
theorem join_bad2 (M N : List (Ct × Int)) (k : Int) (a : Option Addr) (l c : Nat) (a' : Option Addr) (l' c' : Nat) (w : World) (hT : Tabs w.heap.size w) (hM : BagArg w M a l) (hN : BagArg w N a' l') (hE : joinE M N k ≠ 0) (hkn : ¬ k < 0) (hk : 30 < k) :
    Calls Tryz.prog 6 #[.slice a l c, .slice a' l' c', .int .i64 k] w fun e w' => e = .returned (.bool true) ∧ Below w.heap.size w w' := by
  have HJ : Hid (Calls Tryz.prog 17 #[.slice a l c, .slice a' l' c', .int .i64 k] w fun e w' => e = .returned (.tuple #[.slice none 0 0, .int .i64 (joinE M N k)]) ∧ Below w.heap.size w w') := by
    refine (join_any w.heap.size M N k a a' l c l' c' w (Nat.le_refl _) hT hM.bag hN.bag hM.rows hN.rows).mono ?_
    rintro e w' ⟨h, kb⟩
    rcases h with ⟨_, h⟩ | ⟨h, _⟩
    · exact ⟨h, kb⟩
    · exact absurd h hE
  have HCX : Hid (∀ W, Below w.heap.size w W → Calls Tryz.prog 13 #[.slice a l c] W fun e w' => e = .returned (.int .i64 (bagE M)) ∧ Below W.heap.size W w') := fun W kW => checkBag_ref M a l c w W hM.bag kW
  have HCY : Hid (∀ W, Below w.heap.size w W → Calls Tryz.prog 13 #[.slice a' l' c'] W fun e w' => e = .returned (.int .i64 (bagE N)) ∧ Below W.heap.size W w') := fun W kW => checkBag_ref N a' l' c' w W hN.bag kW
  have HAF := toHid hM.bag.at'
  have HAG := toHid hN.bag.at'
  have HLM : Hid (M.length = l) := by have := hM.bag.at'.1; rw [List.length_map] at this; exact this.symm
  have HLN : Hid (N.length = l') := by have := hN.bag.at'.1; rw [List.length_map] at this; exact this.symm
  have hl6 : l ≤ 1000000 := hM.bag.at'.2.1
  have hl6' : l' ≤ 1000000 := hN.bag.at'.2.1
  have HT := toHid hT
  have hEE := joinE_is M N k
  rw [HLM.out, HLN.out, show decide (k < 0 ∨ 30 < k) = true from decide_eq_true (.inr hk)] at hEE
  generalize joinE M N k = E at HJ hEE hE
  generalize bagE M = zx at HCX hEE
  generalize bagE N = zy at HCY hEE
  generalize M.map (·.1) = F at HAF hEE
  generalize N.map (·.1) = G at HAG hEE
  have HEQ := toHid hEE
  have HNE := toHid hE
  clear hM hN hE hT hEE HLM HLN
  have hll : l * l' ≤ 1000000000000 := Nat.mul_le_mul hl6 hl6'
  go_enter Tryz.func6, Tryz.ntmps6
  go_wp2_with fail
  refine HJ.out.mono ?_
  rintro e w1 ⟨rfl, k1⟩
  have HK1 := toHid k1
  clear k1 HJ
  have HB1 : Hid (Below w1.heap.size w1 (w1.alloc (.cells #[.slice a l c, .slice a' l' c'] 24))) := (Below.refl _ _).alloc (Nat.le_refl _) _
  have HN1 := toHid (alloc_new w1 (.cells #[.slice a l c, .slice a' l' c'] 24))
  go_wp2_with fail
  generalize w1.alloc (.cells #[.slice a l c, .slice a' l' c'] 24) = V1 at HB1 HN1 ⊢
  generalize hbs : w1.heap.size = bs at HN1 ⊢
  clear hbs
  have HK2 := toHid (HK1.out.trans (HB1.out.mono HK1.out.size))
  have hbs1 := blkB_lt HN1.out
  clear HB1 HK1
  go_loopg [9, 42] 2 (fun q s9 s42 wr => ∃ (i : Nat) (f : Bool), i ≤ 2 ∧ 2 - i ≤ q ∧ s42 = .int .i64 i ∧ s9 = .int .i64 (bad9 f) ∧ f = (true || ([F, G].take i).any (fun X => X.any (shortC k))) ∧ Below V1.heap.size V1 wr)
  case atStart => exact ⟨0, true, Nat.zero_le _, by omega, rfl, rfl, rfl, Below.refl _ _⟩
  case round =>
    obtain ⟨i, f, hi, hq, rfl, rfl, hf, hk⟩ := hrel
    have HK := toHid hk
    have HFF := toHid hf
    clear hk hf
    by_cases hlt : i < 2
    · have hil : (i : Int) < 2 := by omega
      obtain ⟨xa, xl, xc, XF, d0, hat, hns⟩ : ∃ xa xl xc XF, wr.cell? ⟨bs, i, none⟩ = some (.slice xa xl xc) ∧ CtsAt w XF xa xl ∧ [F, G][i]? = some XF := by
        have e : i = 0 ∨ i = 1 := by omega
        rcases e with rfl | rfl
        · exact ⟨a, l, c, F, (HK.out.cell (p := ⟨bs, 0, none⟩) hbs1).trans ((cell_of HN1.out 0).trans rfl), HAF.out, rfl⟩
        · exact ⟨a', l', c', G, (HK.out.cell (p := ⟨bs, 1, none⟩) hbs1).trans ((cell_of HN1.out 1).trans rfl), HAG.out, rfl⟩
      have HAT := toHid hat
      have HTK := toHid (any_takeJ (p := fun X : List Ct => X.any (shortC k)) hns)
      have hxl6 : xl ≤ 1000000 := hat.2.1
      have hbsr : bs < wr.heap.size := Nat.lt_of_lt_of_le hbs1 HK.out.size
      clear hat hns
      go_wp2_with fail
      clear d0 hbsr
      obtain ⟨wo, hren⟩ : ∃ z : World, z = wr := ⟨_, rfl⟩
      subst hren
      go_loopg [9, 48] xl (fun g s9 s48 wr => ∃ (j : Nat) (h : Bool), j ≤ xl ∧ xl - j ≤ g ∧ s48 = .int .i64 j ∧ s9 = .int .i64 (bad9 h) ∧ h = (f || (XF.take j).any (shortC k)) ∧ Below V1.heap.size V1 wr)
      case atStart => exact ⟨0, f, Nat.zero_le _, by omega, rfl, rfl, by simp, HK.out⟩
      case round =>
        clear HK
        obtain ⟨j, h, hj, hg, rfl, rfl, hh, hk⟩ := hrel
        have HK := toHid hk
        have HH := toHid hh
        clear hk hh
        by_cases hjt : j < xl
        · have hjl : (j : Int) < xl := by omega
          obtain ⟨x, hx, _⟩ := drop_get (L := XF) (i := j) (by have := HAT.out.1; omega)
          obtain ⟨b, off, rfl, hb, hc⟩ := HAT.out.2.2 (by omega)
          have kk := HK2.out.trans (HK.out.mono HK2.out.size)
          have d0 := (kk.cell (p := ⟨b, off + j * 2, none⟩) hb).trans (hc j x hx).1
          have d1 := (kk.cell (p := ⟨b, off + j * 2 + 1, none⟩) hb).trans (hc j x hx).2
          have hblr : b < wr.heap.size := Nat.lt_of_lt_of_le hb kk.size
          have HA : Hid (Below wr.heap.size wr (wr.alloc (cObj x))) := (Below.refl _ _).alloc (Nat.le_refl _) _
          have HN := toHid (alloc_new wr (cObj x))
          have HTJ : Hid ((f || (XF.take (j + 1)).any (shortC k)) = (h || shortC k x)) := by
            show _ = _
            rw [any_takeJ hx, HH.out, Bool.or_assoc]
          clear hc hx kk hb
          go_upto_region 11 with fail
          have HKA := toHid (HK.out.trans (HA.out.mono HK.out.size))
          generalize wr.alloc (cObj x) = W1 at HA HN HKA ⊢
          generalize wr.heap.size = bx at HN ⊢
          have x0 := cell_of HN.out 0
          simp at x0
          have hbx := blkF_lt HN.out
          clear d0 d1 hblr HA HK HN
          have FIN : ∀ u : Bool, u = (h || shortC k x) → u = (f || (XF.take (j + 1)).any (shortC k)) := fun u hu => hu.trans HTJ.out.symm
          cases h with
          | true =>
            have HE := toHid (FIN true rfl)
            clear FIN
            have n1 : bad9 true = 9 := rfl
            go_wp2_with fail
            go_roundg (xl - (j + 1))
            case measure => omega
            case rel => exact ⟨j + 1, true, by omega, Nat.le_refl _, by go_num, rfl, HE.out, HKA.out⟩
          | false =>
            have hc := HH.out
            rw [HFF.out] at hc
            simp at hc
        · have he : j = xl := by omega
          have HE : Hid (h = (true || ([F, G].take (i + 1)).any (fun X => X.any (shortC k)))) := by
            show _ = _
            rw [HTK.out, HH.out, HFF.out, show XF.take j = XF from List.take_of_length_le (by have := HAT.out.1; omega), Bool.or_assoc]
          subst he
          go_wp2_with fail
          go_roundg (2 - (i + 1))
          case measure => omega
          case rel => exact ⟨i + 1, h, by omega, Nat.le_refl _, by go_num, rfl, HE.out, HK.out⟩
    · have he : i = 2 := by omega
      subst he
      have hpr1 : wrap64 ((l : Int) * (l' : Int)) = ((l * l' : Nat) : Int) := by
        rw [← Int.natCast_mul]
        unfold wrap64
        omega
      have hpr2 : IntKind.i64.wrap ((l : Int) * (l' : Int)) = (l : Int) * (l' : Int) := by
        rw [← Int.natCast_mul, IntKind.wrap_i64]
        omega
      have HB3 : Hid (Below wr.heap.size wr (wr.alloc (.cells #[.slice a l c, .slice a' l' c'] 24))) := (Below.refl _ _).alloc (Nat.le_refl _) _
      have HN3 := toHid (alloc_new wr (.cells #[.slice a l c, .slice a' l' c'] 24))
      have HKW := toHid (HK2.out.trans (HK.out.mono HK2.out.size))
      have HO : Hid (((true || F.any (shortC k)) || G.any (shortC k)) = f) := by
        show _ = _
        rw [HFF.out]
        simp [Bool.or_assoc]
      rw [HO.out] at HEQ
      have HFT : Hid (f = true) := HFF.out
      clear HK HN1 hbs1 HK2 HFF HO
      cases f with
      | true =>
        have n1 : bad9 true = 9 := rfl
        have hE9 : E = 9 := HEQ.out
        subst hE9
        go_wp2_with fail
        clear hpr1 hpr2
        generalize wr.alloc (.cells #[.slice a l c, .slice a' l' c'] 24) = V3 at HB3 HN3 ⊢
        generalize hbs : wr.heap.size = b3 at HN3 ⊢
        clear hbs
        have HK3 := toHid (HKW.out.trans (HB3.out.mono HKW.out.size))
        have hbs3 := blkB_lt HN3.out
        clear HB3 HKW
        obtain ⟨wo, hren⟩ : ∃ z : World, z = wr := ⟨_, rfl⟩
        subst hren
        go_loopg [9, 77] 2 (fun q s9 s77 wr => ∃ i : Nat, i ≤ 2 ∧ 2 - i ≤ q ∧ s77 = .int .i64 i ∧ s9 = .int .i64 9 ∧ Below V3.heap.size V3 wr)
        case atStart => exact ⟨0, Nat.zero_le _, by omega, rfl, rfl, Below.refl _ _⟩
        case round =>
          obtain ⟨i, hi, hq, rfl, rfl, hk⟩ := hrel
          have HK := toHid hk
          clear hk
          by_cases hlt : i < 2
          · have hil : (i : Int) < 2 := by omega
            obtain ⟨xa, xl, xc, d0⟩ : ∃ xa xl xc, wr.cell? ⟨b3, i, none⟩ = some (.slice xa xl xc) := by
              have e : i = 0 ∨ i = 1 := by omega
              rcases e with rfl | rfl
              · exact ⟨a, l, c, (HK.out.cell (p := ⟨b3, 0, none⟩) hbs3).trans ((cell_of HN3.out 0).trans rfl)⟩
              · exact ⟨a', l', c', (HK.out.cell (p := ⟨b3, 1, none⟩) hbs3).trans ((cell_of HN3.out 1).trans rfl)⟩
            have hbsr : b3 < wr.heap.size := Nat.lt_of_lt_of_le hbs3 HK.out.size
            go_wp2_with fail
            go_roundg (2 - (i + 1))
            case measure => omega
            case rel => exact ⟨i + 1, by omega, Nat.le_refl _, by go_num, rfl, HK.out⟩
          · have he : i = 2 := by omega
            subst he
            have HK4 := toHid (HK3.out.trans (HK.out.mono HK3.out.size))
            clear HK HN3 hbs3 HK3 HCX HCY
            obtain ⟨w4, hren⟩ : ∃ z : World, z = wr := ⟨_, rfl⟩
            subst hren
            go_wp2_with fail
            go_loopg [9, 16, 17] 0 (fun q s9 s16 s17 wr => s9 = .int .i64 9 ∧ s16 = .slice none 0 0 ∧ s17 = .int .i64 0 ∧ wr = w4)
            case atStart => exact ⟨rfl, rfl, rfl, rfl⟩
            case round =>
              obtain ⟨rfl, rfl, rfl, rfl⟩ := hrel
              go_wp2_with fail
              refine (bagged_true w.heap.size wr HK4.out.size (HT.out.below HK4.out)).mono ?_
              rintro e w6 ⟨rfl, k6⟩
              have HK6 := toHid (HK4.out.trans (k6.mono HK4.out.size))
              clear k6
              go_wp2_with fail
              refine (bagged_true w.heap.size w6 HK6.out.size (HT.out.below HK6.out)).mono ?_
              rintro e w7 ⟨rfl, k7⟩
              have HK7 := toHid (HK6.out.trans (k7.mono HK6.out.size))
              clear k7
              go_wp2_with fail
              go_ret
              exact ⟨rfl, HK7.out⟩
      | false =>
        exact absurd HFT.out (by decide)

set_option maxHeartbeats 16000000 in
set_option maxRecDepth 100000 in
theorem join_bad3 (M N : List (Ct × Int)) (k : Int) (a : Option Addr) (l c : Nat) (a' : Option Addr) (l' c' : Nat) (w : World) (hT : Tabs w.heap.size w) (hM : BagArg w M a l) (hN : BagArg w N a' l') (hE : joinE M N k ≠ 0) (hkn : ¬ k < 0) (hk : ¬ 30 < k) :
    Calls Tryz.prog 6 #[.slice a l c, .slice a' l' c', .int .i64 k] w fun e w' => e = .returned (.bool true) ∧ Below w.heap.size w w' := by
  have HJ : Hid (Calls Tryz.prog 17 #[.slice a l c, .slice a' l' c', .int .i64 k] w fun e w' => e = .returned (.tuple #[.slice none 0 0, .int .i64 (joinE M N k)]) ∧ Below w.heap.size w w') := by
    refine (join_any w.heap.size M N k a a' l c l' c' w (Nat.le_refl _) hT hM.bag hN.bag hM.rows hN.rows).mono ?_
    rintro e w' ⟨h, kb⟩
    rcases h with ⟨_, h⟩ | ⟨h, _⟩
    · exact ⟨h, kb⟩
    · exact absurd h hE
  have HCX : Hid (∀ W, Below w.heap.size w W → Calls Tryz.prog 13 #[.slice a l c] W fun e w' => e = .returned (.int .i64 (bagE M)) ∧ Below W.heap.size W w') := fun W kW => checkBag_ref M a l c w W hM.bag kW
  have HCY : Hid (∀ W, Below w.heap.size w W → Calls Tryz.prog 13 #[.slice a' l' c'] W fun e w' => e = .returned (.int .i64 (bagE N)) ∧ Below W.heap.size W w') := fun W kW => checkBag_ref N a' l' c' w W hN.bag kW
  have HAF := toHid hM.bag.at'
  have HAG := toHid hN.bag.at'
  have HLM : Hid (M.length = l) := by have := hM.bag.at'.1; rw [List.length_map] at this; exact this.symm
  have HLN : Hid (N.length = l') := by have := hN.bag.at'.1; rw [List.length_map] at this; exact this.symm
  have hl6 : l ≤ 1000000 := hM.bag.at'.2.1
  have hl6' : l' ≤ 1000000 := hN.bag.at'.2.1
  have HT := toHid hT
  have hEE := joinE_is M N k
  rw [HLM.out, HLN.out, show decide (k < 0 ∨ 30 < k) = false from decide_eq_false (by omega)] at hEE
  generalize joinE M N k = E at HJ hEE hE
  generalize bagE M = zx at HCX hEE
  generalize bagE N = zy at HCY hEE
  generalize M.map (·.1) = F at HAF hEE
  generalize N.map (·.1) = G at HAG hEE
  have HEQ := toHid hEE
  have HNE := toHid hE
  clear hM hN hE hT hEE HLM HLN
  have hll : l * l' ≤ 1000000000000 := Nat.mul_le_mul hl6 hl6'
  go_enter Tryz.func6, Tryz.ntmps6
  go_wp2_with fail
  refine HJ.out.mono ?_
  rintro e w1 ⟨rfl, k1⟩
  have HK1 := toHid k1
  clear k1 HJ
  have HB1 : Hid (Below w1.heap.size w1 (w1.alloc (.cells #[.slice a l c, .slice a' l' c'] 24))) := (Below.refl _ _).alloc (Nat.le_refl _) _
  have HN1 := toHid (alloc_new w1 (.cells #[.slice a l c, .slice a' l' c'] 24))
  go_wp2_with fail
  generalize w1.alloc (.cells #[.slice a l c, .slice a' l' c'] 24) = V1 at HB1 HN1 ⊢
  generalize hbs : w1.heap.size = bs at HN1 ⊢
  clear hbs
  have HK2 := toHid (HK1.out.trans (HB1.out.mono HK1.out.size))
  have hbs1 := blkB_lt HN1.out
  clear HB1 HK1
  go_loopg [9, 42] 2 (fun q s9 s42 wr => ∃ (i : Nat) (f : Bool), i ≤ 2 ∧ 2 - i ≤ q ∧ s42 = .int .i64 i ∧ s9 = .int .i64 (bad9 f) ∧ f = (false || ([F, G].take i).any (fun X => X.any (shortC k))) ∧ Below V1.heap.size V1 wr)
  case atStart => exact ⟨0, false, Nat.zero_le _, by omega, rfl, rfl, rfl, Below.refl _ _⟩
  case round =>
    obtain ⟨i, f, hi, hq, rfl, rfl, hf, hk⟩ := hrel
    have HK := toHid hk
    have HFF := toHid hf
    clear hk hf
    by_cases hlt : i < 2
    · have hil : (i : Int) < 2 := by omega
      obtain ⟨xa, xl, xc, XF, d0, hat, hns⟩ : ∃ xa xl xc XF, wr.cell? ⟨bs, i, none⟩ = some (.slice xa xl xc) ∧ CtsAt w XF xa xl ∧ [F, G][i]? = some XF := by
        have e : i = 0 ∨ i = 1 := by omega
        rcases e with rfl | rfl
        · exact ⟨a, l, c, F, (HK.out.cell (p := ⟨bs, 0, none⟩) hbs1).trans ((cell_of HN1.out 0).trans rfl), HAF.out, rfl⟩
        · exact ⟨a', l', c', G, (HK.out.cell (p := ⟨bs, 1, none⟩) hbs1).trans ((cell_of HN1.out 1).trans rfl), HAG.out, rfl⟩
      have HAT := toHid hat
      have HTK := toHid (any_takeJ (p := fun X : List Ct => X.any (shortC k)) hns)
      have hxl6 : xl ≤ 1000000 := hat.2.1
      have hbsr : bs < wr.heap.size := Nat.lt_of_lt_of_le hbs1 HK.out.size
      clear hat hns
      go_wp2_with fail
      clear d0 hbsr
      obtain ⟨wo, hren⟩ : ∃ z : World, z = wr := ⟨_, rfl⟩
      subst hren
      go_loopg [9, 48] xl (fun g s9 s48 wr => ∃ (j : Nat) (h : Bool), j ≤ xl ∧ xl - j ≤ g ∧ s48 = .int .i64 j ∧ s9 = .int .i64 (bad9 h) ∧ h = (f || (XF.take j).any (shortC k)) ∧ Below V1.heap.size V1 wr)
      case atStart => exact ⟨0, f, Nat.zero_le _, by omega, rfl, rfl, by simp, HK.out⟩
      case round =>
        clear HK
        obtain ⟨j, h, hj, hg, rfl, rfl, hh, hk⟩ := hrel
        have HK := toHid hk
        have HH := toHid hh
        clear hk hh
        by_cases hjt : j < xl
        · have hjl : (j : Int) < xl := by omega
          obtain ⟨x, hx, _⟩ := drop_get (L := XF) (i := j) (by have := HAT.out.1; omega)
          obtain ⟨b, off, rfl, hb, hc⟩ := HAT.out.2.2 (by omega)
          have kk := HK2.out.trans (HK.out.mono HK2.out.size)
          have d0 := (kk.cell (p := ⟨b, off + j * 2, none⟩) hb).trans (hc j x hx).1
          have d1 := (kk.cell (p := ⟨b, off + j * 2 + 1, none⟩) hb).trans (hc j x hx).2
          have hblr : b < wr.heap.size := Nat.lt_of_lt_of_le hb kk.size
          have HA : Hid (Below wr.heap.size wr (wr.alloc (cObj x))) := (Below.refl _ _).alloc (Nat.le_refl _) _
          have HN := toHid (alloc_new wr (cObj x))
          have HTJ : Hid ((f || (XF.take (j + 1)).any (shortC k)) = (h || shortC k x)) := by
            show _ = _
            rw [any_takeJ hx, HH.out, Bool.or_assoc]
          clear hc hx kk hb
          go_upto_region 11 with fail
          have HKA := toHid (HK.out.trans (HA.out.mono HK.out.size))
          generalize wr.alloc (cObj x) = W1 at HA HN HKA ⊢
          generalize wr.heap.size = bx at HN ⊢
          have x0 := cell_of HN.out 0
          simp at x0
          have hbx := blkF_lt HN.out
          clear d0 d1 hblr HA HK HN
          have FIN : ∀ u : Bool, u = (h || shortC k x) → u = (f || (XF.take (j + 1)).any (shortC k)) := fun u hu => hu.trans HTJ.out.symm
          cases h with
          | true =>
            have HE := toHid (FIN true rfl)
            clear FIN
            have n1 : bad9 true = 9 := rfl
            go_wp2_with fail
            go_roundg (xl - (j + 1))
            case measure => omega
            case rel => exact ⟨j + 1, true, by omega, Nat.le_refl _, by go_num, rfl, HE.out, HKA.out⟩
          | false =>
            have n1 : bad9 false = 0 := rfl
            by_cases hsh : (x.l : Int) < k
            · have HE := toHid (FIN true (by simp [shortC, hsh]))
              clear FIN
              go_wp2_with fail
              go_roundg (xl - (j + 1))
              case measure => omega
              case rel => exact ⟨j + 1, true, by omega, Nat.le_refl _, by go_num, rfl, HE.out, HKA.out⟩
            · have HE := toHid (FIN false (by simp [shortC, hsh]))
              clear FIN
              go_wp2_with fail
              go_roundg (xl - (j + 1))
              case measure => omega
              case rel => exact ⟨j + 1, false, by omega, Nat.le_refl _, by go_num, rfl, HE.out, HKA.out⟩
        · have he : j = xl := by omega
          have HE : Hid (h = (false || ([F, G].take (i + 1)).any (fun X => X.any (shortC k)))) := by
            show _ = _
            rw [HTK.out, HH.out, HFF.out, show XF.take j = XF from List.take_of_length_le (by have := HAT.out.1; omega), Bool.or_assoc]
          subst he
          go_wp2_with fail
          go_roundg (2 - (i + 1))
          case measure => omega
          case rel => exact ⟨i + 1, h, by omega, Nat.le_refl _, by go_num, rfl, HE.out, HK.out⟩
    · have he : i = 2 := by omega
      subst he
      have hpr1 : wrap64 ((l : Int) * (l' : Int)) = ((l * l' : Nat) : Int) := by
        rw [← Int.natCast_mul]
        unfold wrap64
        omega
      have hpr2 : IntKind.i64.wrap ((l : Int) * (l' : Int)) = (l : Int) * (l' : Int) := by
        rw [← Int.natCast_mul, IntKind.wrap_i64]
        omega
      have HB3 : Hid (Below wr.heap.size wr (wr.alloc (.cells #[.slice a l c, .slice a' l' c'] 24))) := (Below.refl _ _).alloc (Nat.le_refl _) _
      have HN3 := toHid (alloc_new wr (.cells #[.slice a l c, .slice a' l' c'] 24))
      have HKW := toHid (HK2.out.trans (HK.out.mono HK2.out.size))
      have HO : Hid (((false || F.any (shortC k)) || G.any (shortC k)) = f) := by
        show _ = _
        rw [HFF.out]
        simp [Bool.or_assoc]
      rw [HO.out] at HEQ
      clear HK HN1 hbs1 HK2 HFF HO
      cases f with
      | true =>
        have n1 : bad9 true = 9 := rfl
        have hE9 : E = 9 := HEQ.out
        subst hE9
        go_wp2_with fail
        clear hpr1 hpr2
        generalize wr.alloc (.cells #[.slice a l c, .slice a' l' c'] 24) = V3 at HB3 HN3 ⊢
        generalize hbs : wr.heap.size = b3 at HN3 ⊢
        clear hbs
        have HK3 := toHid (HKW.out.trans (HB3.out.mono HKW.out.size))
        have hbs3 := blkB_lt HN3.out
        clear HB3 HKW
        obtain ⟨wo, hren⟩ : ∃ z : World, z = wr := ⟨_, rfl⟩
        subst hren
        go_loopg [9, 77] 2 (fun q s9 s77 wr => ∃ i : Nat, i ≤ 2 ∧ 2 - i ≤ q ∧ s77 = .int .i64 i ∧ s9 = .int .i64 9 ∧ Below V3.heap.size V3 wr)
        case atStart => exact ⟨0, Nat.zero_le _, by omega, rfl, rfl, Below.refl _ _⟩
        case round =>
          obtain ⟨i, hi, hq, rfl, rfl, hk⟩ := hrel
          have HK := toHid hk
          clear hk
          by_cases hlt : i < 2
          · have hil : (i : Int) < 2 := by omega
            obtain ⟨xa, xl, xc, d0⟩ : ∃ xa xl xc, wr.cell? ⟨b3, i, none⟩ = some (.slice xa xl xc) := by
              have e : i = 0 ∨ i = 1 := by omega
              rcases e with rfl | rfl
              · exact ⟨a, l, c, (HK.out.cell (p := ⟨b3, 0, none⟩) hbs3).trans ((cell_of HN3.out 0).trans rfl)⟩
              · exact ⟨a', l', c', (HK.out.cell (p := ⟨b3, 1, none⟩) hbs3).trans ((cell_of HN3.out 1).trans rfl)⟩
            have hbsr : b3 < wr.heap.size := Nat.lt_of_lt_of_le hbs3 HK.out.size
            go_wp2_with fail
            go_roundg (2 - (i + 1))
            case measure => omega
            case rel => exact ⟨i + 1, by omega, Nat.le_refl _, by go_num, rfl, HK.out⟩
          · have he : i = 2 := by omega
            subst he
            have HK4 := toHid (HK3.out.trans (HK.out.mono HK3.out.size))
            clear HK HN3 hbs3 HK3 HCX HCY
            obtain ⟨w4, hren⟩ : ∃ z : World, z = wr := ⟨_, rfl⟩
            subst hren
            go_wp2_with fail
            go_loopg [9, 16, 17] 0 (fun q s9 s16 s17 wr => s9 = .int .i64 9 ∧ s16 = .slice none 0 0 ∧ s17 = .int .i64 0 ∧ wr = w4)
            case atStart => exact ⟨rfl, rfl, rfl, rfl⟩
            case round =>
              obtain ⟨rfl, rfl, rfl, rfl⟩ := hrel
              go_wp2_with fail
              refine (bagged_true w.heap.size wr HK4.out.size (HT.out.below HK4.out)).mono ?_
              rintro e w6 ⟨rfl, k6⟩
              have HK6 := toHid (HK4.out.trans (k6.mono HK4.out.size))
              clear k6
              go_wp2_with fail
              refine (bagged_true w.heap.size w6 HK6.out.size (HT.out.below HK6.out)).mono ?_
              rintro e w7 ⟨rfl, k7⟩
              have HK7 := toHid (HK6.out.trans (k7.mono HK6.out.size))
              clear k7
              go_wp2_with fail
              go_ret
              exact ⟨rfl, HK7.out⟩
      | false =>
        have n1 : bad9 false = 0 := rfl
        by_cases hbig : 20000 < l * l'
        · have hpr3 : (20000 : Int) < (l : Int) * (l' : Int) := by
            rw [← Int.natCast_mul]
            omega
          have hE2 : E = 2 := by
            rw [HEQ.out]
            unfold wrong3
            rw [if_neg (by simp), if_pos hbig]
          clear hbig
          subst hE2
          go_wp2_with fail
          clear hpr1 hpr2
          generalize wr.alloc (.cells #[.slice a l c, .slice a' l' c'] 24) = V3 at HB3 HN3 ⊢
          generalize hbs : wr.heap.size = b3 at HN3 ⊢
          clear hbs
          have HK3 := toHid (HKW.out.trans (HB3.out.mono HKW.out.size))
          have hbs3 := blkB_lt HN3.out
          clear HB3 HKW
          obtain ⟨wo, hren⟩ : ∃ z : World, z = wr := ⟨_, rfl⟩
          subst hren
          go_loopg [9, 77] 2 (fun q s9 s77 wr => ∃ i : Nat, i ≤ 2 ∧ 2 - i ≤ q ∧ s77 = .int .i64 i ∧ s9 = .int .i64 2 ∧ Below V3.heap.size V3 wr)
          case atStart => exact ⟨0, Nat.zero_le _, by omega, rfl, rfl, Below.refl _ _⟩
          case round =>
            obtain ⟨i, hi, hq, rfl, rfl, hk⟩ := hrel
            have HK := toHid hk
            clear hk
            by_cases hlt : i < 2
            · have hil : (i : Int) < 2 := by omega
              obtain ⟨xa, xl, xc, d0⟩ : ∃ xa xl xc, wr.cell? ⟨b3, i, none⟩ = some (.slice xa xl xc) := by
                have e : i = 0 ∨ i = 1 := by omega
                rcases e with rfl | rfl
                · exact ⟨a, l, c, (HK.out.cell (p := ⟨b3, 0, none⟩) hbs3).trans ((cell_of HN3.out 0).trans rfl)⟩
                · exact ⟨a', l', c', (HK.out.cell (p := ⟨b3, 1, none⟩) hbs3).trans ((cell_of HN3.out 1).trans rfl)⟩
              have hbsr : b3 < wr.heap.size := Nat.lt_of_lt_of_le hbs3 HK.out.size
              go_wp2_with fail
              go_roundg (2 - (i + 1))
              case measure => omega
              case rel => exact ⟨i + 1, by omega, Nat.le_refl _, by go_num, rfl, HK.out⟩
            · have he : i = 2 := by omega
              subst he
              have HK4 := toHid (HK3.out.trans (HK.out.mono HK3.out.size))
              clear HK HN3 hbs3 HK3 HCX HCY
              obtain ⟨w4, hren⟩ : ∃ z : World, z = wr := ⟨_, rfl⟩
              subst hren
              go_wp2_with fail
              go_loopg [9, 16, 17] 0 (fun q s9 s16 s17 wr => s9 = .int .i64 2 ∧ s16 = .slice none 0 0 ∧ s17 = .int .i64 0 ∧ wr = w4)
              case atStart => exact ⟨rfl, rfl, rfl, rfl⟩
              case round =>
                obtain ⟨rfl, rfl, rfl, rfl⟩ := hrel
                go_wp2_with fail
                refine (bagged_true w.heap.size wr HK4.out.size (HT.out.below HK4.out)).mono ?_
                rintro e w6 ⟨rfl, k6⟩
                have HK6 := toHid (HK4.out.trans (k6.mono HK4.out.size))
                clear k6
                go_wp2_with fail
                refine (bagged_true w.heap.size w6 HK6.out.size (HT.out.below HK6.out)).mono ?_
                rintro e w7 ⟨rfl, k7⟩
                have HK7 := toHid (HK6.out.trans (k7.mono HK6.out.size))
                clear k7
                go_wp2_with fail
                go_ret
                exact ⟨rfl, HK7.out⟩
        · have hpr3 : ¬ ((20000 : Int) < (l : Int) * (l' : Int)) := by
            rw [← Int.natCast_mul]
            omega
          have HEE : Hid (E = if zx = 0 then zy else zx) := by
            show _ = _
            rw [HEQ.out]
            unfold wrong3
            rw [if_neg (by simp), if_neg hbig]
          clear hbig HEQ
          go_wp2_with fail
          clear hpr1 hpr2
          generalize wr.alloc (.cells #[.slice a l c, .slice a' l' c'] 24) = V3 at HB3 HN3 ⊢
          generalize hbs : wr.heap.size = b3 at HN3 ⊢
          clear hbs
          have HK3 := toHid (HKW.out.trans (HB3.out.mono HKW.out.size))
          have hbs3 := blkB_lt HN3.out
          clear HB3 HKW
          obtain ⟨wo, hren⟩ : ∃ z : World, z = wr := ⟨_, rfl⟩
          subst hren
          obtain ⟨e3, he30, he31, he32⟩ : ∃ e3 : Nat → Int, e3 0 = 0 ∧ e3 1 = zx ∧ e3 2 = E := ⟨fun i => if i = 0 then 0 else if i = 1 then zx else E, rfl, rfl, rfl⟩
          have HE31 := toHid he31
          have HE32 := toHid he32
          clear he31 he32
          go_loopg [9, 77] 2 (fun q s9 s77 wr => ∃ (i : Nat) (z : Int), i ≤ 2 ∧ 2 - i ≤ q ∧ s77 = .int .i64 i ∧ s9 = .int .i64 z ∧ z = e3 i ∧ Below V3.heap.size V3 wr)
          case atStart => exact ⟨0, 0, Nat.zero_le _, by omega, rfl, rfl, he30.symm, Below.refl _ _⟩
          case round =>
            obtain ⟨i, z, hi, hq, rfl, rfl, hz, hk⟩ := hrel
            have HK := toHid hk
            have HZ := toHid hz
            clear hk hz
            by_cases hlt : i < 2
            · have hil : (i : Int) < 2 := by omega
              obtain ⟨xa, xl, xc, zn, d0, hck, hst⟩ : ∃ xa xl xc zn, wr.cell? ⟨b3, i, none⟩ = some (.slice xa xl xc) ∧ (∀ W, Below w.heap.size w W → Calls Tryz.prog 13 #[.slice xa xl xc] W fun e w' => e = .returned (.int .i64 zn) ∧ Below W.heap.size W w') ∧ (e3 (i + 1) = if z = 0 then zn else z) := by
                have e : i = 0 ∨ i = 1 := by omega
                rcases e with rfl | rfl
                · refine ⟨a, l, c, zx, (HK.out.cell (p := ⟨b3, 0, none⟩) hbs3).trans ((cell_of HN3.out 0).trans rfl), HCX.out, ?_⟩
                  rw [HZ.out, he30, if_pos rfl]
                  exact HE31.out
                · refine ⟨a', l', c', zy, (HK.out.cell (p := ⟨b3, 1, none⟩) hbs3).trans ((cell_of HN3.out 1).trans rfl), HCY.out, ?_⟩
                  rw [HZ.out, HE31.out]
                  exact HE32.out.trans HEE.out
              have HCK := toHid (hck wr (HK3.out.trans (HK.out.mono HK3.out.size)))
              have HST := toHid hst
              have hbsr : b3 < wr.heap.size := Nat.lt_of_lt_of_le hbs3 HK.out.size
              clear hck hst
              by_cases hz0 : z = 0
              · have n3 : (z == 0) = true := by simp [hz0]
                have HS2 : Hid (zn = e3 (i + 1)) := by show _ = _; rw [HST.out, if_pos hz0]
                clear hz0
                go_wp2_with fail
                refine HCK.out.mono ?_
                rintro e w5 ⟨rfl, k5⟩
                have HK5 := toHid (HK.out.trans (k5.mono HK.out.size))
                clear k5 d0 hbsr
                go_wp2_with fail
                go_roundg (2 - (i + 1))
                case measure => omega
                case rel => exact ⟨i + 1, zn, by omega, Nat.le_refl _, by go_num, rfl, HS2.out, HK5.out⟩
              · have n3 : (z == 0) = false := by simp [hz0]
                have HS2 : Hid (z = e3 (i + 1)) := by show _ = _; rw [HST.out, if_neg hz0]
                clear hz0
                go_wp2_with fail
                go_roundg (2 - (i + 1))
                case measure => omega
                case rel => exact ⟨i + 1, z, by omega, Nat.le_refl _, by go_num, rfl, HS2.out, HK.out⟩
            · have he : i = 2 := by omega
              subst he
              have HK4 := toHid (HK3.out.trans (HK.out.mono HK3.out.size))
              have hzE : z = E := HZ.out.trans HE32.out
              clear HK HN3 hbs3 HK3 HCX HCY HZ he30 HE31 HE32
              subst hzE
              have n4 : (z == 0) = false := by simp [HNE.out]
              have n5 : (z != 0) = true := by simp [HNE.out]
              have n6 : (z == z) = true := by simp
              obtain ⟨w4, hren⟩ : ∃ z : World, z = wr := ⟨_, rfl⟩
              subst hren
              go_wp2_with fail
              go_loopg [9, 16, 17] 0 (fun q s9 s16 s17 wr => s9 = .int .i64 z ∧ s16 = .slice none 0 0 ∧ s17 = .int .i64 0 ∧ wr = w4)
              case atStart => exact ⟨rfl, rfl, rfl, rfl⟩
              case round =>
                obtain ⟨rfl, rfl, rfl, rfl⟩ := hrel
                go_wp2_with fail
                refine (bagged_true w.heap.size wr HK4.out.size (HT.out.below HK4.out)).mono ?_
                rintro e w6 ⟨rfl, k6⟩
                have HK6 := toHid (HK4.out.trans (k6.mono HK4.out.size))
                clear k6
                go_wp2_with fail
                refine (bagged_true w.heap.size w6 HK6.out.size (HT.out.below HK6.out)).mono ?_
                rintro e w7 ⟨rfl, k7⟩
                have HK7 := toHid (HK6.out.trans (k7.mono HK6.out.size))
                clear k7
                go_wp2_with fail
                go_ret
                exact ⟨rfl, HK7.out⟩

set_option linter.unusedSimpArgs false

theorem law_join (M N : List (Ct × Int)) (k : Int) (a : Option Addr) (l c : Nat) (a' : Option Addr) (l' c' : Nat) (w : World) (hT : Tabs w.heap.size w) (hM : BagArg w M a l) (hN : BagArg w N a' l') :
    Calls Tryz.prog 6 #[.slice a l c, .slice a' l' c', .int .i64 k] w fun e w' => e = .returned (.bool true) ∧ Below w.heap.size w w' := by
  by_cases hE : joinE M N k = 0
  · obtain ⟨⟨hk0, _⟩, _⟩ := joinE_zero hE
    obtain ⟨kk, rfl⟩ : ∃ kk : Nat, k = (kk : Int) := ⟨k.toNat, by omega⟩
    exact join_good M N kk a l c a' l' c' w hT hM hN hE
  · by_cases h1 : k < 0
    · exact join_bad1 M N k a l c a' l' c' w hT hM hN hE h1
    · by_cases h2 : 30 < k
      · exact join_bad2 M N k a l c a' l' c' w hT hM hN hE h1 h2
      · exact join_bad3 M N k a l c a' l' c' w hT hM hN hE h1 h2
end Go.Proofs.YtbjkpbeijkmoeaaGreatDoor
