/-
  What is proved here: what the texts BMeetA, BOver, BGrow, BShal, BConcat prove, in one text.
-/
import Derived.Test.YtbjkpbeijkmoeaaGreatDoorQBAL
import Derived.Lib.AppendZeros
namespace Go.Proofs.YtbjkpbeijkmoeaaGreatDoor
open Go.RowKit
set_option linter.unusedVariables false

set_option linter.unusedSimpArgs false

set_option maxHeartbeats 8000000 in
set_option maxRecDepth 100000 in
theorem meetA_any (cp0 : Value) (J : List (Ct × Ct) → World → Prop) (Fr : Nat → List (Ct × Ct) → World → Prop) (X Y : List Ct) (k : Nat) (a a' : Option Addr) (l c l' c' : Nat) (w0 w : World) (hX : CtsAt w0 X a l) (hY : CtsAt w0 Y a' l') (hx : ∀ x ∈ X, RowOk w0 k x) (hy : ∀ x ∈ Y, RowOk w0 k x)
    (hJ0 : J [] w) (hJb : ∀ d W W', J d W → Below W.heap.size W W' → J d W') (hJw : ∀ d W, J d W → Below w0.heap.size w0 W)
    (hFn : ∀ d W o, J d W → Fr W.heap.size d (W.alloc o)) (hFb : ∀ d W W' j, J d W → Fr j d W → Below W.heap.size W W' → Fr j d W')
    (hst : ∀ d x y W, J d W → x ∈ X → y ∈ Y → (x, y) ∈ meetL k X Y → d.length ≤ X.length * Y.length → Calls Tryz.prog 41 #[.agg #[.slice x.a x.l x.c, .int .i64 x.n], .agg #[.slice y.a y.l y.c, .int .i64 y.n], cp0] W fun e w' => e = .returned (.tuple #[]) ∧ J (d ++ [(x, y)]) w' ∧ ∀ j, j < W.heap.size → Fr j d W → w'.heap[j]? = W.heap[j]? ∧ Fr j (d ++ [(x, y)]) w') :
    Calls Tryz.prog 40 #[.slice a l c, .slice a' l' c', .int .i64 k, .func (.func 41) #[] #[cp0]] w fun e w' => e = .returned (.tuple #[]) ∧ J (meetL k X Y) w' := by
  have HX := toHid hX
  have HY := toHid hY
  have HRX := toHid hx
  have HRY := toHid hy
  have HJ0 := toHid hJ0
  have HJB := toHid hJb
  have HJW := toHid hJw
  have HST := toHid hst
  have HFN := toHid hFn
  have HFB := toHid hFb
  have hmx : l ≤ 1000000 := hX.2.1
  have hmy : l' ≤ 1000000 := hY.2.1
  clear hX hY hx hy hJ0 hJb hJw hst hFn hFb
  go_enter Tryz.func40, Tryz.ntmps40
  go_wp2_with fail
  go_loopg [15] l (fun g s15 wr => ∃ i : Nat, i ≤ l ∧ l - i ≤ g ∧ s15 = .int .i64 i ∧ J (meetL k (X.take i) Y) wr)
  case atStart => exact ⟨0, Nat.zero_le _, by omega, rfl, HJ0.out⟩
  case round =>
    clear HJ0
    obtain ⟨i, hi, hg, rfl, hj⟩ := hrel
    have HJ := toHid hj
    have HBW := toHid (HJW.out _ _ hj)
    clear hj
    by_cases hlt : i < l
    · have hil : (i : Int) < l := by omega
      obtain ⟨b, off, rfl, hb, hc⟩ := HX.out.2.2 (by omega)
      obtain ⟨x, hx, _⟩ := drop_get (L := X) (i := i) (by have := HX.out.1; omega)
      obtain ⟨c0, c1⟩ := hc i x hx
      have d0 := (HBW.out.cell (p := ⟨b, off + i * 2, none⟩) hb).trans c0
      have d1 := (HBW.out.cell (p := ⟨b, off + i * 2 + 1, none⟩) hb).trans c1
      have hxm := List.mem_of_getElem? hx
      have HXM := toHid hxm
      have hro := HRX.out x hxm
      have HRO := toHid hro
      have HTK := toHid (meetL_take (k := k) (Y := Y) hx)
      have hcut : k ≤ x.l := hro.cut
      have hcap : x.l ≤ x.c := hro.cap
      have hkc : k ≤ x.c := Nat.le_trans hcut hcap
      have hkc' : (k : Int) ≤ x.c := by omega
      have hk0 : (0 : Int) ≤ k := by omega
      have hba : Below wr.heap.size wr (wr.alloc (cObj x)) := (Below.refl _ _).alloc (Nat.le_refl _) _
      have HJA := toHid (HJB.out _ _ _ HJ.out hba)
      have HFA := toHid (HFN.out _ _ (cObj x) HJ.out)
      have HXA := toHid (alloc_new wr (cObj x))
      have HBA := toHid (HBW.out.trans (hba.mono HBW.out.size))
      have HKL : Hid (k ≤ x.l) := hcut
      generalize hD : meetL k (X.take i) Y = D at HJ HTK HJA HFA
      have HDL : Hid (D.length ≤ i * Y.length) := by
        have h1 := meetL_len k Y (X.take i)
        rw [hD, List.length_take] at h1
        exact Nat.le_trans h1 (Nat.mul_le_mul_right _ (Nat.min_le_left _ _))
      obtain ⟨nl, hnl⟩ : ∃ nl, nl = (x.L.take k).any nullT := ⟨_, rfl⟩
      have HNL := toHid hnl
      have HCN : Hid (Calls Tryz.prog 69 #[.slice x.a k x.c, .func (.func 70) #[] #[]] (wr.alloc (cObj x)) fun e w' => e = .returned (.bool nl) ∧ Below (wr.alloc (cObj x)).heap.size (wr.alloc (cObj x)) w') := by
        rw [hnl]
        exact holdsN_any (x.L.take k) x.a k x.c _ (LiesS.take (LiesS.below HBA.out _ _ _ hro.lies) hcut)
      clear hc hx hxm c0 c1 hro hba hD hnl HJ
      go_wp2_with fail
      refine HCN.out.mono ?_
      generalize wr.alloc (cObj x) = Wp at HJA HFA HXA HBA HCN ⊢
      generalize wr.heap.size = bx at HFA HXA ⊢
      rintro e w1 ⟨rfl, k1⟩
      have HJ1 := toHid (HJB.out _ _ _ HJA.out k1)
      have HF1 := toHid (HFB.out _ _ _ _ HJA.out HFA.out k1)
      have HX1 := toHid ((k1.block _ (blkB_lt HXA.out)).trans HXA.out)
      clear k1 d0 d1 HJA HFA HXA HBA HCN HBW
      cases nl with
      | true =>
        go_wp2_with fail
        go_roundg (l - (i + 1))
        case measure => omega
        case rel =>
          refine ⟨i + 1, by omega, Nat.le_refl _, by go_num, ?_⟩
          have e1 : meetY k x Y = [] := by unfold meetY; rw [← HNL.out]; rfl
          rw [HTK.out, e1, List.append_nil]
          exact HJ1.out
      | false =>
        go_wp2_with fail
        go_loopg [27] l' (fun g s27 wq => ∃ j : Nat, j ≤ l' ∧ l' - j ≤ g ∧ s27 = .int .i64 j ∧ J (D ++ meetY k x (Y.take j)) wq ∧ wq.heap[bx]? = some (cObj x) ∧ Fr bx (D ++ meetY k x (Y.take j)) wq)
        case atStart =>
          have e1 : meetY k x (Y.take 0) = [] := by unfold meetY; split <;> rfl
          exact ⟨0, Nat.zero_le _, by omega, rfl, by rw [e1, List.append_nil]; exact HJ1.out, HX1.out, by rw [e1, List.append_nil]; exact HF1.out⟩
        case round =>
          clear HJ1 HF1 HX1
          obtain ⟨j, hj, hgj, rfl, hjq, hxq, hfq⟩ := hrel
          have HJQ := toHid hjq
          have HXQ := toHid hxq
          have HFQ := toHid hfq
          have HBQ := toHid (HJW.out _ _ hjq)
          clear hjq hxq hfq
          by_cases hjl : j < l'
          · have hjl' : (j : Int) < l' := by omega
            obtain ⟨b', off', rfl, hb', hc'⟩ := HY.out.2.2 (by omega)
            obtain ⟨y, hy, _⟩ := drop_get (L := Y) (i := j) (by have := HY.out.1; omega)
            obtain ⟨e0, e1⟩ := hc' j y hy
            have f0 := (HBQ.out.cell (p := ⟨b', off' + j * 2, none⟩) hb').trans e0
            have f1 := (HBQ.out.cell (p := ⟨b', off' + j * 2 + 1, none⟩) hb').trans e1
            have hym := List.mem_of_getElem? hy
            have HYM := toHid hym
            have hry := HRY.out y hym
            have hcuty : k ≤ y.l := hry.cut
            have hcapy : y.l ≤ y.c := hry.cap
            have hkcy : k ≤ y.c := Nat.le_trans hcuty hcapy
            have hkcy' : (k : Int) ≤ y.c := by omega
            have hba : Below wr.heap.size wr (wr.alloc (cObj y)) := (Below.refl _ _).alloc (Nat.le_refl _) _
            have HBA := toHid (HBQ.out.trans (hba.mono HBQ.out.size))
            have HJA := toHid (HJB.out _ _ _ HJQ.out hba)
            have HFA := toHid (HFB.out _ _ _ _ HJQ.out HFQ.out hba)
            have HXA := toHid ((hba.block _ (blkB_lt HXQ.out)).trans HXQ.out)
            have HYA := toHid (alloc_new wr (cObj y))
            have HTY := toHid (meetY_take (k := k) HNL.out.symm hy)
            have HDJ : Hid ((D ++ meetY k x (Y.take j)).length ≤ X.length * Y.length) := by
              have h1 := meetY_len k x (Y.take j)
              have h2 := HDL.out
              have h3 : (i + 1) * Y.length ≤ X.length * Y.length := Nat.mul_le_mul_right _ (by have := HX.out.1; omega)
              rw [Nat.add_mul, Nat.one_mul] at h3
              rw [List.length_take] at h1
              show (_ : Nat) ≤ _
              rw [List.length_append]
              have h4 := Nat.min_le_right j Y.length
              omega
            obtain ⟨z, hz⟩ : ∃ z, z = ordL (x.L.take k) (y.L.take k) := ⟨_, rfl⟩
            have HC : Hid (Calls Tryz.prog 56 #[.slice x.a k x.c, .slice y.a k y.c] (wr.alloc (cObj y)) fun e w' => e = .returned (.int .i64 z) ∧ BelD (wr.alloc (cObj y)).heap.size (wr.alloc (cObj y)) w') := by
              rw [hz]
              exact compareD_any _ _ x.a k x.c y.a k y.c _ (LiesS.take (LiesS.below HBA.out _ _ _ HRO.out.lies) HKL.out) (LiesS.take (LiesS.below HBA.out _ _ _ hry.lies) hcuty) (Nat.le_trans (wtL_take _ _) HRO.out.wt)
            rw [← hz] at HTY
            have HZQ := toHid hz
            generalize meetY k x (Y.take j) = Dj at HJA HFA HDJ HTY HJQ HFQ
            clear hc' hy hym e0 e1 hry hba hz HJQ HFQ HXQ
            go_wp2_with fail
            refine HC.out.mono ?_
            generalize wr.alloc (cObj y) = Wq at HJA HFA HXA HYA HBA HC ⊢
            generalize wr.heap.size = by' at HYA ⊢
            rintro e w2 ⟨rfl, kd⟩
            have k2 := kd.toBelow
            have HJ2 := toHid (HJB.out _ _ _ HJA.out k2)
            have HF2 := toHid (HFB.out _ _ _ _ HJA.out HFA.out k2)
            have HX2 := toHid ((k2.block _ (blkB_lt HXA.out)).trans HXA.out)
            have HY2 := toHid ((k2.block _ (blkB_lt HYA.out)).trans HYA.out)
            clear kd k2 f0 f1 HJA HFA HXA HYA HBA HC HBQ
            by_cases hz0 : z = 0
            · have hzb : (z == 0) = true := by simp [hz0]
              rw [if_pos hz0] at HTY
              have x0 := cell_of HX2.out 0
              have x1 := cell_of HX2.out 1
              have y0 := cell_of HY2.out 0
              have y1 := cell_of HY2.out 1
              simp at x0 x1 y0 y1
              have HV := toHid (HST.out _ x y w2 HJ2.out HXM.out HYM.out (meet_mem HXM.out HYM.out HNL.out.symm (HZQ.out.symm.trans hz0)) HDJ.out)
              clear hz0
              go_wp2_with fail
              refine HV.out.mono ?_
              rintro e w3 ⟨rfl, hj3, hf3⟩
              have HJ3 := toHid hj3
              have HF3 := toHid (hf3 bx (blkB_lt HX2.out) HF2.out)
              clear hj3 hf3 x0 x1 y0 y1
              go_wp2_with fail
              go_roundg (l' - (j + 1))
              case measure => omega
              case rel =>
                refine ⟨j + 1, by omega, Nat.le_refl _, by go_num, ?_, HF3.out.1.trans HX2.out, ?_⟩
                · rw [HTY.out, ← List.append_assoc]
                  exact HJ3.out
                · rw [HTY.out, ← List.append_assoc]
                  exact HF3.out.2
            · have hzb : (z == 0) = false := by simp [hz0]
              rw [if_neg hz0, List.append_nil] at HTY
              clear hz0
              go_wp2_with fail
              go_roundg (l' - (j + 1))
              case measure => omega
              case rel =>
                refine ⟨j + 1, by omega, Nat.le_refl _, by go_num, ?_, HX2.out, ?_⟩
                · rw [HTY.out]
                  exact HJ2.out
                · rw [HTY.out]
                  exact HF2.out
          · have hjq : ¬ ((j : Int) < l') := by omega
            have HAL : Hid (Y.take j = Y) := List.take_of_length_le (by have := HY.out.1; omega)
            go_wp2_with fail
            go_roundg (l - (i + 1))
            case measure => omega
            case rel =>
              refine ⟨i + 1, by omega, Nat.le_refl _, by go_num, ?_⟩
              have h1 := HJQ.out
              rw [HAL.out] at h1
              rw [HTK.out]
              exact h1
    · have he : i = l := by omega
      subst he
      have HAL : Hid (X.take i = X) := List.take_of_length_le (by have := HX.out.1; omega)
      go_wp2_with fail
      go_end0
      refine ⟨rfl, ?_⟩
      have h1 := HJ.out
      rw [HAL.out] at h1
      exact h1

set_option linter.unusedSimpArgs false

set_option maxHeartbeats 4000000 in
set_option maxRecDepth 100000 in
theorem size_any (n : Int) (w : World) (h : -1099511627776 ≤ n ∧ n ≤ 1099511627776) :
    Calls Tryz.prog 42 #[.int .i64 n] w fun e w' => e = .returned (.int .i64 (n.natAbs : Int)) ∧ w' = w := by
  have hw : wrap64 (-n) = -n := by unfold wrap64; omega
  have hw2 : IntKind.i64.wrap (-n) = -n := by rw [IntKind.wrap_i64]; omega
  have HE : Hid (max n (-n) = (n.natAbs : Int)) := by
    show _ = _
    omega
  clear h
  go_enter Tryz.func42, Tryz.ntmps42
  go_wp2_with fail
  go_ret
  exact ⟨ret_int HE.out, rfl⟩

/-- A product that is too great. -/
def overC (p : Ct × Ct) : Bool := decide (((1099511627776 / p.2.n.natAbs : Nat) : Int) < (p.1.n.natAbs : Int))

def SmallN (x : Ct) : Prop := x.n ≠ 0 ∧ -1099511627776 ≤ x.n ∧ x.n ≤ 1099511627776

set_option maxHeartbeats 4000000 in
set_option maxRecDepth 100000 in
theorem over1_any (x y : Ct) (bv : Nat) (r : Bool) (w : World) (hb : w.heap[bv]? = some (.cells #[.bool r] 4 (0, 0))) (hx : SmallN x) (hy : SmallN y) :
    Calls Tryz.prog 41 #[.agg #[.slice x.a x.l x.c, .int .i64 x.n], .agg #[.slice y.a y.l y.c, .int .i64 y.n], .pointer (some ⟨bv, 0, none⟩)] w fun e w' => e = .returned (.tuple #[]) ∧ w'.heap[bv]? = some (.cells #[.bool (r || overC (x, y))] 4 (0, 0)) ∧ w'.os = w.os ∧ w'.tape = w.tape ∧ w'.output = w.output ∧ w.heap.size ≤ w'.heap.size ∧ ∀ j, j < w.heap.size → j ≠ bv → w'.heap[j]? = w.heap[j]? := by
  have y0 := cell_of hb 0
  have f0 := free_of hb 0
  simp at y0
  have hbl := blkB_lt hb
  have HBX := toHid hb
  have HSX : Hid (∀ W, Calls Tryz.prog 42 #[.int .i64 x.n] W fun e w' => e = .returned (.int .i64 (x.n.natAbs : Int)) ∧ w' = W) := fun W => size_any x.n W hx.2
  have HSY : Hid (∀ W, Calls Tryz.prog 42 #[.int .i64 y.n] W fun e w' => e = .returned (.int .i64 (y.n.natAbs : Int)) ∧ w' = W) := fun W => size_any y.n W hy.2
  have hyn : y.n.natAbs ≠ 0 := by have := hy.1; omega
  have hym : y.n.natAbs ≤ 1099511627776 := by have := hy.2; omega
  have hxm : x.n.natAbs ≤ 1099511627776 := by have := hx.2; omega
  have HOV : Hid (overC (x, y) = decide (((1099511627776 / y.n.natAbs : Nat) : Int) < (x.n.natAbs : Int))) := rfl
  generalize overC (x, y) = ov at HOV ⊢
  generalize hA : x.n.natAbs = A at HSX HOV hxm
  generalize hC : y.n.natAbs = C at HSY HOV hym hyn
  clear hb hx hy hA hC
  have h1 := alloc_new w (cObj x)
  have HX2 := toHid ((Below.heap_alloc (w.alloc (cObj x)) (cObj y) w.heap.size (by simp)).trans h1)
  have HY2 := toHid (alloc_two w (cObj x) (cObj y))
  have HTWO : Hid (Below w.heap.size w ((w.alloc (cObj x)).alloc (cObj y))) := ((Below.refl _ _).alloc (Nat.le_refl _) _).alloc (by simp) _
  have HZ : Hid (((w.alloc (cObj x)).alloc (cObj y)).heap.size = w.heap.size + 2) := by show _ = _; simp
  clear h1 y0 f0
  have hdiv : ((1099511627776 / C : Nat) : Int) = (1099511627776 : Int) / (C : Int) := by simp
  have hdv2 : ((1099511627776 / C : Nat) : Int) ≤ 1099511627776 := by
    have := Nat.div_le_self 1099511627776 C
    omega
  rw [hdiv] at HOV hdv2
  have hdv0 : (0 : Int) ≤ (1099511627776 : Int) / (C : Int) := by rw [← hdiv]; exact Int.natCast_nonneg _
  clear hdiv
  have hwd : IntKind.i64.wrap (Int.tdiv 1099511627776 (C : Int)) = (1099511627776 : Int) / (C : Int) := by
    rw [Int.tdiv_eq_ediv_of_nonneg (by decide), IntKind.wrap_i64]
    omega
  have HWD : Hid (decide (IntKind.i64.wrap (Int.tdiv 1099511627776 (C : Int)) < (A : Int)) = ov) := by
    show _ = _
    rw [hwd, HOV.out]
  clear hwd hdv0 hdv2
  have hC0 : ((C : Int) == 0) = false := by simp; omega
  have hC1 : ¬ ((C : Int) = 0) := by omega
  cases r with
  | true =>
    go_enter Tryz.func41, Tryz.ntmps41
    go_upto_region 1 with fail
    generalize (w.alloc (cObj x)).alloc (cObj y) = W2 at HX2 HY2 HTWO HZ ⊢
    have HBV := toHid ((HTWO.out.block bv hbl).trans HBX.out)
    have y0 := cell_of HBV.out 0
    have f0 := free_of HBV.out 0
    have hb2 := blkB_lt HBV.out
    simp at y0
    go_region
    all_goals
      go_end0
      refine ⟨rfl, ?_⟩
      have hb5 := set_oneB HBV.out (.bool true)
      refine ⟨hb5, HTWO.out.os, HTWO.out.tape, HTWO.out.output, by have h := HTWO.out.size; simpa using h, fun j hj hn => (Below.heap_setCell W2 _ _ j hn).trans (HTWO.out.block j hj)⟩
  | false =>
    go_enter Tryz.func41, Tryz.ntmps41
    go_upto_region 1 with fail
    generalize (w.alloc (cObj x)).alloc (cObj y) = W2 at HX2 HY2 HTWO HZ ⊢
    have HBV := toHid ((HTWO.out.block bv hbl).trans HBX.out)
    have y0 := cell_of HBV.out 0
    have f0 := free_of HBV.out 0
    have x1 := cell_of HX2.out 1
    have z1 := cell_of HY2.out 1
    simp at y0 x1 z1
    have hb2 := blkB_lt HBV.out
    have hb3 := blkB_lt HX2.out
    have hb4 := blkB_lt HY2.out
    go_region_with (first
        | (go_at_call 42; refine (HSX.out _).mono ?_; rintro e uc ⟨rfl, rfl⟩)
        | (go_at_call 42; refine (HSY.out _).mono ?_; rintro e uc ⟨rfl, rfl⟩))
    all_goals
      go_end0
      refine ⟨rfl, ?_⟩
      rw [HWD.out]
      have hb5 := set_oneB HBV.out (.bool ov)
      exact ⟨hb5, HTWO.out.os, HTWO.out.tape, HTWO.out.output, by have h := HTWO.out.size; simpa using h, fun j hj hn => (Below.heap_setCell W2 _ _ j hn).trans (HTWO.out.block j hj)⟩

set_option linter.unusedSimpArgs false

set_option maxHeartbeats 4000000 in
set_option maxRecDepth 100000 in
theorem grow_any (n : Nat) (w : World) (hn : n ≤ 1000) :
    Calls Tryz.prog 52 #[.slice none 0 0, .int .i64 n] w fun e w' => (∃ v, e = .returned v ∧ w'.ownsRow w.heap.size 45 4 v 0 []) ∧ Below w.heap.size w w' := by
  by_cases h0 : n = 0
  · subst h0
    go_enter Tryz.func52, Tryz.ntmps52
    go_wp2_with fail
    go_ret
    exact ⟨⟨_, rfl, World.ownsRow_nil _ _ _ _⟩, Below.refl _ _⟩
  · have hp : (0 : Int) < n := by omega
    have hp1 : 0 < n := by omega
    have hp2 : ¬ ((n : Int) < 0) := by omega
    obtain ⟨i, hi, hz, hs, hb⟩ := info_val
    have hrun := Lib.run_append_nil_zeros (P := Tryz.prog) w 30 3 30 45 i _ .i64 .i64 Tryz.underlying30 Tryz.underlying3 hi hz n hp1 (by omega) (by omega) (by rw [hb]; omega)
    have hge := grownCap_ge w n 0 45
    have hle := grownCap_le_maxLen w n 0 45 (by unfold maxLen; omega)
    generalize grownCap w n 0 45 = cap at hrun hge hle
    obtain ⟨cs, hcs⟩ : ∃ cs, cs = Builtin.zeroCells (.agg #[.int .i64 0, .int .i64 0, .string ⟨#[]⟩, .slice none 0 0] : Value).cells n ++ Builtin.zeroCells (.agg #[.int .i64 0, .int .i64 0, .string ⟨#[]⟩, .slice none 0 0] : Value).cells (cap - n) := ⟨_, rfl⟩
    have hsz : cs.size = cap * 4 := by
      rw [hcs, Array.size_append, size_zeroCells, size_zeroCells]
      have : (.agg #[.int .i64 0, .int .i64 0, .string ⟨#[]⟩, .slice none 0 0] : Value).cells.size = 4 := by simp [Value.cells]
      rw [this, ← Nat.add_mul]
      congr 1
      omega
    rw [← hcs] at hrun
    have HRUN := toHid hrun
    have HROW : Hid ((w.drew.alloc (.cells cs 45)).ownsRow w.heap.size 45 4 (.slice (some ⟨w.heap.size, 0, none⟩) 0 cap) 0 []) := ⟨rfl, .inr ⟨w.heap.size, cap, cs, rfl, Nat.le_refl _, alloc_new w.drew _, Nat.zero_le _, hle, hsz, rfl⟩⟩
    have HBL : Hid (Below w.heap.size w (w.drew.alloc (.cells cs 45))) := (Below.refl _ _).drew.alloc (Nat.le_refl _) _
    clear hrun hi hz hs hb hcs hsz
    go_enter Tryz.func52, Tryz.ntmps52
    go_wp2_with (at_builtin; refine Lib.wpList_append_run _ rfl _ _ _ _ rfl _ _ rfl rfl _ _ HRUN.out ?_)
    go_ret
    exact ⟨⟨_, rfl, HROW.out⟩, HBL.out⟩

set_option linter.unusedSimpArgs false

/-- Cells of a row of values whose lists lie in blocks of this kind. -/
def Sh (A : Nat → Prop) (w : World) : List T → List Value → Prop
  | [], cs => cs = []
  | .node k n s L :: ts, cs => s.size ≤ 9223372036854775807 ∧ ∃ a l c cs', cs = .int .i64 k :: .int .i64 n :: .string s :: .slice a l c :: cs' ∧ l ≤ c ∧ LieA A w L a l ∧ Sh A w ts cs'

theorem Sh.len {A : Nat → Prop} {w : World} : ∀ {L : List T} {cs : List Value}, Sh A w L cs → cs.length = L.length * 4
  | [], cs, h => by
    unfold Sh at h
    subst h
    rfl
  | .node k n s L :: ts, cs, h => by
    unfold Sh at h
    obtain ⟨_, a, l, c, cs', rfl, _, _, h2⟩ := h
    have := Sh.len h2
    simp only [List.length_cons]
    omega

theorem Sh.one {A : Nat → Prop} {w : World} : ∀ {L : List T} {cs : List Value}, Sh A w L cs → ∀ u ∈ cs, u.oneCell' = true
  | [], cs, h, u, hu => by
    unfold Sh at h
    subst h
    cases hu
  | .node k n s L :: ts, cs, h, u, hu => by
    unfold Sh at h
    obtain ⟨_, a, l, c, cs', rfl, _, _, h2⟩ := h
    simp only [List.mem_cons] at hu
    rcases hu with rfl | rfl | rfl | rfl | hu
    · rfl
    · rfl
    · rfl
    · rfl
    · exact Sh.one h2 u hu

theorem Sh.append {A : Nat → Prop} {w : World} {M : List T} {ds : List Value} (hM : Sh A w M ds) : ∀ {L : List T} {cs : List Value}, Sh A w L cs → Sh A w (L ++ M) (cs ++ ds)
  | [], cs, h => by
    unfold Sh at h
    subst h
    exact hM
  | .node k n s L :: ts, cs, h => by
    unfold Sh at h
    obtain ⟨hs, a, l, c, cs', rfl, h1, h3, h2⟩ := h
    rw [List.cons_append]
    unfold Sh
    exact ⟨hs, a, l, c, cs' ++ ds, rfl, h1, h3, Sh.append hM h2⟩

theorem Sh.kept {A A' : Nat → Prop} {w w' : World} (k : Keep A A' w w') : ∀ {L : List T} {cs : List Value}, Sh A w L cs → Sh A' w' L cs
  | [], cs, h => by
    unfold Sh at h ⊢
    exact h
  | .node kk n s L :: ts, cs, h => by
    unfold Sh at h ⊢
    obtain ⟨hs, a, l, c, cs', e, h1, h3, h2⟩ := h
    exact ⟨hs, a, l, c, cs', e, h1, LieA.kept k.1 k.2 _ _ _ h3, Sh.kept k h2⟩

/-- A row that lies somewhere: its cells. -/
theorem sh_of {A : Nat → Prop} {w : World} : ∀ {L : List T} {a : Option Addr} {l : Nat}, LieA A w L a l → ∃ cs, Sh A w L cs ∧ ∀ t u, cs[t]? = some u → ∃ b off, a = some ⟨b, off, none⟩ ∧ A b ∧ b < w.heap.size ∧ w.cell? ⟨b, off + t, none⟩ = some u
  | [], a, l, h => ⟨[], rfl, fun t u hu => by simp at hu⟩
  | .node k n s L :: ts, a, l, h => by
    unfold LieA at h
    obtain ⟨b, off, rfl, _, _, hA, hb, hT, hS⟩ := h
    unfold LieT at hT
    obtain ⟨hs, a', l', c', p0, p1, p2, p3, hlc, hL⟩ := hT
    obtain ⟨cs, h1, h2⟩ := sh_of hS
    refine ⟨.int .i64 k :: .int .i64 n :: .string s :: .slice a' l' c' :: cs, ?_, fun t u hu => ⟨b, off, rfl, hA, hb, ?_⟩⟩
    · unfold Sh
      exact ⟨hs, a', l', c', cs, rfl, hlc, hL, h1⟩
    · match t, hu with
      | 0, hu => simp at hu; subst hu; exact p0
      | 1, hu => simp at hu; subst hu; exact p1
      | 2, hu => simp at hu; subst hu; exact p2
      | 3, hu => simp at hu; subst hu; exact p3
      | t + 4, hu =>
        obtain ⟨b', off', e, _, _, hc⟩ := h2 t u (by simpa using hu)
        simp only [Option.some.injEq, Addr.mk.injEq, and_true] at e
        obtain ⟨rfl, rfl⟩ := e
        rw [show off + (t + 4) = off + 4 + t by omega]
        exact hc

/-- Where these cells lie, the row lies. -/
theorem Sh.lie {A : Nat → Prop} {w : World} {g : Nat} (hA : A g) (hg : g < w.heap.size) : ∀ {L : List T} {cs : List Value} {off : Nat}, Sh A w L cs → L.length ≤ 9223372036854775807 → (∀ t u, cs[t]? = some u → w.cell? ⟨g, off + t, none⟩ = some u) → LieA A w L (some ⟨g, off, none⟩) L.length
  | [], cs, off, h, _, _ => by unfold LieA; rfl
  | .node k n s L :: ts, cs, off, h, hl, hc => by
    unfold Sh at h
    obtain ⟨hs, a, l, c, cs', rfl, h1, h3, h2⟩ := h
    rw [List.length_cons] at hl
    unfold LieA
    refine ⟨g, off, rfl, rfl, by simpa using hl, hA, hg, ?_, Sh.lie hA hg h2 (by omega) fun t u hu => ?_⟩
    · unfold LieT
      exact ⟨hs, a, l, c, hc 0 _ rfl, hc 1 _ rfl, hc 2 _ rfl, hc 3 _ rfl, h1, h3⟩
    · rw [show off + 4 + t = off + (t + 4) by omega]
      exact hc (t + 4) u (by simpa using hu)

set_option linter.unusedSimpArgs false

def lenS (P : List Ct) : Nat := (P.map (·.l)).sum

theorem lenS_take {P : List Ct} {i : Nat} {x : Ct} (h : P[i]? = some x) : lenS (P.take (i + 1)) = lenS (P.take i) + x.l := by
  unfold lenS
  rw [List.take_add_one, h, Option.toList_some, List.map_append, List.sum_append]
  simp

theorem lenS_le (P : List Ct) (i : Nat) : lenS (P.take i) ≤ lenS P := by
  have : lenS P = lenS (P.take i) + lenS (P.drop i) := by
    unfold lenS
    rw [← List.sum_append, ← List.map_append, List.take_append_drop]
  omega

theorem flat_take1 {P : List Ct} {i : Nat} {x : Ct} (h : P[i]? = some x) : (P.take (i + 1)).flatMap (·.L) = (P.take i).flatMap (·.L) ++ x.L := by
  rw [List.take_add_one, h, Option.toList_some, List.flatMap_append]
  simp

set_option maxHeartbeats 4000000 in
set_option maxRecDepth 100000 in
theorem concat_any (A : Nat → Prop) (P : List Ct) (bs m : Nat) (w : World) (hm : m = P.length) (hm2 : m ≤ 10) (hbs : bs < w.heap.size) (hc : ∀ i x, P[i]? = some x → w.cell? ⟨bs, i, none⟩ = some (.slice x.a x.l x.c)) (hL : ∀ x ∈ P, LieA A w x.L x.a x.l) (hs : lenS P ≤ 1000) :
    Calls Tryz.prog 21 #[.slice (some ⟨bs, 0, none⟩) m m] w fun e w' => (∃ v cs, e = .returned v ∧ w'.ownsRow w.heap.size 45 4 v (lenS P) cs ∧ Sh A w' (P.flatMap (·.L)) cs) ∧ Below w.heap.size w w' := by
  have HC := toHid hc
  have HL := toHid hL
  have HM := toHid hm
  have HS := toHid hs
  clear hc hL hm hs
  go_enter Tryz.func21, Tryz.ntmps21
  go_wp2_with fail
  go_loopg [3, 11] m (fun g s3 s11 wr => ∃ i : Nat, i ≤ m ∧ m - i ≤ g ∧ s11 = .int .i64 i ∧ s3 = .int .i64 (lenS (P.take i)) ∧ wr = w)
  case atStart => exact ⟨0, Nat.zero_le _, by omega, rfl, rfl, rfl⟩
  case round =>
    obtain ⟨i, hi, hg, rfl, rfl, hw⟩ := hrel
    have hw := hw.symm
    subst hw
    by_cases hlt : i < m
    · have hil : (i : Int) < m := by omega
      obtain ⟨x, hx, _⟩ := drop_get (L := P) (i := i) (by have := HM.out; omega)
      have d0 := HC.out i x hx
      have HT := toHid (lenS_take hx)
      have h1 := lenS_le P (i + 1)
      rw [HT.out] at h1
      have h2 := HS.out
      generalize lenS (P.take i) = S0 at HT h1
      have hwp : wrap64 ((S0 : Int) + (x.l : Int)) = ((S0 + x.l : Nat) : Int) := by unfold wrap64; omega
      have hwp2 : IntKind.i64.wrap ((S0 : Int) + (x.l : Int)) = (S0 : Int) + (x.l : Int) := by rw [IntKind.wrap_i64]; omega
      have hnn : ¬ ((S0 : Int) + (x.l : Int) < 0) := by omega
      clear hx h1 h2
      go_wp2_with fail
      go_roundg (m - (i + 1))
      case measure => omega
      case rel =>
        refine ⟨i + 1, by omega, Nat.le_refl _, by go_num, ?_, rfl⟩
        rw [HT.out]
        rfl
    · have he : i = m := by omega
      subst he
      have HAL : Hid (P.take i = P) := List.take_of_length_le (by have := HM.out; omega)
      rw [HAL.out]
      have HG := toHid (grow_any (lenS P) w HS.out)
      obtain ⟨i0, hi0, hiz, his, hib⟩ := info_val
      have hsl := HS.out
      generalize hN : lenS P = N at HG hsl
      have HN := toHid hN
      clear hN
      go_wp2_with fail
      refine HG.out.mono ?_
      rintro e w1 ⟨⟨v1, rfl, hown⟩, k1⟩
      have HO1 := toHid hown
      have HB1 := toHid k1
      clear hown k1 HG
      go_wp2_with fail
      go_loopg [6, 27] i (fun g s6 s27 wq => ∃ (t : Nat) (v : Value) (cs : List Value), t ≤ i ∧ i - t ≤ g ∧ s27 = .int .i64 t ∧ v = s6 ∧ wq.ownsRow w.heap.size 45 4 v (lenS (P.take t)) cs ∧ Sh A w ((P.take t).flatMap (·.L)) cs ∧ Below w.heap.size w wq)
      case atStart => exact ⟨0, v1, [], Nat.zero_le _, by omega, rfl, rfl, HO1.out, rfl, HB1.out⟩
      case round =>
        clear HO1 HB1
        obtain ⟨t, v, cs, ht, hgt, rfl, rfl, hown, hsh, hbw⟩ := hrel
        have HO := toHid hown
        have HSH := toHid hsh
        have HBW := toHid hbw
        clear hown hsh hbw
        by_cases htl : t < i
        · have htl' : (t : Int) < i := by omega
          obtain ⟨x, hx, _⟩ := drop_get (L := P) (i := t) (by have := HM.out; omega)
          have d0 := (HBW.out.cell (p := ⟨bs, t, none⟩) hbs).trans (HC.out t x hx)
          obtain ⟨ns, hns, hcell⟩ := sh_of (HL.out x (List.mem_of_getElem? hx))
          have hxl : x.l = x.L.length := (LieA.lies _ _ _ (HL.out x (List.mem_of_getElem? hx))).length.1
          have hnl : ns.length = x.l * 4 := by rw [hns.len, hxl]
          have HT := toHid (lenS_take hx)
          have HFL := toHid (flat_take1 hx)
          have h1 := lenS_le P (t + 1)
          rw [HT.out, HN.out] at h1
          have HNS := toHid hns
          have HCE : Hid (∀ q u, ns[q]? = some u → ∃ a, x.a = some a ∧ wr.cell? (a.add q) = some u) := fun q u hu => by
            obtain ⟨b, off, e, _, hb, hc⟩ := hcell q u hu
            exact ⟨_, e, by rw [add_none]; exact (HBW.out.cell (p := ⟨b, off + q, none⟩) hb).trans hc⟩
          generalize lenS (P.take t) = S0 at HO HT h1
          clear hx hcell hns hxl
          go_wp2_with (at_builtin; (refine wpList_append_both _ (by rfl) _ _ _ (by rfl) w.heap.size 45 i0 _ 4 56 Tryz.underlying30 hi0 hiz his hib rfl (by omega) v S0 cs (by rfl) HO.out x.a x.l x.c ns (by rfl) hnl HCE.out (HNS.out.one) (by unfold maxLen; omega) (by omega) HBW.out.size ?_; intro v' w5 hown5 hgrow hob))
          have hbl : Below w.heap.size w w5 := HBW.out.grown hgrow HBW.out.size (fun k hk => (rowLt HO.out hk).1)
          have HSH5 : Hid (Sh A w ((P.take (t + 1)).flatMap (·.L)) (cs ++ ns)) := by
            rw [HFL.out]
            exact Sh.append HNS.out HSH.out
          have HOW5 : Hid (w5.ownsRow w.heap.size 45 4 v' (lenS (P.take (t + 1))) (cs ++ ns)) := by
            rw [HT.out]
            exact hown5
          have HBL := toHid hbl
          clear hown5 hgrow hob hbl
          go_wp2_with fail
          go_roundg (i - (t + 1))
          case measure => omega
          case rel => exact ⟨t + 1, v', cs ++ ns, by omega, Nat.le_refl _, by go_num, rfl, HOW5.out, HSH5.out, HBL.out⟩
        · have he : t = i := by omega
          subst he
          have HFIN : Hid (wr.ownsRow w.heap.size 45 4 v (lenS P) cs ∧ Sh A wr (P.flatMap (·.L)) cs) := by
            have h1 := HO.out
            have h2 := HSH.out
            rw [HAL.out] at h1 h2
            exact ⟨h1, Sh.kept (Keep.of_below HBW.out A) h2⟩
          go_wp2_with fail
          go_ret
          exact ⟨⟨v, cs, rfl, HFIN.out.1, HFIN.out.2⟩, HBW.out⟩
end Go.Proofs.YtbjkpbeijkmoeaaGreatDoor
