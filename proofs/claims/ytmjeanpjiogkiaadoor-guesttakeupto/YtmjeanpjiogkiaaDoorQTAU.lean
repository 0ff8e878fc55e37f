/-
  What is proved here: what the texts GuLawT, GuArg, GLaid prove, in one text.
-/
import Derived.Test.YtmjeanpjiogkiaaDoorQTAT
import Derived.Test.YtmjeanpjiogkiaaDoorQTAP
import Derived.Test.YtmjeanpjiogkiaaDoorQTAD
import Derived.Test.YtmjeanpjiogkiaaDoorQTAA
import Derived.Test.YtmjeanpjiogkiaaDoorShelf
import Derived.PinnedBridge
import Derived.Lib.LaidU8T
import Derived.Lib.LaidTab
import Derived.Lay
namespace Go.Proofs.YtmjeanpjiogkiaaDoor
open Go.RowKit
set_option linter.unusedVariables false

set_option linter.unusedSimpArgs false

/-- A row of the call's own, its bags right. -/
theorem own_gq {B : Nat} {w : World} {v : Value} {P : List Qd} (h : w.ownsRow B 26 1 v P.length (qRow P)) (hl : P.length ≤ 2000000) (hP : ∀ p ∈ P, p.z = 0 ∧ BagZ w p.a p.l p.c p.z p.X) (hs : qN P ≤ 2000000) : ∃ a c, v = .slice a P.length c ∧ GQ w (P.map (·.X)) a P.length := by
  obtain ⟨a, l, c, rfl⟩ : ∃ a l c, v = .slice a l c := by
    rcases h.2 with ⟨h0, _⟩ | ⟨g', cap', cur, h0, _⟩
    · exact ⟨_, _, _, h0⟩
    · exact ⟨_, _, _, h0⟩
  have hl2 : l = P.length := rowSl h
  subst hl2
  refine ⟨a, c, rfl, P, rfl, ⟨⟨rfl, hl, fun h0 => ?_⟩, fun p hp => (hP p hp).2, hs⟩, fun p hp => (hP p hp).1⟩
  obtain ⟨g, cap, hf, hg0, hg⟩ := h.form (by omega)
  injection hf with q1 q2 q3
  subst q1 q3
  refine ⟨g, 0, rfl, hg, fun i q hq => ?_⟩
  have hi := (List.getElem?_eq_some_iff.1 hq).1
  rw [Nat.zero_add]
  exact (h.cellAt i (by omega)).trans (qRow_get hq)

/-- What Tell answers, at once. -/
theorem TellEnd.one {B : Nat} {w w' : World} (hB : B ≤ w'.heap.size) (hT : Tabs B w') {v t : Int} {f : Bool} {XS : List (List Cn)} {Y : List Cn} {R : Int} {e : Ending} (h : TellEnd w w' v t f XS Y R e) (hs : sumL XS ≤ 40 ∨ R ≠ 0) : ∃ v' a' l' c' f' t', e = .returned (.tuple #[gV v' a' l' c' f' t', .int .i64 R]) ∧ (R ≠ 0 → v' = 0 ∧ a' = none ∧ l' = 0 ∧ c' = 0 ∧ f' = false ∧ t' = 0) ∧ (R = 0 → v' = v ∧ t' = t ∧ f' = (tellF f XS Y).1 ∧ GQ w' (tellF f XS Y).2 a' l') := by
  rcases h with ⟨h0, rfl⟩ | ⟨h0, a', l', c', rfl, hq⟩
  · exact ⟨0, none, 0, 0, false, 0, rfl, fun _ => ⟨rfl, rfl, rfl, rfl, rfl, rfl⟩, fun h => absurd h h0⟩
  · refine ⟨v, a', l', c', _, t, by rw [h0], fun h => absurd h0 h, fun _ => ⟨rfl, rfl, rfl, hq.gq hB hT ?_⟩⟩
    have h1 := hs.resolve_right (fun h => h h0)
    unfold tellF
    split
    · show sumL XS ≤ _
      omega
    · split
      · simp [sumL]
      · rename_i h2 h3
        show sumL (XS ++ [Y]) ≤ _
        rw [sumL_append]
        simp only [sumL]
        omega

set_option maxHeartbeats 8000000 in
set_option maxRecDepth 100000 in
theorem law_tell (v : Int) (Q : List Qd) (a : Option Addr) (l c : Nat) (f : Bool) (t : Int) (Y : List Cn) (zb : Int) (ba : Option Addr) (bl bc : Nat) (w : World) (hT : Tabs w.heap.size w) (hQ : QIn w Q a l) (hb : BagZ w ba bl bc zb Y) :
    Calls Tryd.prog 3 #[gV v a l c f t, .slice ba bl bc] w fun e w' => e = .returned (.bool true) ∧ Below w.heap.size w w' := by
  have b0 : Below w.heap.size w (w.alloc (gObj v a l c f t)) := (Below.refl _ _).alloc (Nat.le_refl _) _
  have h0 := alloc_new w (gObj v a l c f t)
  obtain ⟨z, hz⟩ : ∃ z, z = guE v t f Q := ⟨_, rfl⟩
  obtain ⟨R, hR⟩ : ∃ R, R = if z = 0 then zb else z := ⟨_, rfl⟩
  have hmx : l ≤ 2000000 := hQ.at'.2.1
  have HTL := toHid (tell_any w.heap.size v Q a l c f t Y zb R ba bl bc (w.alloc (gObj v a l c f t)) b0.size (hT.below b0) (hQ.below b0) (hb.below b0) (by rw [← hz]; exact hR))
  have hsum : sumL (Q.map (·.X)) ≤ 40 ∨ R ≠ 0 := by
    by_cases hr : R = 0
    · refine .inl ?_
      obtain ⟨_, _, h1, h2, _⟩ := guE_zero (hz.symm.trans (guE_two hR hr).1)
      rw [(hQ.gq fun q hq => (h1 q hq).1).2]
      exact h2
    · exact .inr hr
  have HSU := toHid hsum
  have HZE := toHid hz
  have HR := toHid hR
  have HTB := toHid hT
  have HQ := toHid hQ
  have HBG := toHid hb
  have HB0 := toHid b0
  have H0 := toHid h0
  clear b0 h0 hz hR hT hQ hb hsum
  go_enter Tryd.func3, Tryd.ntmps3
  go_upto_region 1 with fail
  generalize w.alloc (gObj v a l c f t) = W at HTL HB0 H0 ⊢
  have HBU := toHid HB0.out.size
  generalize hbu : w.heap.size = bu at H0 ⊢
  have x0 := cell_of H0.out 0
  have x1 := cell_of H0.out 1
  have x2 := cell_of H0.out 2
  have x3 := cell_of H0.out 3
  simp at x0 x1 x2 x3
  have hlx := blkB_lt H0.out
  go_wp2_with fail
  refine HTL.out.mono ?_
  rintro e w1 ⟨hend, k1⟩
  have HB1 := toHid (HB0.out.trans (k1.mono HB0.out.size))
  obtain ⟨v', a', l', c', f', t', rfl, hbad, hgood⟩ := hend.one HB1.out.size (HTB.out.below HB1.out) HSU.out
  have HBAD := toHid hbad
  have HGOOD := toHid hgood
  have HX1 := toHid ((k1.block bu hlx).trans H0.out)
  clear hend hbad hgood k1 HTL x0 x1 x2 x3 hlx H0
  go_upto_region 2 with fail
  have a1 : Below w1.heap.size w1 (w1.alloc (gObj v' a' l' c' f' t')) := (Below.refl _ _).alloc (Nat.le_refl _) _
  have h1 := alloc_new w1 (gObj v' a' l' c' f' t')
  have HX2 := toHid ((a1.block bu (blkB_lt HX1.out)).trans HX1.out)
  have HB2 := toHid (HB1.out.trans (a1.mono HB1.out.size))
  have HA2 := toHid a1
  have HNE : Hid (bu < w1.heap.size) := blkB_lt HX1.out
  generalize w1.alloc (gObj v' a' l' c' f' t') = W2 at HX2 HB2 HA2 h1 ⊢
  have HV2 := toHid h1
  generalize hbv : w1.heap.size = bv at HV2 ⊢
  have HBV : Hid (bu < bv) := by rw [← hbv]; exact HNE.out
  clear a1 h1 HX1 HNE
  have x0 := cell_of HX2.out 0
  have x1 := cell_of HX2.out 1
  have x2 := cell_of HX2.out 2
  have x3 := cell_of HX2.out 3
  simp at x0 x1 x2 x3
  have hlx := blkB_lt HX2.out
  have HC := toHid (checkG_ref v Q a l c f t W2 (HQ.out.below HB2.out))
  rw [← HZE.out] at HC
  go_wp2_with fail
  refine HC.out.mono ?_
  rintro e w3 ⟨rfl, k3⟩
  have HB3 := toHid (HB2.out.trans (k3.mono HB2.out.size))
  have HX3 := toHid ((k3.block bu hlx).trans HX2.out)
  have HV3 := toHid ((k3.block bv (blkB_lt HV2.out)).trans HV2.out)
  have HK3 := toHid k3
  clear k3 x0 x1 x2 x3 hlx HC
  go_wp2_with fail
  refine (waits_true w.heap.size w3 HB3.out.size (HTB.out.below HB3.out)).mono ?_
  rintro e w4 ⟨rfl, k4⟩
  have HB4 := toHid (HB3.out.trans (k4.mono HB3.out.size))
  have HX4 := toHid ((k4.block bu (blkB_lt HX3.out)).trans HX3.out)
  have HV4 := toHid ((k4.block bv (blkB_lt HV3.out)).trans HV3.out)
  have HK4 := toHid (HK3.out.trans (k4.mono HK3.out.size))
  clear k4 HX3 HV3 HK3
  have x0 := cell_of HX4.out 0
  have x1 := cell_of HX4.out 1
  have x2 := cell_of HX4.out 2
  have x3 := cell_of HX4.out 3
  simp at x0 x1 x2 x3
  have hlx := blkB_lt HX4.out
  have HC := toHid (checkG_any v Q a l c f t w4 (HQ.out.below HB4.out))
  rw [← HZE.out] at HC
  have hzz : (z != z) = false := by simp
  go_wp2_with fail
  refine HC.out.mono ?_
  rintro e w5 ⟨rfl, k5⟩
  have HB5 := toHid (HB4.out.trans (k5.mono HB4.out.size))
  have HX5 := toHid ((k5.block bu hlx).trans HX4.out)
  have HV5 := toHid ((k5.block bv (blkB_lt HV4.out)).trans HV4.out)
  have HK5 := toHid (HK4.out.trans (k5.mono HK4.out.size))
  clear k5 x0 x1 x2 x3 hlx HC HX4 HV4 HK4
  by_cases hz0 : z = 0
  case neg =>
    have hze : (z == 0) = false := by simp [hz0]
    have hzn : (z != 0) = true := by simp [hz0]
    have hrz : R = z := by rw [HR.out, if_neg hz0]
    have hrn : R ≠ 0 := by rw [hrz]; exact hz0
    obtain ⟨rfl, rfl, rfl, rfl, rfl, rfl⟩ := HBAD.out hrn
    have hrr : (R == z) = true := by simp [hrz]
    have y0 := cell_of HV5.out 0
    have y1 := cell_of HV5.out 1
    have y2 := cell_of HV5.out 2
    have y3 := cell_of HV5.out 3
    simp at y0 y1 y2 y3
    have hly := blkB_lt HV5.out
    have HSG := toHid (sameG_any [] 0 0 false none none 0 0 0 0 w5 (GQ.nil _) (GQ.nil _))
    clear hz0 hrz hrn
    go_wp2_with fail
    refine HSG.out.mono ?_
    rintro e w6 ⟨rfl, k6⟩
    have HB6 := toHid (HB5.out.trans (k6.mono HB5.out.size))
    clear k6 HSG y0 y1 y2 y3 hly
    go_wp2_with fail
    go_ret
    exact ⟨rfl, HB6.out⟩
  have hze : (z == 0) = true := by simp [hz0]
  have HZ0 := toHid hz0
  have HC := toHid (HBG.out.ref w5 HB5.out)
  clear hz0
  go_wp2_with fail
  refine HC.out.mono ?_
  rintro e w6 ⟨rfl, k6⟩
  have HB6 := toHid (HB5.out.trans (k6.mono HB5.out.size))
  have HX6 := toHid ((k6.block bu (blkB_lt HX5.out)).trans HX5.out)
  have HV6 := toHid ((k6.block bv (blkB_lt HV5.out)).trans HV5.out)
  have HK6 := toHid (HK5.out.trans (k6.mono HK5.out.size))
  clear k6 HC HX5 HV5 HK5
  by_cases hzb : zb = 0
  case neg =>
    have hzn : (zb != 0) = true := by simp [hzb]
    have hrz : R = zb := by rw [HR.out, if_pos HZ0.out]
    have hrn : R ≠ 0 := by rw [hrz]; exact hzb
    obtain ⟨rfl, rfl, rfl, rfl, rfl, rfl⟩ := HBAD.out hrn
    have hrr : (R == zb) = true := by simp [hrz]
    have y0 := cell_of HV6.out 0
    have y1 := cell_of HV6.out 1
    have y2 := cell_of HV6.out 2
    have y3 := cell_of HV6.out 3
    simp at y0 y1 y2 y3
    have hly := blkB_lt HV6.out
    have HSG := toHid (sameG_any [] 0 0 false none none 0 0 0 0 w6 (GQ.nil _) (GQ.nil _))
    clear hzb hrz hrn
    go_wp2_with fail
    refine HSG.out.mono ?_
    rintro e w7 ⟨rfl, k7⟩
    have HB7 := toHid (HB6.out.trans (k7.mono HB6.out.size))
    clear k7 HSG y0 y1 y2 y3 hly
    go_wp2_with fail
    go_ret
    exact ⟨rfl, HB7.out⟩
  have hzn : (zb != 0) = false := by simp [hzb]
  have hr0 : R = 0 := by rw [HR.out, if_pos HZ0.out]; exact hzb
  obtain ⟨rfl, rfl, hf', hgq⟩ := HGOOD.out hr0
  have HFF := toHid hf'
  have HGQ := toHid (hgq.below HA2.out)
  have HYR := toHid (HBG.out.right hzb)
  have HYL : Hid (bl = Y.length) := HYR.out.len
  have hbl2 : bl ≤ 2000 := by rw [HYL.out]; exact HYR.out.1.len
  have hqz := guE_zero (HZE.out.symm.trans HZ0.out)
  have HQZ : Hid (∀ q ∈ Q, q.z = 0) := fun q hq => (hqz.2.2.1 q hq).1
  have HN : Hid (qN Q ≤ 40) := hqz.2.2.2.1
  have HQG := toHid (HQ.out.gq HQZ.out)
  have HQL : Hid (l = Q.length) := HQ.out.at'.1
  have hl4 : l ≤ 40 := by rw [HQL.out]; exact Nat.le_trans (qN_len Q fun q hq => (hqz.2.2.1 q hq).2) HN.out
  have hr0e : (R == 0) = true := by simp [hr0]
  clear hzb hf' hgq hqz HBAD HGOOD HR
  have x0 := cell_of HX6.out 0
  have x1 := cell_of HX6.out 1
  have x2 := cell_of HX6.out 2
  have x3 := cell_of HX6.out 3
  simp at x0 x1 x2 x3
  have hlx := blkB_lt HX6.out
  go_upto_region 10 with fail
  have a7 : Below w6.heap.size w6 (w6.alloc (gObj v' a l c f t')) := (Below.refl _ _).alloc (Nat.le_refl _) _
  have h7 := alloc_new w6 (gObj v' a l c f t')
  have HX7 := toHid ((a7.block bu (blkB_lt HX6.out)).trans HX6.out)
  have HV7 := toHid ((a7.block bv (blkB_lt HV6.out)).trans HV6.out)
  have HB7 := toHid (HB6.out.trans (a7.mono HB6.out.size))
  have HK7 := toHid (HK6.out.trans (a7.mono HK6.out.size))
  have HBL : Hid (bv < w6.heap.size) := blkB_lt HV6.out
  generalize w6.alloc (gObj v' a l c f t') = W7 at HX7 HV7 HB7 HK7 h7 ⊢
  have HW7 := toHid h7
  have HBS : Hid (w.heap.size ≤ w6.heap.size) := HB6.out.size
  have HBW2 : Hid (W2.heap.size ≤ w6.heap.size) := HK6.out.size
  generalize w6.heap.size = bw at HW7 HBL HBS HBW2 ⊢
  clear a7 h7 HX6 HV6 x0 x1 x2 x3 hlx HK6
  have hbvw : bv < bw := HBL.out
  have hbuv : bu < bv := HBV.out
  have x1 := cell_of HX7.out 1
  have x2 := cell_of HX7.out 2
  simp at x1 x2
  have hlx := blkB_lt HX7.out
  obtain ⟨Wc, hWc⟩ : ∃ Wc, Wc = W7 := ⟨_, rfl⟩
  go_wp2_with fail
  go_loopg [9, 48] l (fun g s9 s48 wr => ∃ i : Nat, i ≤ l ∧ l - i ≤ g ∧ s9 = .int .i64 ((bl + qN (Q.take i) : Nat) : Int) ∧ s48 = .int .i64 i ∧ wr = W7)
  case atStart => exact ⟨0, Nat.zero_le _, by omega, by show _ = Value.int .i64 ((bl + 0 : Nat) : Int); rw [Nat.add_zero], rfl, rfl⟩
  case round =>
    obtain ⟨i, hi, hg, rfl, rfl, rfl⟩ := hrel
    by_cases hlt : i < l
    · have hil : (i : Int) < l := by omega
      obtain ⟨b, off, rfl, hbb, hc⟩ := (HQ.out.below HB7.out).at'.2.2 (by omega)
      obtain ⟨q, hq, _⟩ := drop_get (L := Q) (i := i) (by have := HQL.out; omega)
      have d0 := hc i q hq
      have hle := qN_take Q (i + 1)
      have HNX := toHid (qN_next hq)
      have hle2 : bl + (qN (Q.take i) + q.l) ≤ 2000000 := by have := HN.out; have := HNX.out; omega
      clear hc hq hle
      generalize qN (Q.take i) = m at HNX hle2
      go_wp2_with fail
      go_roundg (l - (i + 1))
      case measure => omega
      case rel =>
        refine ⟨i + 1, by omega, Nat.le_refl _, ?_, by go_num, rfl⟩
        rw [HNX.out]
        go_num
    · have he : i = l := by omega
      subst he
      have hT : Q.take i = Q := List.take_of_length_le (by have := HQL.out; omega)
      rw [hT]
      have HSN : Hid (sumL (Q.map (·.X)) = qN Q) := HQG.out.2
      have HG0 := toHid (HQG.out.1.below HB7.out)
      have HGA := toHid (HGQ.out.below HK7.out)
      have hN4 : qN Q ≤ 40 := HN.out
      clear hT
      generalize hNN : qN Q = N at HSN hN4
      have HNN := toHid hNN
      clear hNN
      by_cases hd : f = true ∨ bl = 0
      · have HTF : Hid (tellF f (Q.map (·.X)) Y = (f, Q.map (·.X))) := by
          show _ = _
          unfold tellF
          rw [if_pos (by rw [← HYL.out]; exact hd)]
        have hff : f' = f := by rw [HFF.out, HTF.out]
        subst hff
        have HGB : Hid (GQ wr (Q.map (·.X)) a' l') := by
          have h5 := HGA.out
          rw [HTF.out] at h5
          exact h5
        have HSG := toHid (sameG_any (Q.map (·.X)) v' t' f' a' a l' c' i c wr HGB.out HG0.out)
        have y0 := cell_of HV7.out 0
        have y1 := cell_of HV7.out 1
        have y2 := cell_of HV7.out 2
        have y3 := cell_of HV7.out 3
        simp at y0 y1 y2 y3
        have hly := blkB_lt HV7.out
        have z0 := cell_of HW7.out 0
        have z1 := cell_of HW7.out 1
        have z2 := cell_of HW7.out 2
        have z3 := cell_of HW7.out 3
        simp at z0 z1 z2 z3
        have hlz := blkB_lt HW7.out
        cases f' with
        | true =>
          clear hd
          go_wp2_with fail
          refine HSG.out.mono ?_
          rintro e w8 ⟨rfl, k8⟩
          have HB8 := toHid (HB7.out.trans (k8.mono HB7.out.size))
          clear k8 HSG y0 y1 y2 y3 hly z0 z1 z2 z3 hlz
          go_wp2_with fail
          go_ret
          exact ⟨rfl, HB8.out⟩
        | false =>
          have h0 : bl = 0 := hd.resolve_left (by simp)
          have hbe : ((bl : Int) == 0) = true := by simp [h0]
          have hbi : (bl : Int) = 0 := by omega
          clear hd
          go_wp2_with fail
          refine HSG.out.mono ?_
          rintro e w8 ⟨rfl, k8⟩
          have HB8 := toHid (HB7.out.trans (k8.mono HB7.out.size))
          clear k8 HSG y0 y1 y2 y3 hly z0 z1 z2 z3 hlz
          go_wp2_with fail
          go_ret
          exact ⟨rfl, HB8.out⟩
      · have hf : f = false := by
          cases f with
          | true => exact absurd (.inl rfl) hd
          | false => rfl
        subst hf
        have hbn : bl ≠ 0 := fun e => hd (.inr e)
        have hbe : ((bl : Int) == 0) = false := by simp [hbn]
        have hbi : ¬ ((bl : Int) = 0) := by omega
        clear hd
        by_cases hn : 40 < bl + N
        · have hn' : (40 : Int) < ((bl + N : Nat) : Int) := by omega
          have hn2 : (40 : Int) < (bl : Int) + (N : Int) := by omega
          have HTF : Hid (tellF false (Q.map (·.X)) Y = (true, [])) := by
            show _ = _
            unfold tellF
            rw [← HYL.out, HSN.out, if_neg (by simp [hbn]), if_pos (by omega)]
          have hff : f' = true := by rw [HFF.out, HTF.out]
          subst hff
          have u1 := cell_of HW7.out 1
          have u2 := cell_of HW7.out 2
          simp at u1 u2
          have f1 := free_of HW7.out 1
          have f2 := free_of HW7.out 2
          have hlz0 := blkB_lt HW7.out
          obtain ⟨Z, hZ⟩ : ∃ Z, Z = (wr.setCell ⟨bw, 1, none⟩ (.slice none 0 0)).setCell ⟨bw, 2, none⟩ (.bool true) := ⟨_, rfl⟩
          have hZp : Z = putL wr bw 1 [.slice none 0 0, .bool true] := hZ
          have hvZ : Z.heap[bw]? = some (gObj v' none 0 0 true t') := by rw [hZp, putL_here _ _ _ _ HW7.out]; rfl
          have hrZ : Z.heap[bv]? = some (gObj v' a' l' c' true t') := by rw [hZp, putL_other _ _ _ _ _ (by omega)]; exact HV7.out
          have hcZ : Below w.heap.size w Z := by rw [hZp]; exact HB7.out.trans ((putL_bel _ _ _ _).mono HBS.out)
          have HSG := toHid (sameG_any [] v' t' true a' none l' c' 0 0 Z (by
            have h5 := HGA.out
            rw [HTF.out] at h5
            obtain ⟨Q2, q1, q2, q3⟩ := h5
            have h6 : Q2 = [] := List.map_eq_nil_iff.1 q1
            subst h6
            have h7 : l' = 0 := q2.at'.1
            subst h7
            exact ⟨[], rfl, ⟨⟨rfl, by omega, fun h => absurd h (Nat.lt_irrefl _)⟩, fun q hq => (by cases hq), by simp [qN]⟩, fun q hq => (by cases hq)⟩) (GQ.nil _))
          have hZs := hZ.symm
          have HCZ := toHid hcZ
          have y0 := cell_of hrZ 0
          have y1 := cell_of hrZ 1
          have y2 := cell_of hrZ 2
          have y3 := cell_of hrZ 3
          simp at y0 y1 y2 y3
          have hly := blkB_lt hrZ
          have z0 := cell_of hvZ 0
          have z1 := cell_of hvZ 1
          have z2 := cell_of hvZ 2
          have z3 := cell_of hvZ 3
          simp at z0 z1 z2 z3
          have hlz := blkB_lt hvZ
          clear hZ hZp hvZ hrZ hcZ
          go_wp2_with fail
          refine HSG.out.mono ?_
          rintro e w8 ⟨rfl, k8⟩
          have HB8 := toHid (HCZ.out.trans (k8.mono HCZ.out.size))
          clear k8 HSG y0 y1 y2 y3 hly z0 z1 z2 z3 hlz
          go_wp2_with fail
          go_ret
          exact ⟨rfl, HB8.out⟩
        · have hn' : ¬ ((40 : Int) < ((bl + N : Nat) : Int)) := by omega
          have hn2 : ¬ ((40 : Int) < (bl : Int) + (N : Int)) := by omega
          have HTF : Hid (tellF false (Q.map (·.X)) Y = (false, Q.map (·.X) ++ [Y])) := by
            show _ = _
            unfold tellF
            rw [← HYL.out, HSN.out, if_neg (by simp [hbn]), if_neg (by omega)]
          have hff : f' = false := by rw [HFF.out, HTF.out]
          subst hff
          have HCL := toHid (cloneQ_any Q a i c wr (HQ.out.below HB7.out).at')
          obtain ⟨i0, hi0, hiz, his, hib⟩ := bag_info
          have HI0 := toHid hi0
          have HIZ := toHid hiz
          have HIS := toHid his
          have HIB := toHid hib
          clear hi0 hiz his hib
          go_wp2_with fail
          refine HCL.out.mono ?_
          rintro e w8 ⟨⟨vq, rfl, hown⟩, k8⟩
          have HB8 := toHid (HB7.out.trans (k8.mono HB7.out.size))
          have HV8 := toHid ((k8.block bv (blkB_lt HV7.out)).trans HV7.out)
          have HW8 := toHid ((k8.block bw (blkB_lt HW7.out)).trans HW7.out)
          have HWS : Hid (bw < wr.heap.size) := blkB_lt HW7.out
          have HOW := toHid hown
          have hwr8 := k8.size
          have HBy : (Q.length + 1) * 24 ≤ 140737488355328 := by have := HQL.out; omega
          have HBm : Q.length + 1 ≤ maxLen := by unfold maxLen; have := HQL.out; omega
          have HOB : Hid (∀ g, vq.ownBlock = some g → wr.heap.size ≤ g ∧ g < w8.heap.size) := fun g hg => rowLt hown hg
          have HK8 := toHid (HK7.out.trans (k8.mono HK7.out.size))
          clear hown k8 HCL
          go_wp2_with (at_builtin; refine wpList_append_lies _ rfl _ _ 22 rfl wr.heap.size 26 i0 _ 1 24 Tryd.underlying22 HI0.out HIZ.out HIS.out HIB.out rfl (by omega) vq Q.length (qRow Q) rfl (HOW.out.alloc _) ⟨w8.heap.size, 0, none⟩ 1 1 [.slice ba bl bc] rfl rfl (World.news_of_block (cs := #[.slice ba bl bc]) (t := 26) (fr := (0, 0)) (alloc_new w8 _)) (by simp [Value.oneCell']) (by omega) HBm HBy (by simp; omega) (w8.heap.size + 1) (by simp) ?_)
          intro gg cap w9 hown9 hgrow hat9 hlt9
          have hX9 : w9.heap[bw]? = some (gObj v' a i c false t') := by
            rw [hgrow.block bw (by have := blkB_lt HW8.out; simp; omega) (fun e => by have := (HOB.out bw e.symm).1; have := HWS.out; omega), Below.heap_alloc w8 _ bw (blkB_lt HW8.out)]
            exact HW8.out
          have hV9 : w9.heap[bv]? = some (gObj v' a' l' c' false t') := by
            rw [hgrow.block bv (by have := blkB_lt HV8.out; simp; omega) (fun e => by have := (HOB.out bv e.symm).1; have := HWS.out; omega), Below.heap_alloc w8 _ bv (blkB_lt HV8.out)]
            exact HV8.out
          have u1 := cell_of hX9 1
          simp at u1
          have f1 := free_of hX9 1
          have hlz0 := blkB_lt hX9
          have h9 : Below w.heap.size w w9 := (HB8.out.alloc HB8.out.size _).grown hgrow (by have := HB8.out.size; simp; omega) (fun j hj => by have := (HOB.out j hj).1; have := HB7.out.size; omega)
          obtain ⟨Z, hZ⟩ : ∃ Z, Z = w9.setCell ⟨bw, 1, none⟩ (.slice (some ⟨gg, 0, none⟩) (Q.length + 1) cap) := ⟨_, rfl⟩
          have hZp : Z = putL w9 bw 1 [.slice (some ⟨gg, 0, none⟩) (Q.length + 1) cap] := hZ
          have hvZ : Z.heap[bw]? = some (gObj v' (some ⟨gg, 0, none⟩) (Q.length + 1) cap false t') := by rw [hZp, putL_here _ _ _ _ hX9]; rfl
          have hrZ : Z.heap[bv]? = some (gObj v' a' l' c' false t') := by rw [hZp, putL_other _ _ _ _ _ (by omega)]; exact hV9
          have hcZ : Below w.heap.size w Z := by rw [hZp]; exact h9.trans ((putL_bel _ _ _ _).mono HBS.out)
          have hggw : gg ≠ bw := fun e => by
            rcases hat9 with h5 | h5
            · have := (HOB.out gg h5).1; have := HWS.out; omega
            · have := HWS.out; omega
          have hGZ : GQ Z (Q.map (·.X) ++ [Y]) (some ⟨gg, 0, none⟩) (Q.length + 1) := by
            have ho : Z.ownsRow wr.heap.size 26 1 (.slice (some ⟨gg, 0, none⟩) (Q.length + 1) cap) (Q ++ [(⟨ba, bl, bc, 0, Y⟩ : Qd)]).length (qRow (Q ++ [(⟨ba, bl, bc, 0, Y⟩ : Qd)])) := by
              rw [qRow_snoc, List.length_append, List.length_singleton]
              exact rowK1 hown9 fun g hg => by
                rw [hZp]
                exact putL_other _ _ _ _ g (by
                  have : gg = g := by simpa [Value.ownBlock] using hg
                  omega)
            obtain ⟨a2, c2, e2, h2⟩ := own_gq ho (by rw [List.length_append, List.length_singleton]; have := HQL.out; omega) (fun p hp => by
              rcases List.mem_append.1 hp with hp | hp
              · exact ⟨HQZ.out p hp, (HQ.out.bags p hp).below hcZ⟩
              · rw [List.mem_singleton] at hp
                subst hp
                exact ⟨rfl, (HYR.out.bagZ bc).below hcZ⟩) (by rw [qN_append]; simp only [qN]; have := HNN.out; omega)
            injection e2 with e3 e4 e5
            subst e3
            rw [List.map_append] at h2
            have e6 : (Q ++ [(⟨ba, bl, bc, 0, Y⟩ : Qd)]).length = Q.length + 1 := by rw [List.length_append, List.length_singleton]
            rw [e6] at h2
            exact h2
          have hGA : GQ Z (Q.map (·.X) ++ [Y]) a' l' := by
            have hWZ : Below W2.heap.size W2 Z := by
              rw [hZp]
              exact ((HK8.out.alloc HK8.out.size _).grown hgrow (by have := HK8.out.size; simp; omega) (fun j hj => by have := (HOB.out j hj).1; have := HK7.out.size; omega)).trans ((putL_bel _ _ _ _).mono HBW2.out)
            have h5 := HGQ.out.below hWZ
            rw [HTF.out] at h5
            exact h5
          have HSG := toHid (sameG_any (Q.map (·.X) ++ [Y]) v' t' false a' (some ⟨gg, 0, none⟩) l' c' (Q.length + 1) cap Z hGA hGZ)
          have hZs := hZ.symm
          have HCZ := toHid hcZ
          have y0 := cell_of hrZ 0
          have y1 := cell_of hrZ 1
          have y2 := cell_of hrZ 2
          have y3 := cell_of hrZ 3
          simp at y0 y1 y2 y3
          have hly := blkB_lt hrZ
          have z0 := cell_of hvZ 0
          have z1 := cell_of hvZ 1
          have z2 := cell_of hvZ 2
          have z3 := cell_of hvZ 3
          simp at z0 z1 z2 z3
          have hlz := blkB_lt hvZ
          clear hZ hZp hvZ hrZ hcZ hGA hGZ hX9 hV9 h9 hown9 hgrow hat9 hlt9 hggw
          go_wp2_with fail
          refine HSG.out.mono ?_
          rintro e wY ⟨rfl, kY⟩
          have HBY := toHid (HCZ.out.trans (kY.mono HCZ.out.size))
          clear kY HSG y0 y1 y2 y3 hly z0 z1 z2 z3 hlz
          go_wp2_with fail
          go_ret
          exact ⟨rfl, HBY.out⟩

set_option linter.unusedSimpArgs false

section
variable {H : Type} {enc : TypeId × Value → H} {w : World} {base : Nat} {spare : Nat → Bool} {held : Bool}

theorem cells4g : Tryd.prog.cellsOf 24 = 4 := by kernel_rfl
theorem cells1bs : Tryd.prog.cellsOf 22 = 1 := by kernel_rfl
theorem cells1bg : Tryd.prog.cellsOf 26 = 1 := by kernel_rfl
theorem cells1bo : Tryd.prog.cellsOf 4 = 1 := by kernel_rfl

theorem sum_bulk : ∀ (E : List (DataW H × List MemPlace)) (Q : List Qd), E.length = Q.length → (∀ (i : Nat) (z : DataW H × List MemPlace) (q : Qd), E[i]? = some z → Q[i]? = some q → q.l * 3 ≤ Rows.uptoBulk z.1) → qN Q * 3 ≤ Rows.uptoBulkAll (E.map (·.1))
  | [], [], _, _ => by simp [qN, Rows.uptoBulkAll]
  | [], q :: Q, h, _ => by simp at h
  | z :: E, [], h, _ => by simp at h
  | z :: E, q :: Q, h, hp => by
    have h1 := hp 0 z q rfl rfl
    have h2 := sum_bulk E Q (by simpa using h) fun i z q hz hq => hp (i + 1) z q (by simpa using hz) (by simpa using hq)
    simp only [qN, List.map_cons, Rows.uptoBulkAll]
    omega

/-- A row of bags that reads: each of them is known. -/
theorem bags_in (B : Nat) (hB : B ≤ w.heap.size) (hT : Tabs B w) {fuel : Nat} {a : Option Addr} {l c : Nat} {y : DataW H × List MemPlace} (h : DataW.trod enc Tryd.prog w base spare held fuel 22 [.slice a l c] = some y) :
    ∃ Q : List Qd, l = Q.length ∧ (0 < l → ∃ b off, a = some ⟨b, off, none⟩ ∧ b < w.heap.size ∧ ∀ (i : Nat) (q : Qd), Q[i]? = some q → w.cell? ⟨b, off + i, none⟩ = some (.slice q.a q.l q.c)) ∧ (∀ q ∈ Q, BagZ w q.a q.l q.c q.z q.X) ∧ qN Q * 3 ≤ Rows.uptoBulk y.1 ∧ l ≤ Rows.uptoBulk y.1 := by
  have hm : maxLen ≤ 9223372036854775807 := by unfold maxLen; decide
  rcases DataW.trod_slice Tryd.underlying22 h with ⟨e1, rfl⟩ | ⟨a', l', c', elems, rest, m, hfu, e1, rfl, _, h1, h2, hlen, hel, _⟩
  · simp at e1
    obtain ⟨_, rfl, rfl⟩ := e1
    exact ⟨[], rfl, fun h => absurd h (Nat.lt_irrefl _), fun q hq => (by cases hq), by simp [qN], by omega⟩
  · simp at e1
    obtain ⟨rfl, rfl, rfl⟩ := e1
    have one : ∀ i, i < l → ∃ (z : DataW H × List MemPlace) (q : Qd), elems[i]? = some z ∧ (w.cell? (a'.add (i * 1)) = some (Value.slice q.a q.l q.c)) ∧ BagZ w q.a q.l q.c q.z q.X ∧ q.l * 3 ≤ Rows.uptoBulk z.1 := by
      intro i hi
      have hi2 := hel i hi
      obtain ⟨z, hz⟩ : ∃ z, elems[i]? = some z := ⟨elems[i], by simp [hlen, hi]⟩
      rw [hz, cells1bg, Option.bind_eq_some_iff] at hi2
      obtain ⟨cs, hcs, ht⟩ := hi2
      obtain ⟨q1, q2⟩ := cells_all hcs
      obtain ⟨v0, rfl⟩ : ∃ v, cs = [v] := by
        match cs, q1 with
        | [v], _ => exact ⟨v, rfl⟩
      obtain ⟨ba, bl, bc, rfl⟩ := slice_form Tryd.underlying26 ht
      obtain ⟨g1, g2⟩ := bag_in B hB hT ht
      obtain ⟨zz, X, hz2⟩ := bag_z g1 g2 bc
      have h4 := q2 0 _ rfl
      rw [add_zero] at h4
      exact ⟨z, ⟨ba, bl, bc, zz, X⟩, hz, h4, hz2, bag_len ht⟩
    obtain ⟨Q, hl, hQ⟩ := list_of (fun i (q : Qd) => ∃ z, elems[i]? = some z ∧ (w.cell? (a'.add (i * 1)) = some (Value.slice q.a q.l q.c)) ∧ BagZ w q.a q.l q.c q.z q.X ∧ q.l * 3 ≤ Rows.uptoBulk z.1) l (fun i hi => by
      obtain ⟨z, q, g⟩ := one i hi
      exact ⟨q, z, g⟩)
    refine ⟨Q, hl.symm, fun hp => ?_, fun q hq => ?_, ?_, ?_⟩
    · obtain ⟨b, off, sp⟩ := a'
      have hsp : sp = none ∧ b < w.heap.size := by
        obtain ⟨z, q, _, q2, _⟩ := one 0 hp
        rw [Nat.zero_mul, add_zero] at q2
        exact spot_none q2
      obtain ⟨rfl, hb⟩ := hsp
      refine ⟨b, off, rfl, hb, fun i q hq => ?_⟩
      obtain ⟨z, _, h4, _⟩ := hQ i q hq
      rw [add_none, Nat.mul_one] at h4
      exact h4
    · obtain ⟨i, hi⟩ := List.getElem?_of_mem hq
      obtain ⟨z, _, _, h4, _⟩ := hQ i q hi
      exact h4
    · have h5 := sum_bulk elems Q (by omega) fun i z q hz hq => by
        obtain ⟨z2, h3, _, _, h4⟩ := hQ i q hq
        rw [hz] at h3
        injection h3 with h3
        subst h3
        exact h4
      simp only [Rows.uptoBulk]
      omega
    · have h5 := bulk_len (q := 1) (elems.map (·.1)) fun d _ => bulk_pos d
      rw [List.length_map, hlen] at h5
      simp only [Rows.uptoBulk]
      omega

theorem len4g {cs : List Value} (h : cs.length = 4) : ∃ c0 c1 c2 c3, cs = [c0, c1, c2, c3] := by
  match cs, h with
  | [c0, c1, c2, c3], _ => exact ⟨c0, c1, c2, c3, rfl⟩

/-- A guest that reads, of bulk that isn't too great. -/
theorem guest_in (B : Nat) (hB : B ≤ w.heap.size) (hT : Tabs B w) {fuel : Nat} {cs : List Value} {x : DataW H × List MemPlace} (h : DataW.trod enc Tryd.prog w base spare held fuel 24 cs = some x) (hM : Rows.uptoBulk x.1 ≤ 1048576) :
    ∃ v a l c f t, cs = [.int .i64 v, .slice a l c, .bool f, .int .i64 t] ∧ ∃ Q, QIn w Q a l := by
  obtain ⟨xs, m, rfl, rfl, hlen, hxs, hf⟩ := DataW.trod_struct Tryd.underlying24 h
  rw [cells4g] at hlen
  obtain ⟨c0, c1, c2, c3, rfl⟩ := len4g hlen
  have f0 : DataW.trod enc Tryd.prog w base spare held m 3 (([c0, c1, c2, c3].drop 0).take (Tryd.prog.cellsOf 3)) = xs[0]? := hf 0 _ rfl
  have f1 : DataW.trod enc Tryd.prog w base spare held m 22 (([c0, c1, c2, c3].drop 1).take (Tryd.prog.cellsOf 22)) = xs[1]? := hf 1 _ rfl
  have f2 : DataW.trod enc Tryd.prog w base spare held m 4 (([c0, c1, c2, c3].drop 2).take (Tryd.prog.cellsOf 4)) = xs[2]? := hf 2 _ rfl
  have f3 : DataW.trod enc Tryd.prog w base spare held m 3 (([c0, c1, c2, c3].drop 3).take (Tryd.prog.cellsOf 3)) = xs[3]? := hf 3 _ rfl
  have hx : xs.length = 4 := hxs
  obtain ⟨y0, hy0⟩ : ∃ y, xs[0]? = some y := ⟨xs[0], by simp [hx]⟩
  obtain ⟨y1, hy1⟩ : ∃ y, xs[1]? = some y := ⟨xs[1], by simp [hx]⟩
  obtain ⟨y2, hy2⟩ : ∃ y, xs[2]? = some y := ⟨xs[2], by simp [hx]⟩
  obtain ⟨y3, hy3⟩ : ∃ y, xs[3]? = some y := ⟨xs[3], by simp [hx]⟩
  rw [hy0, cells1j] at f0
  rw [hy1, cells1bs] at f1
  rw [hy2, cells1bo] at f2
  rw [hy3, cells1j] at f3
  have g0 : DataW.trod enc Tryd.prog w base spare held m 3 [c0] = some y0 := f0
  have g1 : DataW.trod enc Tryd.prog w base spare held m 22 [c1] = some y1 := f1
  have g2 : DataW.trod enc Tryd.prog w base spare held m 4 [c2] = some y2 := f2
  have g3 : DataW.trod enc Tryd.prog w base spare held m 3 [c3] = some y3 := f3
  obtain ⟨v, e0, _, _⟩ := DataW.trod_int Tryd.underlying3 g0
  obtain ⟨a, l, c, rfl⟩ := slice_form Tryd.underlying22 g1
  obtain ⟨f, e2, _⟩ := DataW.trod_bool Tryd.underlying4 g2
  obtain ⟨t, e3, _, _⟩ := DataW.trod_int Tryd.underlying3 g3
  simp only [List.cons.injEq, and_true] at e0 e2 e3
  subst e0 e2 e3
  have hb1 := bulk_part (List.mem_map_of_mem (f := (·.1)) (List.mem_of_getElem? hy1))
  simp only [Rows.uptoBulk] at hM
  obtain ⟨Q, q1, q2, q3, q4, q5⟩ := bags_in B hB hT g1
  exact ⟨v, a, l, c, f, t, rfl, Q, ⟨q1, by omega, q2⟩, q3, by omega⟩
end

open Go.RowKit Go.Lib
set_option linter.unusedVariables false

theorem accept_eq : (Rows.laid_unicode_utf8_acceptRanges : DataW Unit) = acceptData := by kernel_rfl
theorem first_eq : (Rows.laid_unicode_utf8_first : DataW Unit) = firstData := Pinned.utf8First_eq

theorem u8extra : U8Extra Tryd.prog Tryd.lays196_ren := ⟨by kernel_rfl, by kernel_rfl, by kernel_rfl, by kernel_rfl, by kernel_rfl, by kernel_rfl, by kernel_rfl⟩

theorem tabs_of {l : List (String × DataW Unit)} (hf : ("unicode/utf8.first", Rows.laid_unicode_utf8_first) ∈ l) (ha : ("unicode/utf8.acceptRanges", Rows.laid_unicode_utf8_acceptRanges) ∈ l) {W : World} (h : laidMet Tryd.prog l W) : Tabs W.heap.size W := by
  have h0 : Lib.Utf8Tabs 0 1 W := utf8Tabs_of_readsT (U8Types.of196 Tryd.lays196) u8extra
    (first_eq ▸ Lib.laidMet.reads h hf)
    (accept_eq ▸ Lib.laidMet.reads h ha)
  have b0 : 0 < W.heap.size := World.block_lt_of_cell? W _ (h0.1 0 (by decide))
  have b1 : 1 < W.heap.size := World.block_lt_of_cell? W _ (h0.2 0 (by decide)).1
  intro w' hb
  refine ⟨fun c hc => ?_, fun i hi => ⟨?_, ?_⟩⟩
  · rw [hb.cell (p := ⟨0, c, none⟩) b0]; exact h0.1 c hc
  · rw [hb.cell (p := ⟨1, 2 * i, none⟩) b1]; exact (h0.2 i hi).1
  · rw [hb.cell (p := ⟨1, 2 * i + 1, none⟩) b1]; exact (h0.2 i hi).2
end Go.Proofs.YtmjeanpjiogkiaaDoor
