/-
  What is proved here: espalierbig's Text of a number above or below nought.
-/
import Derived.Test.YtdbodcfodlbgnaaDoorBgText0
namespace Go.Proofs.YtdbodcfodlbgnaaDoor.BG
open Go.RowKit
set_option linter.unusedVariables false

set_option maxHeartbeats 4000000 in
set_option maxRecDepth 100000 in
theorem text_pos (ib : Nat) (ws : List Nat) (a : Option Addr) (l c v0 : Nat) (w : World) (hb : w.heap[ib]? = some (.cells #[.bool false, .slice a l c] 58 (0, 0))) (hA : WAt w ws a l) (ht : Trimmed ws) (hl : l ≤ 500) (hl0 : 0 < l) (hv : vW ws = v0) (hv20 : v0 < 10 ^ 20) :
    Calls Tryd.prog 52 #[.pointer (some ⟨ib, 0, none⟩), .int .i64 10] w fun e w' => e = .returned (.string ⟨((revD v0).reverse).toArray⟩) ∧ Below w.heap.size w w' := by
  have hib : ib < w.heap.size := (Array.getElem?_eq_some_iff.1 hb).1
  have p0 := cell_of hb 0
  have p1 := cell_of hb 1
  simp at p0 p1
  have hl0' : ((l : Int) == 0) = false := beq_eq_false_iff_ne.2 (by omega)
  have HTW := toHid (twin_any ws a l c w hA (by omega) hl0)
  have HTR := toHid ht
  have HV0 := toHid hv
  have HLV := toHid (revD_len 20 v0 hv20)
  have HV20 := toHid hv20
  have HBX := toHid hb
  have HVP : Hid (0 < v0) := by
    rcases Nat.eq_zero_or_pos v0 with h | h
    · have h1 := vW_zero ht (hv.trans h)
      have h2 := hA.1
      rw [h1] at h2
      simp at h2
      omega
    · exact h
  obtain ⟨i0, hi, hz0, hz1, hz2⟩ := info_byte
  clear hA ht hb hv20 hv
  go_enter Tryd.func52, Tryd.ntmps52
  go_wp2_with fail
  refine HTW.out.mono ?_
  rintro e w1 ⟨⟨g1, cap1, rfl, hW1⟩, k1⟩
  have HW1 := toHid hW1
  have HK1 := toHid k1
  have hz1s := k1.size
  clear hW1 k1 HTW
  go_wp2_with fail
  go_loopg [5, 6, 7] v0 (fun g s5 s6 s7 wr => ∃ (v : Nat) (L : List UInt8) (bv : Value) (a : Option Addr) (l c : Nat) (ws : List Nat), v ≤ g ∧ v ≤ v0 ∧ s5 = bv ∧ s6 = .slice a l c ∧ WAt wr ws a l ∧ l ≤ 500 ∧ vW ws = v ∧ Trimmed ws ∧ Out w.heap.size wr bv L ∧ L ++ revD v = revD v0 ∧ Below w.heap.size w wr)
  case atStart => exact ⟨v0, [], .slice none 0 0, some ⟨g1, 0, none⟩, l, cap1, ws, Nat.le_refl _, Nat.le_refl _, rfl, rfl, HW1.out, hl, HV0.out, HTR.out, Out.nil _ _, by simp, HK1.out⟩
  case round =>
    clear HW1 HK1 hz1s
    obtain ⟨v, L, bv, a', l', c', ws', hg, hvle, rfl, rfl, hwa, hl5, hvv, htr, hout, hcat, hbw⟩ := hrel
    have hLl : L.length ≤ 20 := by
      have h1 := congrArg List.length hcat
      rw [List.length_append] at h1
      have := HLV.out
      omega
    have HWA := toHid hwa
    have HVV := toHid hvv
    have HTRR := toHid htr
    have HOUT := toHid hout
    have HCAT := toHid hcat
    have HBW := toHid hbw
    have hsz := hbw.size
    obtain ⟨ba, bc, hbv⟩ := hout.len
    subst hbv
    clear hwa hvv htr hout hcat hbw
    by_cases hlp : 0 < l'
    · have hvp : 0 < v := by
        rcases Nat.eq_zero_or_pos v with h | h
        · have := vW_zero HTRR.out (HVV.out.trans h)
          have h2 := HWA.out.1
          rw [this] at h2
          simp at h2
          omega
        · exact h
      have hlp' : (0 : Int) < (l' : Int) := by omega
      have HSM := toHid (small_any ws' a' l' c' wr HWA.out (by omega) hlp)
      go_wp2_with fail
      refine HSM.out.mono ?_
      rintro e u1 ⟨⟨qa, ql, qc, qs, rfl, q1, q2, q3, q4, q5, q6, q7⟩, hlt1, k1⟩
      have hs1 := k1.size
      obtain ⟨d, hd⟩ : ∃ d : Nat, d = vW ws' % 10 := ⟨_, rfl⟩
      rw [← hd]
      have hd10 : d < 10 := by omega
      have d1 : (d : Int) < 10 := by omega
      have hdv : d = v % 10 := by rw [hd, HVV.out]
      have HDV := toHid hdv
      have HQ1 := toHid q1
      have HQ5 : Hid (vW qs = v / 10) := by show _ = _; rw [q5, HVV.out]
      have HQ6 := toHid q6
      have hq7 := q7
      subst hq7
      have OW := toHid (HOUT.out.below k1)
      have HK1 := toHid (below2 HBW.out k1)
      have hob : ∀ g, (Value.slice ba L.length bc).ownBlock = some g → g < wr.heap.size := fun g hg => by
        rcases HOUT.out.2 with ⟨h0, _⟩ | ⟨g', cap', cur, h0, _, h2, _⟩
        · rw [h0] at hg; simp [Value.ownBlock] at hg
        · rw [h0] at hg
          simp [Value.ownBlock] at hg
          subst hg
          exact (Array.getElem?_eq_some_iff.1 h2).1
      have HOB := toHid hob
      have hql : ql ≤ 500 := by
        rw [q1.1]
        refine len_dec q6 (k := 20) ?_ (by omega)
        rw [HQ5.out]
        have := HV20.out
        omega
      clear q1 q2 q3 q4 q5 q6 q7 hd hdv HSM k1 hob
      go_wp2_with (at_builtin; refine wpList_append_own _ rfl _ _ 48 rfl w.heap.size BE i0 (.int .u8 0) 1 1 Tryd.underlying48 hi hz0 hz1 hz2 rfl (by decide) _ _ _ rfl (OW.out.alloc _) ⟨u1.heap.size, 0, none⟩ 1 1 [.int .u8 (48 + (d : Int))] rfl rfl (one_new _ _ _) (fun x hx => by simp at hx; subst hx; rfl) (by unfold maxLen; omega) (by omega) (by simp; omega) ?_)
      intro v2 w2 hown2 hg2 _
      have eB : ([.int .u8 (48 + (d : Int))] : List Value) = Lib.byteCells [UInt8.ofNat (48 + d)] := by
        simp only [Lib.byteCells, List.map_cons, List.map_nil, digit_nat d hd10]
        rw [show ((48 + d : Nat) : Int) = 48 + (d : Int) from by omega]
      have o2 := out_of hown2 eB
      have hb2 : Below w.heap.size w w2 := HK1.out.trans ((OW.out.alloc _).grown ((Below.refl _ _).alloc (by omega) _) hg2 (by simp; omega))
      have hs2 : u1.heap.size + 1 ≤ w2.heap.size := by have := hg2.size; simp at this; omega
      have HW2 : Hid (WAt w2 qs (some ⟨wr.heap.size, 0, none⟩) ql) := (HQ1.out).keep (by omega) (fun b off hbo => by
        simp only [Option.some.injEq, Addr.mk.injEq] at hbo
        obtain ⟨rfl, _⟩ := hbo
        rw [hg2.block _ (by simp; omega) (fun e => by have := HOB.out _ e.symm; omega), Below.heap_alloc _ _ _ hlt1])
      have O2 := toHid o2
      have HB2 := toHid hb2
      clear o2 hown2 hg2 hb2 HQ1
      go_wp2_with fail
      go_roundg (v / 10)
      case measure => omega
      case rel => exact ⟨v / 10, L ++ [UInt8.ofNat (48 + d)], v2, some ⟨wr.heap.size, 0, none⟩, ql, qc, qs, Nat.le_refl _, by omega, rfl, rfl, HW2.out, hql, HQ5.out, HQ6.out, O2.out, by rw [List.append_assoc, ← HCAT.out, revD_pos hvp, HDV.out]; rfl, HB2.out⟩
    · have hl00 : l' = 0 := by omega
      subst hl00
      have hv00 : v = 0 := by
        have h2 := HWA.out.1
        have h3 : ws' = [] := List.length_eq_zero_iff.1 h2.symm
        rw [← HVV.out, h3]
        rfl
      subst hv00
      have HLE : Hid (L = revD v0) := by
        have := HCAT.out
        rw [revD_zero, List.append_nil] at this
        exact this
      have q0 := (HBW.out.cell (p := ⟨ib, 0, none⟩) hib).trans p0
      have hibr : ib < wr.heap.size := by omega
      have OUTF := toHid HOUT.out
      have BELF := toHid HBW.out
      obtain ⟨n, hn⟩ : ∃ n, n = L.length := ⟨_, rfl⟩
      have hnp : 0 < n := by
        have h1 : L ≠ [] := by
          rw [HLE.out, revD_pos HVP.out]; simp
        have := List.length_pos_iff.2 h1
        omega
      obtain ⟨g0, hg0⟩ : ∃ g0, ba = some ⟨g0, 0, none⟩ := by
        rcases OUTF.out.2 with ⟨h0, h1⟩ | ⟨g', cap', cur, h0, _, h2, _⟩
        · omega
        · simp only [Value.slice.injEq] at h0
          exact ⟨g', h0.1⟩
      subst hg0
      rw [← hn]
      have HO2 := toHid OUTF.out
      rw [← hn] at HO2
      have HN := toHid hn
      have hn20 : n ≤ 21 := by
        rw [hn]
        omega
      clear hn
      go_wp2_with fail
      go_loopg [8, 9, 10] n (fun g s8 s9 s10 wr2 => ∃ (i j : Nat) (cur : List UInt8), i + j + 1 = n ∧ n - i ≤ g ∧ s8 = .int .i64 i ∧ s9 = .int .i64 j ∧ Out w.heap.size wr2 (.slice (some ⟨g0, 0, none⟩) n bc) cur ∧ RevI L cur i ∧ Below w.heap.size w wr2)
      case atStart => exact ⟨0, n - 1, L, by omega, by omega, by go_num, by rw [show ((n - 1 : Nat) : Int) = (n : Int) - 1 from by omega], HO2.out, RevI.start _, BELF.out⟩
      case round =>
        obtain ⟨i, j, cur, hij, hg2, rfl, rfl, hou, hrev, hbe⟩ := hrel
        have hcl : cur.length = n := hrev.1.trans HN.out.symm
        have HGB : Hid (w.heap.size ≤ g0) := (World.ownsRow.lt hou g0 rfl).1
        have HOU := toHid hou
        have HREV := toHid hrev
        have HBE := toHid hbe
        clear hou hrev hbe
        by_cases hlt : i < j
        · have hlt' : (i : Int) < (j : Int) := by omega
          obtain ⟨x, hx⟩ : ∃ x, cur[i]? = some x := ⟨cur[i]'(by omega), List.getElem?_eq_getElem _⟩
          obtain ⟨y, hy⟩ : ∃ y, cur[j]? = some y := ⟨cur[j]'(by omega), List.getElem?_eq_getElem _⟩
          have c0 := out_at HOU.out hx
          have c1 := out_at HOU.out hy
          have f0 := out_free HOU.out hcl i
          have f1 := out_free HOU.out hcl j
          have hin : (i : Int) < (n : Int) := by omega
          have hjn : (j : Int) < (n : Int) := by omega
          have hij2 : i ≠ j := by omega
          have o1 := out_set HOU.out hcl i y
          have o2 := out_set o1 (by simp [hcl]) j x
          have HO3 := toHid o2
          have hb3 : Below w.heap.size w ((wr.setCell ⟨g0, i, none⟩ (.int .u8 (y.toNat : Int))).setCell ⟨g0, j, none⟩ (.int .u8 (x.toNat : Int))) := (HBE.out.setCell (p := ⟨g0, i, none⟩) (HGB.out) _).setCell (p := ⟨g0, j, none⟩) (HGB.out) _
          have HB3 := toHid hb3
          have HR3 : Hid (RevI L ((cur.set i y).set j x) (i + 1)) := by
            have e : L.length - 1 - i = j := by have := HN.out; omega
            have := HREV.out.step (by have := HN.out; omega) hx (by rw [e]; exact hy)
            rw [e] at this
            exact this
          have c1' : (wr.setCell ⟨g0, i, none⟩ (.int .u8 (y.toNat : Int))).cell? ⟨g0, j, none⟩ = some (.int .u8 (y.toNat : Int)) := out_at o1 (by rw [List.getElem?_set_ne hij2]; exact hy)
          have f1' := out_free o1 (by simp [hcl]) j
          clear o1 o2 hx hy hb3
          go_wp2_with fail
          go_roundg (n - (i + 1))
          case measure => omega
          case rel => exact ⟨i + 1, j - 1, (cur.set i y).set j x, by omega, Nat.le_refl _, by go_num, by rw [show ((j - 1 : Nat) : Int) = (j : Int) - 1 from by omega], HO3.out, HR3.out, HB3.out⟩
        · have hlt' : ¬ (i : Int) < (j : Int) := by omega
          have hfin := HREV.out.done (by have := HN.out; omega)
          have hcv := out_str HOU.out hcl
          rw [hfin] at hcv
          have HFIN : Hid (L.reverse = (revD v0).reverse) := by show _ = _; rw [HLE.out]
          clear hfin
          go_wp2_with fail
          go_ret
          exact ⟨by first | (rw [HFIN.out]; rfl) | (rw [HLE.out]; rfl), HBE.out⟩


set_option maxHeartbeats 4000000 in
set_option maxRecDepth 100000 in
theorem text_neg (ib : Nat) (ws : List Nat) (a : Option Addr) (l c v0 : Nat) (w : World) (hb : w.heap[ib]? = some (.cells #[.bool true, .slice a l c] 58 (0, 0))) (hA : WAt w ws a l) (ht : Trimmed ws) (hl : l ≤ 500) (hl0 : 0 < l) (hv : vW ws = v0) (hv20 : v0 < 10 ^ 20) :
    Calls Tryd.prog 52 #[.pointer (some ⟨ib, 0, none⟩), .int .i64 10] w fun e w' => e = .returned (.string ⟨((revD v0 ++ [45]).reverse).toArray⟩) ∧ Below w.heap.size w w' := by
  have hib : ib < w.heap.size := (Array.getElem?_eq_some_iff.1 hb).1
  have p0 := cell_of hb 0
  have p1 := cell_of hb 1
  simp at p0 p1
  have hl0' : ((l : Int) == 0) = false := beq_eq_false_iff_ne.2 (by omega)
  have HTW := toHid (twin_any ws a l c w hA (by omega) hl0)
  have HTR := toHid ht
  have HV0 := toHid hv
  have HLV := toHid (revD_len 20 v0 hv20)
  have HV20 := toHid hv20
  have HBX := toHid hb
  have HVP : Hid (0 < v0) := by
    rcases Nat.eq_zero_or_pos v0 with h | h
    · have h1 := vW_zero ht (hv.trans h)
      have h2 := hA.1
      rw [h1] at h2
      simp at h2
      omega
    · exact h
  obtain ⟨i0, hi, hz0, hz1, hz2⟩ := info_byte
  clear hA ht hb hv20 hv
  go_enter Tryd.func52, Tryd.ntmps52
  go_wp2_with fail
  refine HTW.out.mono ?_
  rintro e w1 ⟨⟨g1, cap1, rfl, hW1⟩, k1⟩
  have HW1 := toHid hW1
  have HK1 := toHid k1
  have hz1s := k1.size
  clear hW1 k1 HTW
  go_wp2_with fail
  go_loopg [5, 6, 7] v0 (fun g s5 s6 s7 wr => ∃ (v : Nat) (L : List UInt8) (bv : Value) (a : Option Addr) (l c : Nat) (ws : List Nat), v ≤ g ∧ v ≤ v0 ∧ s5 = bv ∧ s6 = .slice a l c ∧ WAt wr ws a l ∧ l ≤ 500 ∧ vW ws = v ∧ Trimmed ws ∧ Out w.heap.size wr bv L ∧ L ++ revD v = revD v0 ∧ Below w.heap.size w wr)
  case atStart => exact ⟨v0, [], .slice none 0 0, some ⟨g1, 0, none⟩, l, cap1, ws, Nat.le_refl _, Nat.le_refl _, rfl, rfl, HW1.out, hl, HV0.out, HTR.out, Out.nil _ _, by simp, HK1.out⟩
  case round =>
    clear HW1 HK1 hz1s
    obtain ⟨v, L, bv, a', l', c', ws', hg, hvle, rfl, rfl, hwa, hl5, hvv, htr, hout, hcat, hbw⟩ := hrel
    have hLl : L.length ≤ 20 := by
      have h1 := congrArg List.length hcat
      rw [List.length_append] at h1
      have := HLV.out
      omega
    have HWA := toHid hwa
    have HVV := toHid hvv
    have HTRR := toHid htr
    have HOUT := toHid hout
    have HCAT := toHid hcat
    have HBW := toHid hbw
    have hsz := hbw.size
    obtain ⟨ba, bc, hbv⟩ := hout.len
    subst hbv
    clear hwa hvv htr hout hcat hbw
    by_cases hlp : 0 < l'
    · have hvp : 0 < v := by
        rcases Nat.eq_zero_or_pos v with h | h
        · have := vW_zero HTRR.out (HVV.out.trans h)
          have h2 := HWA.out.1
          rw [this] at h2
          simp at h2
          omega
        · exact h
      have hlp' : (0 : Int) < (l' : Int) := by omega
      have HSM := toHid (small_any ws' a' l' c' wr HWA.out (by omega) hlp)
      go_wp2_with fail
      refine HSM.out.mono ?_
      rintro e u1 ⟨⟨qa, ql, qc, qs, rfl, q1, q2, q3, q4, q5, q6, q7⟩, hlt1, k1⟩
      have hs1 := k1.size
      obtain ⟨d, hd⟩ : ∃ d : Nat, d = vW ws' % 10 := ⟨_, rfl⟩
      rw [← hd]
      have hd10 : d < 10 := by omega
      have d1 : (d : Int) < 10 := by omega
      have hdv : d = v % 10 := by rw [hd, HVV.out]
      have HDV := toHid hdv
      have HQ1 := toHid q1
      have HQ5 : Hid (vW qs = v / 10) := by show _ = _; rw [q5, HVV.out]
      have HQ6 := toHid q6
      have hq7 := q7
      subst hq7
      have OW := toHid (HOUT.out.below k1)
      have HK1 := toHid (below2 HBW.out k1)
      have hob : ∀ g, (Value.slice ba L.length bc).ownBlock = some g → g < wr.heap.size := fun g hg => by
        rcases HOUT.out.2 with ⟨h0, _⟩ | ⟨g', cap', cur, h0, _, h2, _⟩
        · rw [h0] at hg; simp [Value.ownBlock] at hg
        · rw [h0] at hg
          simp [Value.ownBlock] at hg
          subst hg
          exact (Array.getElem?_eq_some_iff.1 h2).1
      have HOB := toHid hob
      have hql : ql ≤ 500 := by
        rw [q1.1]
        refine len_dec q6 (k := 20) ?_ (by omega)
        rw [HQ5.out]
        have := HV20.out
        omega
      clear q1 q2 q3 q4 q5 q6 q7 hd hdv HSM k1 hob
      go_wp2_with (at_builtin; refine wpList_append_own _ rfl _ _ 48 rfl w.heap.size BE i0 (.int .u8 0) 1 1 Tryd.underlying48 hi hz0 hz1 hz2 rfl (by decide) _ _ _ rfl (OW.out.alloc _) ⟨u1.heap.size, 0, none⟩ 1 1 [.int .u8 (48 + (d : Int))] rfl rfl (one_new _ _ _) (fun x hx => by simp at hx; subst hx; rfl) (by unfold maxLen; omega) (by omega) (by simp; omega) ?_)
      intro v2 w2 hown2 hg2 _
      have eB : ([.int .u8 (48 + (d : Int))] : List Value) = Lib.byteCells [UInt8.ofNat (48 + d)] := by
        simp only [Lib.byteCells, List.map_cons, List.map_nil, digit_nat d hd10]
        rw [show ((48 + d : Nat) : Int) = 48 + (d : Int) from by omega]
      have o2 := out_of hown2 eB
      have hb2 : Below w.heap.size w w2 := HK1.out.trans ((OW.out.alloc _).grown ((Below.refl _ _).alloc (by omega) _) hg2 (by simp; omega))
      have hs2 : u1.heap.size + 1 ≤ w2.heap.size := by have := hg2.size; simp at this; omega
      have HW2 : Hid (WAt w2 qs (some ⟨wr.heap.size, 0, none⟩) ql) := (HQ1.out).keep (by omega) (fun b off hbo => by
        simp only [Option.some.injEq, Addr.mk.injEq] at hbo
        obtain ⟨rfl, _⟩ := hbo
        rw [hg2.block _ (by simp; omega) (fun e => by have := HOB.out _ e.symm; omega), Below.heap_alloc _ _ _ hlt1])
      have O2 := toHid o2
      have HB2 := toHid hb2
      clear o2 hown2 hg2 hb2 HQ1
      go_wp2_with fail
      go_roundg (v / 10)
      case measure => omega
      case rel => exact ⟨v / 10, L ++ [UInt8.ofNat (48 + d)], v2, some ⟨wr.heap.size, 0, none⟩, ql, qc, qs, Nat.le_refl _, by omega, rfl, rfl, HW2.out, hql, HQ5.out, HQ6.out, O2.out, by rw [List.append_assoc, ← HCAT.out, revD_pos hvp, HDV.out]; rfl, HB2.out⟩
    · have hl00 : l' = 0 := by omega
      subst hl00
      have hv00 : v = 0 := by
        have h2 := HWA.out.1
        have h3 : ws' = [] := List.length_eq_zero_iff.1 h2.symm
        rw [← HVV.out, h3]
        rfl
      subst hv00
      have HLE : Hid (L = revD v0) := by
        have := HCAT.out
        rw [revD_zero, List.append_nil] at this
        exact this
      have q0 := (HBW.out.cell (p := ⟨ib, 0, none⟩) hib).trans p0
      have hibr : ib < wr.heap.size := by omega
      have hL20 : L.length + 1 ≤ maxLen := by unfold maxLen; omega
      go_wp2_with (at_builtin; refine wpList_append_own _ rfl _ _ 48 rfl w.heap.size BE i0 (.int .u8 0) 1 1 Tryd.underlying48 hi hz0 hz1 hz2 rfl (by decide) _ _ _ rfl (HOUT.out.alloc _) ⟨wr.heap.size, 0, none⟩ 1 1 [.int .u8 45] rfl rfl (one_new _ _ _) (fun x hx => by simp at hx; subst hx; rfl) (by unfold maxLen; omega) (by omega) (by simp; omega) ?_)
      intro v2 w2 hown2 hgN _
      have o2 : Out w.heap.size w2 v2 (L ++ [45]) := out_of hown2 rfl
      have hb2 : Below w.heap.size w w2 := HBW.out.trans ((HOUT.out.alloc _).grown ((Below.refl _ _).alloc (by omega) _) hgN (by simp; omega))
      obtain ⟨na, nc, hnv⟩ := o2.len
      subst hnv
      have OUTF := toHid o2
      have BELF := toHid hb2
      clear o2 hown2 hgN hb2
      obtain ⟨n, hn⟩ : ∃ n, n = (L ++ [45]).length := ⟨_, rfl⟩
      have hnp : 0 < n := by
        have h1 : (L ++ [45]) ≠ [] := by
          simp
        have := List.length_pos_iff.2 h1
        omega
      obtain ⟨g0, hg0⟩ : ∃ g0, na = some ⟨g0, 0, none⟩ := by
        rcases OUTF.out.2 with ⟨h0, h1⟩ | ⟨g', cap', cur, h0, _, h2, _⟩
        · omega
        · simp only [Value.slice.injEq] at h0
          exact ⟨g', h0.1⟩
      subst hg0
      rw [← hn]
      have HO2 := toHid OUTF.out
      rw [← hn] at HO2
      have HN := toHid hn
      have hn20 : n ≤ 21 := by
        rw [hn]
        rw [List.length_append]; simp; omega
      clear hn
      go_wp2_with fail
      go_loopg [8, 9, 10] n (fun g s8 s9 s10 wr2 => ∃ (i j : Nat) (cur : List UInt8), i + j + 1 = n ∧ n - i ≤ g ∧ s8 = .int .i64 i ∧ s9 = .int .i64 j ∧ Out w.heap.size wr2 (.slice (some ⟨g0, 0, none⟩) n nc) cur ∧ RevI (L ++ [45]) cur i ∧ Below w.heap.size w wr2)
      case atStart => exact ⟨0, n - 1, (L ++ [45]), by omega, by omega, by go_num, by rw [show ((n - 1 : Nat) : Int) = (n : Int) - 1 from by omega], HO2.out, RevI.start _, BELF.out⟩
      case round =>
        obtain ⟨i, j, cur, hij, hg2, rfl, rfl, hou, hrev, hbe⟩ := hrel
        have hcl : cur.length = n := hrev.1.trans HN.out.symm
        have HGB : Hid (w.heap.size ≤ g0) := (World.ownsRow.lt hou g0 rfl).1
        have HOU := toHid hou
        have HREV := toHid hrev
        have HBE := toHid hbe
        clear hou hrev hbe
        by_cases hlt : i < j
        · have hlt' : (i : Int) < (j : Int) := by omega
          obtain ⟨x, hx⟩ : ∃ x, cur[i]? = some x := ⟨cur[i]'(by omega), List.getElem?_eq_getElem _⟩
          obtain ⟨y, hy⟩ : ∃ y, cur[j]? = some y := ⟨cur[j]'(by omega), List.getElem?_eq_getElem _⟩
          have c0 := out_at HOU.out hx
          have c1 := out_at HOU.out hy
          have f0 := out_free HOU.out hcl i
          have f1 := out_free HOU.out hcl j
          have hin : (i : Int) < (n : Int) := by omega
          have hjn : (j : Int) < (n : Int) := by omega
          have hij2 : i ≠ j := by omega
          have o1 := out_set HOU.out hcl i y
          have o2 := out_set o1 (by simp [hcl]) j x
          have HO3 := toHid o2
          have hb3 : Below w.heap.size w ((wr.setCell ⟨g0, i, none⟩ (.int .u8 (y.toNat : Int))).setCell ⟨g0, j, none⟩ (.int .u8 (x.toNat : Int))) := (HBE.out.setCell (p := ⟨g0, i, none⟩) (HGB.out) _).setCell (p := ⟨g0, j, none⟩) (HGB.out) _
          have HB3 := toHid hb3
          have HR3 : Hid (RevI (L ++ [45]) ((cur.set i y).set j x) (i + 1)) := by
            have e : (L ++ [45]).length - 1 - i = j := by have := HN.out; omega
            have := HREV.out.step (by have := HN.out; omega) hx (by rw [e]; exact hy)
            rw [e] at this
            exact this
          have c1' : (wr.setCell ⟨g0, i, none⟩ (.int .u8 (y.toNat : Int))).cell? ⟨g0, j, none⟩ = some (.int .u8 (y.toNat : Int)) := out_at o1 (by rw [List.getElem?_set_ne hij2]; exact hy)
          have f1' := out_free o1 (by simp [hcl]) j
          clear o1 o2 hx hy hb3
          go_wp2_with fail
          go_roundg (n - (i + 1))
          case measure => omega
          case rel => exact ⟨i + 1, j - 1, (cur.set i y).set j x, by omega, Nat.le_refl _, by go_num, by rw [show ((j - 1 : Nat) : Int) = (j : Int) - 1 from by omega], HO3.out, HR3.out, HB3.out⟩
        · have hlt' : ¬ (i : Int) < (j : Int) := by omega
          have hfin := HREV.out.done (by have := HN.out; omega)
          have hcv := out_str HOU.out hcl
          rw [hfin] at hcv
          have HFIN : Hid ((L ++ [45]).reverse = (revD v0 ++ [45]).reverse) := by show _ = _; rw [HLE.out]
          clear hfin
          go_wp2_with fail
          go_ret
          exact ⟨by first | (rw [HFIN.out]; rfl) | (rw [HLE.out]; rfl), HBE.out⟩


set_option maxHeartbeats 1000000 in
set_option maxRecDepth 100000 in
theorem text_zero (ib : Nat) (n0 : Bool) (a : Option Addr) (c : Nat) (w : World) (hb : w.heap[ib]? = some (.cells #[.bool n0, .slice a 0 c] 58 (0, 0))) :
    Calls Tryd.prog 52 #[.pointer (some ⟨ib, 0, none⟩), .int .i64 10] w fun e w' => e = .returned (.string ⟨#[48]⟩) ∧ Below w.heap.size w w' := by
  have p0 := cell_of hb 0
  have p1 := cell_of hb 1
  simp at p0 p1
  clear hb
  go_enter Tryd.func52, Tryd.ntmps52
  go_wp2_with fail
  go_ret
  exact ⟨rfl, Below.refl _ _⟩

theorem text_any (ib : Nat) (z : Int) (w : World) (h : IntAt w ib z) (hz : -9223372036854775808 ≤ z ∧ z ≤ 9223372036854775807) :
    Calls Tryd.prog 52 #[.pointer (some ⟨ib, 0, none⟩), .int .i64 10] w fun e w' => e = .returned (.string ⟨(Lib.itoa z).toArray⟩) ∧ Below w.heap.size w w' := by
  obtain ⟨neg, a, l, c, ws, hb, hw, h1, h2, h3, ht, hzv, hn⟩ := h
  have hl : l ≤ 2 := by rw [hw.1]; exact len_two ht (by rw [hzv] at hz; split at hz <;> omega)
  rcases Nat.eq_zero_or_pos l with h0 | h0
  · subst h0
    have hws : ws = [] := List.length_eq_zero_iff.1 hw.1.symm
    have hn' : neg = false := by
      cases neg with
      | false => rfl
      | true => exact absurd (hn rfl) (by omega)
    subst hws hn'
    have hz0 : z = 0 := by rw [hzv]; simp [vW]
    subst hz0
    have e : Lib.itoa 0 = [48] := by
      unfold Lib.itoa
      rw [if_neg (by decide), Lib.decDigits, dif_pos (by decide)]
      rfl
    rw [e]
    exact text_zero ib false a c w hb
  · have hvp : 0 < vW ws := by
      rcases Nat.eq_zero_or_pos (vW ws) with h | h
      · have h5 := vW_zero ht h
        have h6 := hw.1
        rw [h5] at h6
        simp at h6
        omega
      · exact h
    cases neg with
    | false =>
      have hz1 : z = (vW ws : Int) := by rw [hzv]; simp
      have e : Lib.itoa z = (revD (vW ws)).reverse := by
        rw [revD_dec _ hvp]
        unfold Lib.itoa
        rw [if_neg (by omega), hz1]
        rfl
      rw [e]
      exact text_pos ib ws a l c (vW ws) w hb hw ht (by omega) h0 rfl (by omega)
    | true =>
      have hz1 : z = -(vW ws : Int) := by rw [hzv]; simp
      have e : Lib.itoa z = (revD (vW ws) ++ [45]).reverse := by
        rw [List.reverse_append, revD_dec _ hvp]
        unfold Lib.itoa
        rw [if_pos (by omega), hz1, Int.natAbs_neg, Int.natAbs_natCast]
        rfl
      rw [e]
      exact text_neg ib ws a l c (vW ws) w hb hw ht (by omega) h0 rfl (by omega)

set_option maxHeartbeats 1000000 in
set_option maxRecDepth 100000 in
theorem string_any (ib : Nat) (z : Int) (w : World) (h : IntAt w ib z) (hz : -9223372036854775808 ≤ z ∧ z ≤ 9223372036854775807) :
    Calls Tryd.prog 27 #[.pointer (some ⟨ib, 0, none⟩)] w fun e w' => e = .returned (.string ⟨(Lib.itoa z).toArray⟩) ∧ Below w.heap.size w w' := by
  have HT := toHid (text_any ib z w h hz)
  clear h
  go_enter Tryd.func27, Tryd.ntmps27
  go_wp2_with fail
  refine HT.out.mono ?_
  rintro e w1 ⟨rfl, k1⟩
  go_wp2_with fail
  go_ret
  exact ⟨rfl, k1⟩
end Go.Proofs.YtdbodcfodlbgnaaDoor.BG
