/-
  What is proved here: what the texts FRef, BX, BRing0, BNums prove, in one text.
-/
import Derived.Test.YtbjkpbeijkmoeaaGreatDoorQBAS
import Derived.Test.YtbjkpbeijkmoeaaGreatDoorQBAK
import Derived.Test.YtbjkpbeijkmoeaaGreatDoorQBAP
namespace Go.Proofs.YtbjkpbeijkmoeaaGreatDoor
open Go.RowKit
set_option linter.unusedVariables false

set_option linter.unusedSimpArgs false

theorem row_slice {w : World} {B n : Nat} {v : Value} {xs : List Value} (h : w.ownsRow B 32 2 v n xs) : ∃ a c, v = .slice a n c := by
  rcases h.2 with ⟨h0, h1⟩ | ⟨g', cap', cur, h0, _⟩
  · exact ⟨none, 0, by rw [h0, h1]⟩
  · exact ⟨_, _, h0⟩

/-- The count that is being reckoned. -/
abbrev cBox (x : Ct) (N : Int) : Obj := .cells #[.slice x.a x.l x.c, .int .i64 N] 32

set_option maxHeartbeats 16000000 in
set_option maxRecDepth 100000 in
theorem bagOf_ref (D : List Ct) (a : Option Addr) (l c : Nat) (w : World) (h : CtsAt w D a l) (hr : ∀ x ∈ D, LiesS w x.L x.a x.l ∧ wtL x.L ≤ 1099511627776) (habs : absS D ≤ 2305843009213693952) :
    Calls Tryz.prog 10 #[.slice a l c] w fun e w' => (∃ v E, e = .returned v ∧ E.Perm D ∧ (E.Pairwise fun x y => ordL x.L y.L ≤ 0) ∧ w'.ownsRow w.heap.size 32 2 v (nzC (tgCs E)).length (ctRow (nzC (tgCs E)))) ∧ Below w.heap.size w w' := by
  have hn : D.length ≤ 1000000 := by rw [← h.1]; exact h.2.1
  have b0 : Below w.heap.size w (w.alloc (.cells #[.slice a l c] 23)) := (Below.refl _ _).alloc (Nat.le_refl _) _
  have h0 := alloc_new w (.cells #[.slice a l c] 23)
  have z0 : (w.alloc (.cells #[.slice a l c] 23)).heap.size = w.heap.size + 1 := by simp
  have HCL := toHid (cloneC_any D a l c _ (h.below b0))
  have y0 := cell_of h0 0
  simp at y0
  have HB0 := toHid b0
  have H0 := toHid h0
  have HZ0 := toHid z0
  have HR := toHid hr
  have HAB := toHid habs
  clear b0 h0 z0 h hr habs
  go_enter Tryz.func10, Tryz.ntmps10
  go_wp2_with fail
  refine HCL.out.mono ?_
  rintro e w1 ⟨⟨v0, rfl, hown⟩, k1⟩
  obtain ⟨va, vc, rfl⟩ := row_slice hown
  have hb1 := (k1.block _ (blkF_lt H0.out)).trans H0.out
  have r0 := cell_of hb1 0
  have f0 := free_of hb1 0
  simp at r0
  have hl1 : w.heap.size < w1.heap.size := blkF_lt hb1
  have hbx2 := set_oneB hb1 (.slice va D.length vc)
  have hk2 : Below w.heap.size w (w1.setCell ⟨w.heap.size, 0, none⟩ (.slice va D.length vc)) := ((HB0.out.trans (k1.mono HB0.out.size))).setCell (p := ⟨w.heap.size, 0, none⟩) (Nat.le_refl _) (.slice va D.length vc)
  have hown2 : (w1.setCell ⟨w.heap.size, 0, none⟩ (.slice va D.length vc)).ownsRow (w.heap.size + 1) 32 2 (.slice va D.length vc) D.length (ctRow D) := by
    rw [HZ0.out] at hown
    exact rowK1 hown fun g hg => Below.heap_setCell _ _ _ g (by show g ≠ w.heap.size; have := (rowLt hown hg).1; omega)
  have hs2 : (w1.setCell ⟨w.heap.size, 0, none⟩ (.slice va D.length vc)).heap.size = w1.heap.size := by simp
  obtain ⟨W2, hW2⟩ : ∃ z, z = w1.setCell ⟨w.heap.size, 0, none⟩ (.slice va D.length vc) := ⟨_, rfl⟩
  rw [← hW2] at hbx2 hk2 hown2 hs2
  have HSO := toHid (sort_own D (w.heap.size + 1) w.heap.size (.slice va D.length vc) W2 (by rw [hs2]; omega) (by omega) hn hown2 hbx2 fun x hx => ⟨LieA.kept hk2.size (fun i hi _ => ⟨by omega, hk2.block i hi⟩) _ _ _ (LieA.kept (A := fun _ => True) (A' := fun i => i < w.heap.size) (Nat.le_refl _) (fun i _ hi => ⟨hi, rfl⟩) _ _ _ (LiesS.lie _ _ _ (HR.out x hx).1)), (HR.out x hx).2⟩)
  have HBX2 := toHid hbx2
  have HK2 := toHid hk2
  have x0 := cell_of hbx2 0
  simp at x0
  have hl2 := blkF_lt hbx2
  have hXs : w1.setCell ⟨w.heap.size, 0, none⟩ (.slice va D.length vc) = W2 := hW2.symm
  clear hown hown2 hbx2 hk2 hs2 hW2 k1 hb1 y0
  go_wp2_with fail
  refine HSO.out.mono ?_
  rintro e w3 ⟨rfl, ⟨E, hp, hs, hrow⟩, k3⟩
  have HBX3 := toHid ((k3.block _ (by omega)).trans HBX2.out)
  have HK3 := toHid (HK2.out.trans (k3.mono (by omega)))
  have HP := toHid hp
  have HS := toHid hs
  obtain ⟨n, hnn⟩ : ∃ n, n = E.length := ⟨_, rfl⟩
  have hnD : D.length = n := by rw [hnn]; exact hp.length_eq.symm
  rw [hnD] at hrow HBX3
  have HAT := toHid (ctsOwn (R := E) (by rw [← hnn]; exact hrow) (by omega))
  have HNN := toHid hnn
  have hn6 : n ≤ 1000000 := by omega
  have HAE : Hid (absS E ≤ 2305843009213693952) := by
    have : absS E = absS D := absS_perm hp
    show _ ≤ _
    rw [this]
    exact HAB.out
  have HRE : Hid (∀ x ∈ E, LiesS w3 x.L x.a x.l ∧ wtL x.L ≤ 1099511627776) := fun x hx => ⟨LiesS.below HK3.out _ _ _ (HR.out x (HP.out.mem_iff.1 hx)).1, (HR.out x (HP.out.mem_iff.1 hx)).2⟩
  have HO0 : Hid (w3.ownsRow w3.heap.size 32 2 (.slice none 0 0) (nzC (tgCs (E.take 0))).length (ctRow (nzC (tgCs (E.take 0))))) := World.ownsRow_nil _ _ _ _
  have x3 := cell_of HBX3.out 0
  simp at x3
  have hl3 := blkF_lt HBX3.out
  clear hp hs hrow k3 x0 hl2 hXs hl1 r0 f0 hnn hnD HSO HBX2 HK2 HCL HB0 H0 HZ0
  obtain ⟨i0, hi0, hz0, hsz0, hby0⟩ := ct_info
  go_wp2_with fail
  go_loopg [3, 4] n (fun q s3 s4 wr => ∃ (i : Nat) (v2 : Value), i ≤ n ∧ n - i ≤ q ∧ s4 = .int .i64 i ∧ v2 = s3 ∧ Bnd E i ∧ wr.ownsRow w3.heap.size 32 2 v2 (nzC (tgCs (E.take i))).length (ctRow (nzC (tgCs (E.take i)))) ∧ Below w3.heap.size w3 wr)
  case atStart => exact ⟨0, _, Nat.zero_le _, by omega, rfl, rfl, fun x y h => absurd h (Nat.lt_irrefl _), HO0.out, Below.refl _ _⟩
  case round =>
    clear HO0 x3 hl3
    obtain ⟨i, v2, hi, hq, rfl, rfl, hbnd, ho, hk⟩ := hrel
    have HBND := toHid hbnd
    have HO := toHid ho
    have HK := toHid hk
    have hbx := (hk.block _ (blkF_lt HBX3.out)).trans HBX3.out
    have b0 := cell_of hbx 0
    simp at b0
    have hbl := blkF_lt hbx
    clear hbnd ho
    by_cases hlt : i < n
    · have hil : (i : Int) < n := by omega
      obtain ⟨x, hx, _⟩ := drop_get (L := E) (i := i) (by have := HNN.out; omega)
      obtain ⟨g, off, hva, hg, hc⟩ := HAT.out.2.2 (by omega)
      subst hva
      have c0 := (hk.cell (p := ⟨g, off + i * 2, none⟩) hg).trans (hc i x hx).1
      have HX := toHid hx
      have HG := toHid hg
      have HCC := toHid hc
      have hgl : g < wr.heap.size := Nat.lt_of_lt_of_le hg hk.size
      have HN := toHid (alloc_new wr (cBox x 0))
      have HA : Hid (Below wr.heap.size wr (wr.alloc (cBox x 0))) := (Below.refl _ _).alloc (Nat.le_refl _) _
      have HWO : Hid (w3.heap.size ≤ wr.heap.size) := hk.size
      clear hx hc hk hbx hg
      go_wp2_with fail
      obtain ⟨wo, hwo⟩ : ∃ z, z = wr := ⟨_, rfl⟩
      subst hwo
      obtain ⟨W1, hW1⟩ : ∃ z, z = wo.alloc (cBox x 0) := ⟨_, rfl⟩
      have HW1 := toHid hW1
      rw [← hW1] at HN HA ⊢
      clear hW1 b0 hbl c0 hgl
      go_loopg [4] (n - i) (fun q s4 wq => ∃ (j : Nat) (N : Int), i ≤ j ∧ j ≤ n ∧ n - j ≤ q ∧ s4 = .int .i64 j ∧ wq.heap[wo.heap.size]? = some (cBox x N) ∧ GI E i x j N ∧ Rg wo.heap.size W1 wq)
      case atStart => exact ⟨i, 0, Nat.le_refl _, hi, Nat.le_refl _, rfl, HN.out, ⟨Nat.zero_le _, .inl ⟨rfl, rfl⟩⟩, Rg.refl _ _⟩
      case round =>
        clear HN
        obtain ⟨j, N, hij, hj, hq2, rfl, hcb, hgi, hrg⟩ := hrel
        have HGI := toHid hgi
        have hw1 : W1.heap.size = wo.heap.size + 1 := by rw [HW1.out]; simp
        have hold : ∀ k, k < w3.heap.size → wr.heap[k]? = w3.heap[k]? := fun k hk => (hrg.block k (by have := HWO.out; omega) (by have := HWO.out; omega)).trans ((HA.out.block k (by have := HWO.out; omega)).trans (HK.out.block k hk))
        have kw : Below w3.heap.size w3 wr := ⟨hrg.os.trans (HA.out.os.trans HK.out.os), hrg.tape.trans (HA.out.tape.trans HK.out.tape), hrg.output.trans (HA.out.output.trans HK.out.output), Nat.le_trans (Nat.le_trans HK.out.size HA.out.size) hrg.size, hold⟩
        have hbx := (hold _ (blkF_lt HBX3.out)).trans HBX3.out
        have hbl := blkF_lt hbx
        have hcl := blkF_lt hcb
        have hgl : g < wr.heap.size := Nat.lt_of_lt_of_le HG.out kw.size
        have b0 := cell_of hbx 0
        have q0 := cell_of hcb 0
        simp at b0 q0
        have HBX := toHid hbx
        have HCB := toHid hcb
        have HRG := toHid hrg
        have HKW := toHid kw
        obtain ⟨β, hb1, hb2⟩ : ∃ β : Bool, (β = true → j < n ∧ ∃ y, E[j]? = some y ∧ ordL y.L x.L = 0) ∧ (β = false → j = n ∨ ∃ y, E[j]? = some y ∧ ordL y.L x.L ≠ 0) ∧ (∀ y, j < n → E[j]? = some y → β = decide (ordL y.L x.L = 0)) ∧ (¬ j < n → β = false) := by
          by_cases hjn : j < n
          · obtain ⟨y, hy, _⟩ := drop_get (L := E) (i := j) (by have := HNN.out; omega)
            refine ⟨decide (ordL y.L x.L = 0), fun h => ⟨hjn, y, hy, by simpa using h⟩, fun h => .inr ⟨y, hy, by simpa using h⟩, fun y' _ hy' => ?_, fun h => absurd hjn h⟩
            rw [hy] at hy'
            injection hy' with hy'
            rw [hy']
          · exact ⟨false, fun h => (by cases h), fun _ => .inl (by omega), fun y h => absurd h hjn, fun _ => rfl⟩
        have HB1 := toHid hb1
        have HB2 := toHid hb2
        clear hgi hold kw hbx hcb hrg hb1 hb2
        go_upto_region 7 with fail
        go_cut [36] (fun s36 wz => s36 = .bool β ∧ Below wr.heap.size wr wz)
        case first =>
          by_cases hjn : j < n
          · have hjI : (j : Int) < n := by omega
            obtain ⟨y, hy, _⟩ := drop_get (L := E) (i := j) (by have := HNN.out; omega)
            have e0 := (HKW.out.cell (p := ⟨g, off + j * 2, none⟩) HG.out).trans (HCC.out j y hy).1
            have D0' : Below wr.heap.size wr wr.drew := (Below.refl _ _).drew
            have hxm := HRE.out x (List.mem_of_getElem? HX.out)
            have hym := HRE.out y (List.mem_of_getElem? hy)
            have HC := toHid (compareRows_ref y.L x.L y.a y.l y.c x.a x.l x.c wr.drew (LiesS.below (HKW.out.drew) _ _ _ hym.1) (LiesS.below (HKW.out.drew) _ _ _ hxm.1) hym.2 hxm.2)
            have HBB := toHid (HB2.out.2.1 y hjn hy)
            generalize ordL y.L x.L = z at HC HBB
            clear hxm hym hy
            go_region_held3 (fun W' => W'.cell? ⟨w.heap.size, 0, none⟩ = some (.slice (some ⟨g, off, none⟩) n vc) ∧ W'.cell? ⟨g, off + j * 2, none⟩ = some (.slice y.a y.l y.c) ∧ W'.cell? ⟨wo.heap.size, 0, none⟩ = some (.slice x.a x.l x.c))
              (first
                | exact ⟨b0, e0, q0⟩
                | exact ⟨(k1.cell (p := ⟨w.heap.size, 0, none⟩) hbl).trans b0, (k1.cell (p := ⟨g, off + j * 2, none⟩) hgl).trans e0, (k1.cell (p := ⟨wo.heap.size, 0, none⟩) hcl).trans q0⟩
                | go_keep)
              (first
                | (go_at_call 26; go_fit HC.out; rintro e u1 ⟨rfl, h1⟩; have k1 : Below wr.heap.size wr u1 := D0'.trans h1))
            all_goals
              go_wp2_with fail
              go_meet
              exact ⟨by rw [HBB.out]; congr 1, k1⟩
          · have hjI : ¬ (j : Int) < n := by omega
            have HBB := toHid (HB2.out.2.2 hjn)
            go_quiet (fail)
            go_wp2_with fail
            go_meet
            exact ⟨by rw [HBB.out], drewB _ _⟩
        case rest =>
          obtain ⟨rfl, kz⟩ := hcut
          have hcb := (kz.block _ hcl).trans HCB.out
          have hbx := (kz.block _ hbl).trans HBX.out
          have HRG1 := toHid (HRG.out.trans (Rg.of_below kz))
          have HKW1 := toHid (HKW.out.trans (kz.mono HKW.out.size))
          have HKZ := toHid kz
          clear b0 q0 hbl hcl kz
          have b0 := cell_of hbx 0
          have q0 := cell_of hcb 0
          have q1 := cell_of hcb 1
          have fq1 := free_of hcb 1
          simp at b0 q0 q1
          have hbl := blkF_lt hbx
          have hcl := blkF_lt hcb
          have HCB1 := toHid hcb
          clear hbx hcb
          generalize wc = wd at *
          cases hbb : β with
          | true =>
            obtain ⟨hjn, y, hy, hz⟩ := HB1.out hbb
            have e1 := (HKW1.out.cell (p := ⟨g, off + j * 2 + 1, none⟩) HG.out).trans (HCC.out j y hy).2
            have hjI : (j : Int) < n := by omega
            have hgi2 := HGI.out.step HBND.out HX.out hy hz
            have hab : (N + y.n).natAbs ≤ 2305843009213693952 := by
              have h1 := hgi2.1
              have h2 := absS_tkle E (j + 1)
              have h3 := HAE.out
              omega
            have hwm : IntKind.i64.wrap (N + y.n) = N + y.n := by rw [IntKind.wrap_i64]; omega
            have hwm2 : wrap64 (N + y.n) = N + y.n := by unfold wrap64; omega
            have hgl1 : g < wd.heap.size := Nat.lt_of_lt_of_le HG.out HKW1.out.size
            have HG2 := toHid hgi2
            have HCB2 : Hid ((wd.setCell ⟨wo.heap.size, 1, none⟩ (.int .i64 (N + y.n))).heap[wo.heap.size]? = some (cBox x (N + y.n))) := by
              have := set_here HCB1.out 1 (.int .i64 (N + y.n))
              exact this
            have HRG2 : Hid (Rg wo.heap.size W1 (wd.setCell ⟨wo.heap.size, 1, none⟩ (.int .i64 (N + y.n)))) := by
              have k := (Below.refl wo.heap.size wd).setCell (p := ⟨wo.heap.size, 1, none⟩) (Nat.le_refl _) (.int .i64 (N + y.n))
              refine HRG1.out.trans ⟨k.os, k.tape, k.output, k.size, fun i hi hn => Below.heap_setCell _ _ _ i hn⟩
            clear hgi2 hab hy hz
            go_wp2_with fail
            go_region
            all_goals
              go_wp2_with fail
              go_roundg (n - (j + 1))
              case measure => omega
              case rel => exact ⟨j + 1, N + y.n, by omega, by omega, Nat.le_refl _, by go_num, HCB2.out, HG2.out, ⟨HRG2.out.os, HRG2.out.tape, HRG2.out.output, HRG2.out.size, HRG2.out.block⟩⟩
          | false =>
            obtain ⟨hlt2, htg, z, hzj, hzL⟩ : i < j ∧ tgCs (E.take j) = tgCs (E.take i) ++ [{ x with n := N }] ∧ ∃ z, E[j - 1]? = some z ∧ z.L = x.L := by
              rcases HGI.out.2 with ⟨h1, _⟩ | h
              · exfalso
                rcases HB2.out.1 hbb with h | ⟨y, hy, hne⟩
                · omega
                · rw [h1, HX.out] at hy
                  injection hy with hy
                  subst hy
                  exact hne (ordL_self _)
              · exact ⟨h.1, h.2.1, h.2.2⟩
            have hbnd2 : Bnd E j := fun x' y' h0 hx' hy' => by
              rw [hzj] at hx'
              injection hx' with hx'
              subst hx'
              rcases HB2.out.1 hbb with h | ⟨y, hy, hne⟩
              · have h1 := (List.getElem?_eq_some_iff.1 hy').1
                have h2 := HNN.out
                omega
              · rw [hy] at hy'
                injection hy' with hy'
                subst hy'
                rw [hzL, ordL_neg y.L x.L]
                omega
            have HBN2 := toHid hbnd2
            have hw1 : W1.heap.size = wo.heap.size + 1 := by rw [HW1.out]; simp
            have HOD : Hid (wd.ownsRow w3.heap.size 32 2 v2 (nzC (tgCs (E.take i))).length (ctRow (nzC (tgCs (E.take i))))) := rowK1 HO.out fun k hk => (HRG1.out.block k (by have := (rowLt HO.out hk).2; omega) (by have := (rowLt HO.out hk).2; omega)).trans (HA.out.block k (rowLt HO.out hk).2)
            have hml : (nzC (tgCs (E.take i))).length ≤ 1000000 := by
              have h1 : (tgCs (E.take i)).length ≤ E.length := tgCs_len E i
              have h2 : (nzC (tgCs (E.take i))).length ≤ (tgCs (E.take i)).length := List.length_filter_le _ _
              have h3 := HNN.out
              omega
            by_cases hN : N = 0
            · have hN' : (N != 0) = false := by simp [hN]
              have HNZ : Hid (nzC (tgCs (E.take j)) = nzC (tgCs (E.take i))) := by
                show List.filter _ _ = _
                rw [htg, List.filter_append, List.filter_cons_of_neg (by simp [hN]), List.filter_nil, List.append_nil]
              clear htg hzj hzL hbnd2 hN hw1
              go_wp2_with fail
              go_roundg (n - j)
              case measure => omega
              case rel => exact ⟨j, v2, hj, Nat.le_refl _, rfl, rfl, HBN2.out, by rw [HNZ.out]; exact HOD.out, HKW1.out⟩
            · have hN' : (N != 0) = true := by simp [hN]
              have HNZ : Hid (nzC (tgCs (E.take j)) = nzC (tgCs (E.take i)) ++ [{ x with n := N }]) := by
                show List.filter _ _ = _
                rw [htg, List.filter_append, List.filter_cons_of_pos (by simp [hN]), List.filter_nil]
              generalize nzC (tgCs (E.take i)) = F at HOD hml HNZ
              obtain ⟨m, hm⟩ : ∃ m, m = F.length := ⟨_, rfl⟩
              have HM := toHid hm
              have HB2' : Hid (Below wd.heap.size wd (wd.alloc (cBox x N))) := (Below.refl _ _).alloc (Nat.le_refl _) _
              have HN2 := toHid (alloc_new wd (cBox x N))
              have HOA : Hid ((wd.alloc (cBox x N)).ownsRow w3.heap.size 32 2 v2 m (ctRow F)) := hm ▸ rowK1 HOD.out fun k hk => HB2'.out.block k (rowLt HOD.out hk).2
              rw [← hm] at hml
              clear htg hzj hzL hbnd2 hN hm hw1
              go_wp2_with (at_builtin; (refine wpList_append_both _ (by rfl) _ _ _ (by rfl) w3.heap.size 32 i0 _ 2 32 Tryz.underlying24 hi0 hz0 hsz0 hby0 rfl (by omega) v2 m (ctRow F) (by rfl) HOA.out (some ⟨wd.heap.size, 0, none⟩) 1 1 [.slice x.a x.l x.c, .int .i64 N] (by rfl) (by rfl) (fun j u hu => ⟨_, rfl, World.news_of_block (cs := #[.slice x.a x.l x.c, .int .i64 N]) (t := 32) (fr := (0, 0)) HN2.out j u hu⟩) (by simp [Value.oneCell']) (by unfold maxLen; omega) (by omega) (Nat.le_trans HKW1.out.size HB2'.out.size) ?_; intro v' w5 hown5 hgrow hob))
              have HKF : Hid (Below w3.heap.size w3 w5) := (HKW1.out.trans (HB2'.out.mono HKW1.out.size)).grown hgrow (Nat.le_trans HKW1.out.size HB2'.out.size) (fun k hk => (rowLt HOA.out hk).1)
              have HOW : Hid (w5.ownsRow w3.heap.size 32 2 v' (nzC (tgCs (E.take j))).length (ctRow (nzC (tgCs (E.take j))))) := by
                rw [HNZ.out, ctRow_snoc, List.length_append, List.length_singleton, ← HM.out]
                exact hown5
              clear hown5 hgrow hob
              go_wp2_with fail
              go_roundg (n - j)
              case measure => omega
              case rel => exact ⟨j, v', hj, Nat.le_refl _, rfl, rfl, HBN2.out, HOW.out, HKF.out⟩
    · have he : i = n := by omega
      subst he
      have hil : ¬ ((i : Int) < i) := by omega
      have HFIN : Hid (wr.ownsRow w.heap.size 32 2 v2 (nzC (tgCs E)).length (ctRow (nzC (tgCs E)))) := by
        have h1 := HO.out
        rw [List.take_of_length_le (by have := HNN.out; omega)] at h1
        exact ⟨h1.1, h1.2.elim .inl fun ⟨g, cap, cur, e1, e2, e3⟩ => .inr ⟨g, cap, cur, e1, Nat.le_trans HK3.out.size e2, e3⟩⟩
      have HKF := toHid (HK3.out.trans (HK.out.mono HK3.out.size))
      clear hk hbx
      go_wp2_with fail
      go_ret
      exact ⟨⟨v2, rfl, E, HP.out, HS.out, HFIN.out⟩, HKF.out⟩

set_option linter.unusedSimpArgs false

/-- What is told of rows, each so often. -/
def cntX : Option (List T) → List Cn → Int
  | _, [] => 0
  | p, c :: r => if rowTE c.1 ≠ 0 then rowTE c.1 else if (c.2 == 0 || (match p with | none => false | some q => decide (0 ≤ ordL q c.1))) = true then 6 else if 1099511627776 < c.2 ∨ c.2 < -1099511627776 then 9 else cntX (some c.1) r

/-- What is told of a bag. -/
def bagX (X : List Cn) : Int := if 2000 < X.length then 2 else cntX none X

theorem cntE_is : ∀ (O : List (Ct × Int)) (p : Option Ct), (∀ x e, (x, e) ∈ O → RowTold x.L e) → cntE p O = cntX (p.map Ct.L) (O.map fun y => y.1.cn)
  | [], _, _ => rfl
  | (x, e) :: O, p, h => by
    have he : e = rowTE x.L := (h x e (List.mem_cons_self ..)).is
    have ih := cntE_is O (some x) fun y f hy => h y f (List.mem_cons_of_mem _ hy)
    show (if e ≠ 0 then e else if badC p x = true then 6 else if 1099511627776 < x.n ∨ x.n < -1099511627776 then 9 else cntE (some x) O) = _
    rw [ih, he]
    cases p <;> rfl

theorem bagE_is {O : List (Ct × Int)} (h : ∀ x e, (x, e) ∈ O → RowTold x.L e) : bagE O = bagX (O.map fun y => y.1.cn) := by
  unfold bagE bagX
  rw [List.length_map, cntE_is O none h]
  rfl

/-- What tally answers, errors too. -/
theorem tal_endX {B B1 : Nat} {w' : World} (hB : B ≤ w'.heap.size) (hT : Tabs B w') {Ls : List Cn} {e : Ending} (h : TalEnd B1 w' Ls e) :
    ∃ X, IsBag X ∧ (∀ r, cnt X r = cnt Ls r) ∧ ((bagX X = 0 ∧ ∃ a l c, e = .returned (.tuple #[.slice a l c, .int .i64 0]) ∧ RB w' X a l) ∨ (bagX X ≠ 0 ∧ e = .returned (.tuple #[.slice none 0 0, .int .i64 (bagX X)]))) := by
  obtain ⟨X, x1, x2, x3⟩ := tal_end hB hT h
  obtain ⟨O, h1, h2, h3, h4⟩ := h
  have hX : X = O.map fun y => y.1.cn := bag_ext _ _ x1 h1 fun r => by rw [x2, h2]
  have hE := bagE_is fun x e hx => (h3 x e hx).1
  have hi := fit_iff fun x e hx => (h3 x e hx).1
  rw [← hX] at hE hi
  refine ⟨X, x1, x2, ?_⟩
  rcases x3 with ⟨hf, x3⟩ | ⟨hn, z, hz, rfl⟩
  · exact .inl ⟨by rw [← hE]; exact hi.2 hf, x3⟩
  · refine .inr ⟨fun h0 => hn (hi.1 (hE.trans h0)), ?_⟩
    rcases h4 with ⟨_, h4⟩ | ⟨h0, _⟩
    · rw [h4, hE]
    · exact absurd (hi.1 h0) hn

/-- What is handed back is the bag of these, or its error. -/
def Told (w' : World) (f : List T → Int) (sa : Option Addr) (sl : Nat) (ze : Int) : Prop := ∃ Z, IsBag Z ∧ (∀ r, cnt Z r = f r) ∧ ((bagX Z = 0 ∧ ze = 0 ∧ RB w' Z sa sl) ∨ (bagX Z ≠ 0 ∧ ze = bagX Z ∧ sl = 0))

theorem Told.below {w w' : World} (k : Below w.heap.size w w') {f : List T → Int} {sa : Option Addr} {sl : Nat} {ze : Int} (h : Told w f sa sl ze) : Told w' f sa sl ze := by
  obtain ⟨Z, z1, z2, z3⟩ := h
  exact ⟨Z, z1, z2, z3.imp (fun g => ⟨g.1, g.2.1, g.2.2.below k⟩) id⟩

theorem tal_told {B B1 : Nat} {w' : World} (hB : B ≤ w'.heap.size) (hT : Tabs B w') {Ls : List Cn} {e : Ending} (h : TalEnd B1 w' Ls e) : ∃ sa sl sc ze, e = .returned (.tuple #[.slice sa sl sc, .int .i64 ze]) ∧ Told w' (cnt Ls) sa sl ze := by
  obtain ⟨Z, z1, z2, z3⟩ := tal_endX hB hT h
  rcases z3 with ⟨h0, a1, l1, c1, rfl, hr⟩ | ⟨h0, rfl⟩
  · exact ⟨a1, l1, c1, 0, rfl, Z, z1, z2, .inl ⟨h0, rfl, hr⟩⟩
  · exact ⟨none, 0, 0, _, rfl, Z, z1, z2, .inr ⟨h0, rfl, rfl⟩⟩

set_option linter.unusedSimpArgs false

/-- Each row's weight, as often as the row stands there, added up. -/
def wsum (f : List T → Int) : List Cn → Int
  | [] => 0
  | c :: X => c.2 * f c.1 + wsum f X

theorem wsum_append (f : List T → Int) (A B : List Cn) : wsum f (A ++ B) = wsum f A + wsum f B := by
  induction A with
  | nil => simp [wsum]
  | cons c A ih =>
    show _ + wsum f (A ++ B) = _ + wsum f A + _
    rw [ih]
    omega

/-- Those of one row, and the others. -/
theorem wsum_part (f : List T → Int) (r : List T) (X : List Cn) : wsum f X = cnt X r * f r + wsum f (X.filter fun c => !(ordL c.1 r == 0)) := by
  induction X with
  | nil => simp [wsum, cnt]
  | cons c X ih =>
    show c.2 * f c.1 + wsum f X = ((if ordL c.1 r = 0 then c.2 else 0) + cnt X r) * f r + _
    rw [ih]
    by_cases h : ordL c.1 r = 0
    · have e := ordL_eq _ _ h
      rw [List.filter_cons_of_neg (by simp [h]), if_pos h, Int.add_mul, e]
      omega
    · rw [List.filter_cons_of_pos (by simp [h]), if_neg h, Int.zero_add]
      show _ = _ + (_ + _)
      omega

theorem cnt_filterR (r s : List T) (X : List Cn) : cnt (X.filter fun c => !(ordL c.1 r == 0)) s = if ordL r s = 0 then 0 else cnt X s := by
  induction X with
  | nil => split <;> rfl
  | cons c X ih =>
    by_cases h : ordL c.1 r = 0
    · have e := ordL_eq _ _ h
      rw [List.filter_cons_of_neg (by simp [h]), ih]
      show _ = if _ then _ else (if ordL c.1 s = 0 then c.2 else 0) + cnt X s
      rw [e]
      by_cases hs : ordL r s = 0
      · rw [if_pos hs, if_pos hs]
      · rw [if_neg hs, if_neg hs, if_neg hs, Int.zero_add]
    · rw [List.filter_cons_of_pos (by simp [h])]
      show (if ordL c.1 s = 0 then c.2 else 0) + cnt _ s = if _ then _ else (if ordL c.1 s = 0 then c.2 else 0) + cnt X s
      rw [ih]
      by_cases hs : ordL r s = 0
      · rw [if_pos hs, if_pos hs, if_neg]
        · rfl
        · rw [← ordL_eq _ _ hs]
          exact h
      · rw [if_neg hs, if_neg hs]

theorem wsum_zero (f : List T → Int) : ∀ (n : Nat) (X : List Cn), X.length ≤ n → (∀ r, cnt X r = 0) → wsum f X = 0
  | _, [], _, _ => rfl
  | 0, c :: X, h, _ => by simp at h
  | n + 1, c :: X, h, hz => by
    rw [wsum_part f c.1, hz, wsum_zero f n _ _ fun s => ?_]
    · simp
    · rw [List.filter_cons_of_neg (by simp [ordL_self])]
      refine Nat.le_trans (List.length_filter_le _ _) ?_
      simpa using h
    · rw [cnt_filterR, hz]
      split <;> rfl

def negX (X : List Cn) : List Cn := X.map fun c => (c.1, -c.2)

theorem cnt_neg (X : List Cn) (r : List T) : cnt (negX X) r = -cnt X r := by
  induction X with
  | nil => rfl
  | cons c X ih =>
    show (if ordL c.1 r = 0 then -c.2 else 0) + cnt (negX X) r = -((if ordL c.1 r = 0 then c.2 else 0) + cnt X r)
    rw [ih]
    split <;> omega

theorem wsum_neg (f : List T → Int) (X : List Cn) : wsum f (negX X) = -wsum f X := by
  induction X with
  | nil => rfl
  | cons c X ih =>
    show -c.2 * f c.1 + wsum f (negX X) = -(c.2 * f c.1 + wsum f X)
    rw [ih, Int.neg_mul]
    omega

/-- What is so often is so heavy. -/
theorem wsum_ext (f : List T → Int) {A B : List Cn} (h : ∀ r, cnt A r = cnt B r) : wsum f A = wsum f B := by
  have := wsum_zero f _ (A ++ negX B) (Nat.le_refl _) fun r => by rw [cnt_append, cnt_neg, h]; omega
  rw [wsum_append, wsum_neg] at this
  omega

/-- How often a row stands in what is picked. -/
theorem cnt_map (g : List T → List T) (X : List Cn) (r : List T) : cnt (X.map fun c => (g c.1, c.2)) r = wsum (fun L => if ordL (g L) r = 0 then 1 else 0) X := by
  induction X with
  | nil => rfl
  | cons c X ih =>
    show (if ordL (g c.1) r = 0 then c.2 else 0) + cnt _ r = c.2 * (if ordL (g c.1) r = 0 then 1 else 0) + _
    rw [ih]
    split <;> omega

/-- What one row's meetings come to. -/
theorem cnt_join (k : Nat) (Y : List Cn) (X : List Cn) (r : List T) : cnt (joinX k X Y) r = wsum (fun L => if (L.take k).any nullT = true then 0 else cnt ((Y.filter fun y => ordL (L.take k) (y.1.take k) == 0).map fun y => (L ++ y.1.drop k, y.2)) r) X := by
  induction X with
  | nil => rfl
  | cons c X ih =>
    have e : joinX k (c :: X) Y = ((if (c.1.take k).any nullT = true then [] else (Y.filter fun y => ordL (c.1.take k) (y.1.take k) == 0).map fun y => (c, y)).map fun p : Cn × Cn => (p.1.1 ++ p.2.1.drop k, p.1.2 * p.2.2)) ++ joinX k X Y := by
      unfold joinX meetX
      rw [List.flatMap_cons, List.map_append]
    rw [e, cnt_append, ih]
    show _ = c.2 * (if (c.1.take k).any nullT = true then 0 else cnt ((Y.filter fun y => ordL (c.1.take k) (y.1.take k) == 0).map fun y => (c.1 ++ y.1.drop k, y.2)) r) + _
    congr 1
    by_cases hn : (c.1.take k).any nullT = true
    · rw [if_pos hn, if_pos hn, Int.mul_zero]
      rfl
    · rw [if_neg hn, if_neg hn, List.map_map]
      generalize (Y.filter fun y => ordL (c.1.take k) (y.1.take k) == 0) = Q
      induction Q with
      | nil => show (0 : Int) = c.2 * 0; omega
      | cons q Q ihq =>
        rw [List.map_cons, List.map_cons]
        show (if ordL (c.1 ++ q.1.drop k) r = 0 then c.2 * q.2 else 0) + cnt (List.map _ Q) r = c.2 * ((if ordL (c.1 ++ q.1.drop k) r = 0 then q.2 else 0) + cnt (List.map _ Q) r)
        rw [ihq, Int.mul_add]
        split
        · rfl
        · rw [Int.mul_zero]

theorem pick_sum (g : List T → List T) {X A B : List Cn} (h : ∀ r, cnt X r = cnt A r + cnt B r) (r : List T) : cnt (X.map fun c => (g c.1, c.2)) r = cnt (A.map fun c => (g c.1, c.2)) r + cnt (B.map fun c => (g c.1, c.2)) r := by
  rw [cnt_map, cnt_map, cnt_map, ← wsum_append]
  exact wsum_ext _ fun s => by rw [cnt_append]; exact h s

theorem join_sum (k : Nat) (Y : List Cn) {X A B : List Cn} (h : ∀ r, cnt X r = cnt A r + cnt B r) (r : List T) : cnt (joinX k X Y) r = cnt (joinX k A Y) r + cnt (joinX k B Y) r := by
  rw [cnt_join, cnt_join, cnt_join, ← wsum_append]
  exact wsum_ext _ fun s => by rw [cnt_append]; exact h s

/-- Joined with the empty row, once, it is as it was. -/
theorem join_empty (X : List Cn) : joinX 0 X [([], 1)] = X := by
  induction X with
  | nil => rfl
  | cons c X ih =>
    have e : joinX 0 (c :: X) [([], 1)] = (c.1 ++ [], c.2 * 1) :: joinX 0 X [([], 1)] := by
      unfold joinX meetX
      rw [List.flatMap_cons, List.map_append]
      rfl
    rw [e, ih, List.append_nil, Int.mul_one]

set_option linter.unusedSimpArgs false

def numT (n : Int) : T := .node 2 n ⟨#[]⟩ []

theorem ord_12 : ordL [numT 1] [numT 2] = -1 := by
  unfold numT ordL ordT cmpP cmpI
  decide

theorem ord_21 : ordL [numT 2] [numT 1] = 1 := by
  rw [ordL_neg [numT 1], ord_12]
  rfl

theorem right_num (n : Int) (h0 : -9223372036854775808 ≤ n) (h1 : n ≤ 9223372036854775807) : RightR [numT n] := by
  refine ⟨by simp, fun t ht => ?_, ?_⟩
  · rw [List.mem_singleton] at ht
    subst ht
    exact .int 6 n h0 h1
  · unfold InL
    refine ⟨?_, by unfold InL; trivial⟩
    unfold numT InT
    exact ⟨⟨h0, h1⟩, by unfold InL; trivial⟩

abbrev bagN (n : Int) : List Cn := [([numT 1], 1), ([numT 2], n)]

theorem fit_bag (n : Int) (h0 : 0 < n) (h1 : n ≤ 10) : Fit (bagN n) := by
  refine ⟨by simp, ⟨?_, fun c hc => ?_⟩, fun c hc => ?_, fun c hc => ?_⟩
  · rw [List.pairwise_cons]
    refine ⟨fun c hc => ?_, List.pairwise_singleton _ _⟩
    rw [List.mem_singleton] at hc
    subst hc
    show ordL [numT 1] [numT 2] < 0
    rw [ord_12]
    decide
  · simp only [List.mem_cons, List.not_mem_nil, or_false] at hc
    rcases hc with rfl | rfl
    · show (1 : Int) ≠ 0; omega
    · show n ≠ 0; omega
  · simp only [List.mem_cons, List.not_mem_nil, or_false] at hc
    rcases hc with rfl | rfl
    · exact right_num 1 (by decide) (by decide)
    · exact right_num 2 (by decide) (by decide)
  · simp only [List.mem_cons, List.not_mem_nil, or_false] at hc
    rcases hc with rfl | rfl
    · exact ⟨by decide, by decide⟩
    · exact ⟨by show _ ≤ n; omega, by show n ≤ _; omega⟩

theorem cnt_of (r : List T) : cnt (bagN 2) r = cnt [([numT 2], 1), ([numT 1], 1), ([numT 2], 1)] r := by
  simp only [cnt]
  split <;> split <;> rfl

theorem join_bag : joinX 1 (bagN 2) (bagN 2) = bagN 4 := by
  have h11 : ordL [numT 1] [numT 1] = 0 := ordL_self _
  have h22 : ordL [numT 2] [numT 2] = 0 := ordL_self _
  have n1 : nullT (numT 1) = false := rfl
  have n2 : nullT (numT 2) = false := rfl
  simp [joinX, meetX, bagN, h11, h22, ord_12, ord_21, n1, n2]

theorem joins_bag : JoinsOk 1 (bagN 2) (bagN 2) := by
  have hl : ∀ c ∈ bagN 2, 1 ≤ c.1.length := fun c hc => by
    simp only [List.mem_cons, List.not_mem_nil, or_false] at hc
    rcases hc with rfl | rfl
    · exact Nat.le_refl _
    · exact Nat.le_refl _
  have h11 : ordL [numT 1] [numT 1] = 0 := ordL_self _
  have h22 : ordL [numT 2] [numT 2] = 0 := ordL_self _
  have n1 : nullT (numT 1) = false := rfl
  have n2 : nullT (numT 2) = false := rfl
  refine ⟨by decide, hl, hl, by decide, fun p hp => ?_, bagN 4, fit_bag 4 (by decide) (by decide), fun r => by rw [join_bag]⟩
  simp [meetX, bagN, h11, h22, ord_12, ord_21, n1, n2] at hp
  rcases hp with rfl | rfl
  · decide
  · decide

/-- The bag of one empty row. -/
theorem fit_empty : Fit [([], 1)] := by
  refine ⟨by simp, ⟨List.pairwise_singleton _ _, fun c hc => ?_⟩, fun c hc => ?_, fun c hc => ?_⟩
  · rw [List.mem_singleton] at hc
    subst hc
    decide
  · rw [List.mem_singleton] at hc
    subst hc
    exact ⟨by simp, fun t ht => (by cases ht), by unfold InL; trivial⟩
  · rw [List.mem_singleton] at hc
    subst hc
    exact ⟨by decide, by decide⟩

theorem joins_empty {X : List Cn} (h : Fit X) : JoinsOk 0 X [([], 1)] := by
  refine ⟨by decide, fun c _ => Nat.zero_le _, fun c _ => Nat.zero_le _, ?_, fun p hp => ?_, X, h, fun r => by rw [join_empty]⟩
  · have := h.len
    simp
    omega
  · unfold meetX at hp
    obtain ⟨x, hx, hp⟩ := List.mem_flatMap.1 hp
    have h1 := h.small x hx
    split at hp
    · cases hp
    · obtain ⟨y, hy, rfl⟩ := List.mem_map.1 hp
      have hy := (List.mem_filter.1 hy).1
      rw [List.mem_singleton] at hy
      subst hy
      show (x.2 * 1).natAbs ≤ _
      rw [Int.mul_one]
      omega
end Go.Proofs.YtbjkpbeijkmoeaaGreatDoor
