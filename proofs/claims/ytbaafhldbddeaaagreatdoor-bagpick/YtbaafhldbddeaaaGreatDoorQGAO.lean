/-
  What is proved here: what the texts FRef, BTalOf, BOf, BSameB, BIdxJ prove, in one text.
-/
import Derived.Test.YtbaafhldbddeaaaGreatDoorQGAM
import Derived.Test.YtbaafhldbddeaaaGreatDoorQGAN
namespace Go.Proofs.YtbaafhldbddeaaaGreatDoor
open Go.RowKit
set_option linter.unusedVariables false

set_option linter.unusedSimpArgs false

theorem row_slice {w : World} {B n : Nat} {v : Value} {xs : List Value} (h : w.ownsRow B 32 2 v n xs) : ∃ a c, v = .slice a n c := by
  rcases h.2 with ⟨h0, h1⟩ | ⟨g', cap', cur, h0, _⟩
  · exact ⟨none, 0, by rw [h0, h1]⟩
  · exact ⟨_, _, h0⟩

/-- The count that is being reckoned. -/
abbrev cBox (x : Ct) (N : Int) : Obj := .cells #[.slice x.a x.l x.c, .int .i64 N] 32

set_option maxHeartbeats 16000000 in
set_option maxRecDepth 100000 in
theorem bagOf_ref (D : List Ct) (a : Option Addr) (l c : Nat) (w : World) (h : CtsAt w D a l) (hr : ∀ x ∈ D, LiesS w x.L x.a x.l ∧ wtL x.L ≤ 1099511627776) (habs : absS D ≤ 2305843009213693952) :
    Calls Tryz.prog 10 #[.slice a l c] w fun e w' => (∃ v E, e = .returned v ∧ E.Perm D ∧ (E.Pairwise fun x y => ordL x.L y.L ≤ 0) ∧ w'.ownsRow w.heap.size 32 2 v (nzC (tgCs E)).length (ctRow (nzC (tgCs E)))) ∧ Below w.heap.size w w' := by
  have hn : D.length ≤ 1000000 := by rw [← h.1]; exact h.2.1
  have b0 : Below w.heap.size w (w.alloc (.cells #[.slice a l c] 23)) := (Below.refl _ _).alloc (Nat.le_refl _) _
  have h0 := alloc_new w (.cells #[.slice a l c] 23)
  have z0 : (w.alloc (.cells #[.slice a l c] 23)).heap.size = w.heap.size + 1 := by simp
  have HCL := toHid (cloneC_any D a l c _ (h.below b0))
  have y0 := cell_of h0 0
  simp at y0
  have HB0 := toHid b0
  have H0 := toHid h0
  have HZ0 := toHid z0
  have HR := toHid hr
  have HAB := toHid habs
  clear b0 h0 z0 h hr habs
  go_enter Tryz.func10, Tryz.ntmps10
  go_wp2_with fail
  refine HCL.out.mono ?_
  rintro e w1 ⟨⟨v0, rfl, hown⟩, k1⟩
  obtain ⟨va, vc, rfl⟩ := row_slice hown
  have hb1 := (k1.block _ (blkF_lt H0.out)).trans H0.out
  have r0 := cell_of hb1 0
  have f0 := free_of hb1 0
  simp at r0
  have hl1 : w.heap.size < w1.heap.size := blkF_lt hb1
  have hbx2 := set_oneB hb1 (.slice va D.length vc)
  have hk2 : Below w.heap.size w (w1.setCell ⟨w.heap.size, 0, none⟩ (.slice va D.length vc)) := ((HB0.out.trans (k1.mono HB0.out.size))).setCell (p := ⟨w.heap.size, 0, none⟩) (Nat.le_refl _) (.slice va D.length vc)
  have hown2 : (w1.setCell ⟨w.heap.size, 0, none⟩ (.slice va D.length vc)).ownsRow (w.heap.size + 1) 32 2 (.slice va D.length vc) D.length (ctRow D) := by
    rw [HZ0.out] at hown
    exact rowK1 hown fun g hg => Below.heap_setCell _ _ _ g (by show g ≠ w.heap.size; have := (rowLt hown hg).1; omega)
  have hs2 : (w1.setCell ⟨w.heap.size, 0, none⟩ (.slice va D.length vc)).heap.size = w1.heap.size := by simp
  obtain ⟨W2, hW2⟩ : ∃ z, z = w1.setCell ⟨w.heap.size, 0, none⟩ (.slice va D.length vc) := ⟨_, rfl⟩
  rw [← hW2] at hbx2 hk2 hown2 hs2
  have HSO := toHid (sort_own D (w.heap.size + 1) w.heap.size (.slice va D.length vc) W2 (by rw [hs2]; omega) (by omega) hn hown2 hbx2 fun x hx => ⟨LieA.kept hk2.size (fun i hi _ => ⟨by omega, hk2.block i hi⟩) _ _ _ (LieA.kept (A := fun _ => True) (A' := fun i => i < w.heap.size) (Nat.le_refl _) (fun i _ hi => ⟨hi, rfl⟩) _ _ _ (LiesS.lie _ _ _ (HR.out x hx).1)), (HR.out x hx).2⟩)
  have HBX2 := toHid hbx2
  have HK2 := toHid hk2
  have x0 := cell_of hbx2 0
  simp at x0
  have hl2 := blkF_lt hbx2
  have hXs : w1.setCell ⟨w.heap.size, 0, none⟩ (.slice va D.length vc) = W2 := hW2.symm
  clear hown hown2 hbx2 hk2 hs2 hW2 k1 hb1 y0
  go_wp2_with fail
  refine HSO.out.mono ?_
  rintro e w3 ⟨rfl, ⟨E, hp, hs, hrow⟩, k3⟩
  have HBX3 := toHid ((k3.block _ (by omega)).trans HBX2.out)
  have HK3 := toHid (HK2.out.trans (k3.mono (by omega)))
  have HP := toHid hp
  have HS := toHid hs
  obtain ⟨n, hnn⟩ : ∃ n, n = E.length := ⟨_, rfl⟩
  have hnD : D.length = n := by rw [hnn]; exact hp.length_eq.symm
  rw [hnD] at hrow HBX3
  have HAT := toHid (ctsOwn (R := E) (by rw [← hnn]; exact hrow) (by omega))
  have HNN := toHid hnn
  have hn6 : n ≤ 1000000 := by omega
  have HAE : Hid (absS E ≤ 2305843009213693952) := by
    have : absS E = absS D := absS_perm hp
    show _ ≤ _
    rw [this]
    exact HAB.out
  have HRE : Hid (∀ x ∈ E, LiesS w3 x.L x.a x.l ∧ wtL x.L ≤ 1099511627776) := fun x hx => ⟨LiesS.below HK3.out _ _ _ (HR.out x (HP.out.mem_iff.1 hx)).1, (HR.out x (HP.out.mem_iff.1 hx)).2⟩
  have HO0 : Hid (w3.ownsRow w3.heap.size 32 2 (.slice none 0 0) (nzC (tgCs (E.take 0))).length (ctRow (nzC (tgCs (E.take 0))))) := World.ownsRow_nil _ _ _ _
  have x3 := cell_of HBX3.out 0
  simp at x3
  have hl3 := blkF_lt HBX3.out
  clear hp hs hrow k3 x0 hl2 hXs hl1 r0 f0 hnn hnD HSO HBX2 HK2 HCL HB0 H0 HZ0
  obtain ⟨i0, hi0, hz0, hsz0, hby0⟩ := ct_info
  go_wp2_with fail
  go_loopg [3, 4] n (fun q s3 s4 wr => ∃ (i : Nat) (v2 : Value), i ≤ n ∧ n - i ≤ q ∧ s4 = .int .i64 i ∧ v2 = s3 ∧ Bnd E i ∧ wr.ownsRow w3.heap.size 32 2 v2 (nzC (tgCs (E.take i))).length (ctRow (nzC (tgCs (E.take i)))) ∧ Below w3.heap.size w3 wr)
  case atStart => exact ⟨0, _, Nat.zero_le _, by omega, rfl, rfl, fun x y h => absurd h (Nat.lt_irrefl _), HO0.out, Below.refl _ _⟩
  case round =>
    clear HO0 x3 hl3
    obtain ⟨i, v2, hi, hq, rfl, rfl, hbnd, ho, hk⟩ := hrel
    have HBND := toHid hbnd
    have HO := toHid ho
    have HK := toHid hk
    have hbx := (hk.block _ (blkF_lt HBX3.out)).trans HBX3.out
    have b0 := cell_of hbx 0
    simp at b0
    have hbl := blkF_lt hbx
    clear hbnd ho
    by_cases hlt : i < n
    · have hil : (i : Int) < n := by omega
      obtain ⟨x, hx, _⟩ := drop_get (L := E) (i := i) (by have := HNN.out; omega)
      obtain ⟨g, off, hva, hg, hc⟩ := HAT.out.2.2 (by omega)
      subst hva
      have c0 := (hk.cell (p := ⟨g, off + i * 2, none⟩) hg).trans (hc i x hx).1
      have HX := toHid hx
      have HG := toHid hg
      have HCC := toHid hc
      have hgl : g < wr.heap.size := Nat.lt_of_lt_of_le hg hk.size
      have HN := toHid (alloc_new wr (cBox x 0))
      have HA : Hid (Below wr.heap.size wr (wr.alloc (cBox x 0))) := (Below.refl _ _).alloc (Nat.le_refl _) _
      have HWO : Hid (w3.heap.size ≤ wr.heap.size) := hk.size
      clear hx hc hk hbx hg
      go_wp2_with fail
      obtain ⟨wo, hwo⟩ : ∃ z, z = wr := ⟨_, rfl⟩
      subst hwo
      obtain ⟨W1, hW1⟩ : ∃ z, z = wo.alloc (cBox x 0) := ⟨_, rfl⟩
      have HW1 := toHid hW1
      rw [← hW1] at HN HA ⊢
      clear hW1 b0 hbl c0 hgl
      go_loopg [4] (n - i) (fun q s4 wq => ∃ (j : Nat) (N : Int), i ≤ j ∧ j ≤ n ∧ n - j ≤ q ∧ s4 = .int .i64 j ∧ wq.heap[wo.heap.size]? = some (cBox x N) ∧ GI E i x j N ∧ Rg wo.heap.size W1 wq)
      case atStart => exact ⟨i, 0, Nat.le_refl _, hi, Nat.le_refl _, rfl, HN.out, ⟨Nat.zero_le _, .inl ⟨rfl, rfl⟩⟩, Rg.refl _ _⟩
      case round =>
        clear HN
        obtain ⟨j, N, hij, hj, hq2, rfl, hcb, hgi, hrg⟩ := hrel
        have HGI := toHid hgi
        have hw1 : W1.heap.size = wo.heap.size + 1 := by rw [HW1.out]; simp
        have hold : ∀ k, k < w3.heap.size → wr.heap[k]? = w3.heap[k]? := fun k hk => (hrg.block k (by have := HWO.out; omega) (by have := HWO.out; omega)).trans ((HA.out.block k (by have := HWO.out; omega)).trans (HK.out.block k hk))
        have kw : Below w3.heap.size w3 wr := ⟨hrg.os.trans (HA.out.os.trans HK.out.os), hrg.tape.trans (HA.out.tape.trans HK.out.tape), hrg.output.trans (HA.out.output.trans HK.out.output), Nat.le_trans (Nat.le_trans HK.out.size HA.out.size) hrg.size, hold⟩
        have hbx := (hold _ (blkF_lt HBX3.out)).trans HBX3.out
        have hbl := blkF_lt hbx
        have hcl := blkF_lt hcb
        have hgl : g < wr.heap.size := Nat.lt_of_lt_of_le HG.out kw.size
        have b0 := cell_of hbx 0
        have q0 := cell_of hcb 0
        simp at b0 q0
        have HBX := toHid hbx
        have HCB := toHid hcb
        have HRG := toHid hrg
        have HKW := toHid kw
        obtain ⟨β, hb1, hb2⟩ : ∃ β : Bool, (β = true → j < n ∧ ∃ y, E[j]? = some y ∧ ordL y.L x.L = 0) ∧ (β = false → j = n ∨ ∃ y, E[j]? = some y ∧ ordL y.L x.L ≠ 0) ∧ (∀ y, j < n → E[j]? = some y → β = decide (ordL y.L x.L = 0)) ∧ (¬ j < n → β = false) := by
          by_cases hjn : j < n
          · obtain ⟨y, hy, _⟩ := drop_get (L := E) (i := j) (by have := HNN.out; omega)
            refine ⟨decide (ordL y.L x.L = 0), fun h => ⟨hjn, y, hy, by simpa using h⟩, fun h => .inr ⟨y, hy, by simpa using h⟩, fun y' _ hy' => ?_, fun h => absurd hjn h⟩
            rw [hy] at hy'
            injection hy' with hy'
            rw [hy']
          · exact ⟨false, fun h => (by cases h), fun _ => .inl (by omega), fun y h => absurd h hjn, fun _ => rfl⟩
        have HB1 := toHid hb1
        have HB2 := toHid hb2
        clear hgi hold kw hbx hcb hrg hb1 hb2
        go_upto_region 7 with fail
        go_cut [36] (fun s36 wz => s36 = .bool β ∧ Below wr.heap.size wr wz)
        case first =>
          by_cases hjn : j < n
          · have hjI : (j : Int) < n := by omega
            obtain ⟨y, hy, _⟩ := drop_get (L := E) (i := j) (by have := HNN.out; omega)
            have e0 := (HKW.out.cell (p := ⟨g, off + j * 2, none⟩) HG.out).trans (HCC.out j y hy).1
            have D0' : Below wr.heap.size wr wr.drew := (Below.refl _ _).drew
            have hxm := HRE.out x (List.mem_of_getElem? HX.out)
            have hym := HRE.out y (List.mem_of_getElem? hy)
            have HC := toHid (compareRows_ref y.L x.L y.a y.l y.c x.a x.l x.c wr.drew (LiesS.below (HKW.out.drew) _ _ _ hym.1) (LiesS.below (HKW.out.drew) _ _ _ hxm.1) hym.2 hxm.2)
            have HBB := toHid (HB2.out.2.1 y hjn hy)
            generalize ordL y.L x.L = z at HC HBB
            clear hxm hym hy
            go_region_held3 (fun W' => W'.cell? ⟨w.heap.size, 0, none⟩ = some (.slice (some ⟨g, off, none⟩) n vc) ∧ W'.cell? ⟨g, off + j * 2, none⟩ = some (.slice y.a y.l y.c) ∧ W'.cell? ⟨wo.heap.size, 0, none⟩ = some (.slice x.a x.l x.c))
              (first
                | exact ⟨b0, e0, q0⟩
                | exact ⟨(k1.cell (p := ⟨w.heap.size, 0, none⟩) hbl).trans b0, (k1.cell (p := ⟨g, off + j * 2, none⟩) hgl).trans e0, (k1.cell (p := ⟨wo.heap.size, 0, none⟩) hcl).trans q0⟩
                | go_keep)
              (first
                | (go_at_call 26; go_fit HC.out; rintro e u1 ⟨rfl, h1⟩; have k1 : Below wr.heap.size wr u1 := D0'.trans h1))
            all_goals
              go_wp2_with fail
              go_meet
              exact ⟨by rw [HBB.out]; congr 1, k1⟩
          · have hjI : ¬ (j : Int) < n := by omega
            have HBB := toHid (HB2.out.2.2 hjn)
            go_quiet (fail)
            go_wp2_with fail
            go_meet
            exact ⟨by rw [HBB.out], drewB _ _⟩
        case rest =>
          obtain ⟨rfl, kz⟩ := hcut
          have hcb := (kz.block _ hcl).trans HCB.out
          have hbx := (kz.block _ hbl).trans HBX.out
          have HRG1 := toHid (HRG.out.trans (Rg.of_below kz))
          have HKW1 := toHid (HKW.out.trans (kz.mono HKW.out.size))
          have HKZ := toHid kz
          clear b0 q0 hbl hcl kz
          have b0 := cell_of hbx 0
          have q0 := cell_of hcb 0
          have q1 := cell_of hcb 1
          have fq1 := free_of hcb 1
          simp at b0 q0 q1
          have hbl := blkF_lt hbx
          have hcl := blkF_lt hcb
          have HCB1 := toHid hcb
          clear hbx hcb
          generalize wc = wd at *
          cases hbb : β with
          | true =>
            obtain ⟨hjn, y, hy, hz⟩ := HB1.out hbb
            have e1 := (HKW1.out.cell (p := ⟨g, off + j * 2 + 1, none⟩) HG.out).trans (HCC.out j y hy).2
            have hjI : (j : Int) < n := by omega
            have hgi2 := HGI.out.step HBND.out HX.out hy hz
            have hab : (N + y.n).natAbs ≤ 2305843009213693952 := by
              have h1 := hgi2.1
              have h2 := absS_tkle E (j + 1)
              have h3 := HAE.out
              omega
            have hwm : IntKind.i64.wrap (N + y.n) = N + y.n := by rw [IntKind.wrap_i64]; omega
            have hwm2 : wrap64 (N + y.n) = N + y.n := by unfold wrap64; omega
            have hgl1 : g < wd.heap.size := Nat.lt_of_lt_of_le HG.out HKW1.out.size
            have HG2 := toHid hgi2
            have HCB2 : Hid ((wd.setCell ⟨wo.heap.size, 1, none⟩ (.int .i64 (N + y.n))).heap[wo.heap.size]? = some (cBox x (N + y.n))) := by
              have := set_here HCB1.out 1 (.int .i64 (N + y.n))
              exact this
            have HRG2 : Hid (Rg wo.heap.size W1 (wd.setCell ⟨wo.heap.size, 1, none⟩ (.int .i64 (N + y.n)))) := by
              have k := (Below.refl wo.heap.size wd).setCell (p := ⟨wo.heap.size, 1, none⟩) (Nat.le_refl _) (.int .i64 (N + y.n))
              refine HRG1.out.trans ⟨k.os, k.tape, k.output, k.size, fun i hi hn => Below.heap_setCell _ _ _ i hn⟩
            clear hgi2 hab hy hz
            go_wp2_with fail
            go_region
            all_goals
              go_wp2_with fail
              go_roundg (n - (j + 1))
              case measure => omega
              case rel => exact ⟨j + 1, N + y.n, by omega, by omega, Nat.le_refl _, by go_num, HCB2.out, HG2.out, ⟨HRG2.out.os, HRG2.out.tape, HRG2.out.output, HRG2.out.size, HRG2.out.block⟩⟩
          | false =>
            obtain ⟨hlt2, htg, z, hzj, hzL⟩ : i < j ∧ tgCs (E.take j) = tgCs (E.take i) ++ [{ x with n := N }] ∧ ∃ z, E[j - 1]? = some z ∧ z.L = x.L := by
              rcases HGI.out.2 with ⟨h1, _⟩ | h
              · exfalso
                rcases HB2.out.1 hbb with h | ⟨y, hy, hne⟩
                · omega
                · rw [h1, HX.out] at hy
                  injection hy with hy
                  subst hy
                  exact hne (ordL_self _)
              · exact ⟨h.1, h.2.1, h.2.2⟩
            have hbnd2 : Bnd E j := fun x' y' h0 hx' hy' => by
              rw [hzj] at hx'
              injection hx' with hx'
              subst hx'
              rcases HB2.out.1 hbb with h | ⟨y, hy, hne⟩
              · have h1 := (List.getElem?_eq_some_iff.1 hy').1
                have h2 := HNN.out
                omega
              · rw [hy] at hy'
                injection hy' with hy'
                subst hy'
                rw [hzL, ordL_neg y.L x.L]
                omega
            have HBN2 := toHid hbnd2
            have hw1 : W1.heap.size = wo.heap.size + 1 := by rw [HW1.out]; simp
            have HOD : Hid (wd.ownsRow w3.heap.size 32 2 v2 (nzC (tgCs (E.take i))).length (ctRow (nzC (tgCs (E.take i))))) := rowK1 HO.out fun k hk => (HRG1.out.block k (by have := (rowLt HO.out hk).2; omega) (by have := (rowLt HO.out hk).2; omega)).trans (HA.out.block k (rowLt HO.out hk).2)
            have hml : (nzC (tgCs (E.take i))).length ≤ 1000000 := by
              have h1 : (tgCs (E.take i)).length ≤ E.length := tgCs_len E i
              have h2 : (nzC (tgCs (E.take i))).length ≤ (tgCs (E.take i)).length := List.length_filter_le _ _
              have h3 := HNN.out
              omega
            by_cases hN : N = 0
            · have hN' : (N != 0) = false := by simp [hN]
              have HNZ : Hid (nzC (tgCs (E.take j)) = nzC (tgCs (E.take i))) := by
                show List.filter _ _ = _
                rw [htg, List.filter_append, List.filter_cons_of_neg (by simp [hN]), List.filter_nil, List.append_nil]
              clear htg hzj hzL hbnd2 hN hw1
              go_wp2_with fail
              go_roundg (n - j)
              case measure => omega
              case rel => exact ⟨j, v2, hj, Nat.le_refl _, rfl, rfl, HBN2.out, by rw [HNZ.out]; exact HOD.out, HKW1.out⟩
            · have hN' : (N != 0) = true := by simp [hN]
              have HNZ : Hid (nzC (tgCs (E.take j)) = nzC (tgCs (E.take i)) ++ [{ x with n := N }]) := by
                show List.filter _ _ = _
                rw [htg, List.filter_append, List.filter_cons_of_pos (by simp [hN]), List.filter_nil]
              generalize nzC (tgCs (E.take i)) = F at HOD hml HNZ
              obtain ⟨m, hm⟩ : ∃ m, m = F.length := ⟨_, rfl⟩
              have HM := toHid hm
              have HB2' : Hid (Below wd.heap.size wd (wd.alloc (cBox x N))) := (Below.refl _ _).alloc (Nat.le_refl _) _
              have HN2 := toHid (alloc_new wd (cBox x N))
              have HOA : Hid ((wd.alloc (cBox x N)).ownsRow w3.heap.size 32 2 v2 m (ctRow F)) := hm ▸ rowK1 HOD.out fun k hk => HB2'.out.block k (rowLt HOD.out hk).2
              rw [← hm] at hml
              clear htg hzj hzL hbnd2 hN hm hw1
              go_wp2_with (at_builtin; (refine wpList_append_both _ (by rfl) _ _ _ (by rfl) w3.heap.size 32 i0 _ 2 32 Tryz.underlying24 hi0 hz0 hsz0 hby0 rfl (by omega) v2 m (ctRow F) (by rfl) HOA.out (some ⟨wd.heap.size, 0, none⟩) 1 1 [.slice x.a x.l x.c, .int .i64 N] (by rfl) (by rfl) (fun j u hu => ⟨_, rfl, World.news_of_block (cs := #[.slice x.a x.l x.c, .int .i64 N]) (t := 32) (fr := (0, 0)) HN2.out j u hu⟩) (by simp [Value.oneCell']) (by unfold maxLen; omega) (by omega) (Nat.le_trans HKW1.out.size HB2'.out.size) ?_; intro v' w5 hown5 hgrow hob))
              have HKF : Hid (Below w3.heap.size w3 w5) := (HKW1.out.trans (HB2'.out.mono HKW1.out.size)).grown hgrow (Nat.le_trans HKW1.out.size HB2'.out.size) (fun k hk => (rowLt HOA.out hk).1)
              have HOW : Hid (w5.ownsRow w3.heap.size 32 2 v' (nzC (tgCs (E.take j))).length (ctRow (nzC (tgCs (E.take j))))) := by
                rw [HNZ.out, ctRow_snoc, List.length_append, List.length_singleton, ← HM.out]
                exact hown5
              clear hown5 hgrow hob
              go_wp2_with fail
              go_roundg (n - j)
              case measure => omega
              case rel => exact ⟨j, v', hj, Nat.le_refl _, rfl, rfl, HBN2.out, HOW.out, HKF.out⟩
    · have he : i = n := by omega
      subst he
      have hil : ¬ ((i : Int) < i) := by omega
      have HFIN : Hid (wr.ownsRow w.heap.size 32 2 v2 (nzC (tgCs E)).length (ctRow (nzC (tgCs E)))) := by
        have h1 := HO.out
        rw [List.take_of_length_le (by have := HNN.out; omega)] at h1
        exact ⟨h1.1, h1.2.elim .inl fun ⟨g, cap, cur, e1, e2, e3⟩ => .inr ⟨g, cap, cur, e1, Nat.le_trans HK3.out.size e2, e3⟩⟩
      have HKF := toHid (HK3.out.trans (HK.out.mono HK3.out.size))
      clear hk hbx
      go_wp2_with fail
      go_ret
      exact ⟨⟨v2, rfl, E, HP.out, HS.out, HFIN.out⟩, HKF.out⟩

set_option linter.unusedSimpArgs false

set_option maxHeartbeats 8000000 in
set_option maxRecDepth 100000 in
theorem talOf_any (B : Nat) (cp0 : Value) (Ls : List Cn) (w : World) (hB : B ≤ w.heap.size) (hT : Tabs B w)
    (hv : ∀ (W : World) (bo : Nat), w.heap.size ≤ bo → TInv w.heap.size bo [] W (.slice none 0 0) → Below w.heap.size w W → Calls Tryz.prog 23 #[.func (.func 53) #[] #[.pointer (some ⟨bo, 0, none⟩)], cp0] W fun e w' => e = .returned (.tuple #[]) ∧ ∃ M v', Good Ls M ∧ TInv w.heap.size bo M w' v' ∧ TStep bo (.slice none 0 0) v' W w') :
    Calls Tryz.prog 22 #[.func (.func 23) #[] #[cp0]] w fun e w' => TalEnd w.heap.size w' Ls e ∧ Below w.heap.size w w' := by
  have b0 : Below w.heap.size w (w.alloc (.cells #[.slice none 0 0] 24)) := (Below.refl _ _).alloc (Nat.le_refl _) _
  have h0 := alloc_new w (.cells #[.slice none 0 0] 24)
  have HV := toHid (hv _ w.heap.size (Nat.le_refl _) ⟨h0, World.ownsRow_nil _ _ _ _, by simp [Value.ownBlock], fun x hx => by cases hx⟩ b0)
  have HB0 := toHid b0
  have HTB := toHid hT
  clear hv b0 h0 hT
  go_enter Tryz.func22, Tryz.ntmps22
  go_wp2_with (go_at_call 23; refine HV.out.mono ?_)
  rintro e w1 ⟨rfl, M, v1, hgood, hinv, hst⟩
  have HG := toHid hgood
  have HI := toHid hinv
  have HB1 : Hid (Below w.heap.size w w1) := HB0.out.trans (hst.toBelow (Nat.le_refl _) (fun g hg => by cases hg) (by simp))
  have y0 := cell_of hinv.box 0
  simp at y0
  have hbo := blkB_lt hinv.box
  have HS := toHid (sortC_any w1 w.heap.size v1 M hinv.row (Nat.le_trans hgood.len (by decide)) fun x hx => ⟨LieA.kept (Nat.le_refl _) (fun i hi _ => ⟨hi.2, rfl⟩) _ _ _ (hinv.rows x hx), (hgood.ok x hx).2⟩)
  clear hgood hinv hst HV HB0
  go_wp2_with (go_at_call 54; refine HS.out.mono ?_)
  rintro e w2 ⟨rfl, M2, hperm, hsort, hrow2, hgrow⟩
  have y2 : w2.cell? ⟨w.heap.size, 0, none⟩ = some v1 := (World.cell?_of_block (hgrow.block w.heap.size hbo fun e => HI.out.nbo e.symm)).trans y0
  have hbo2 : w.heap.size < w2.heap.size := Nat.lt_of_lt_of_le hbo hgrow.size
  have HB2 : Hid (Below w.heap.size w w2) := ⟨hgrow.os.trans HB1.out.os, hgrow.tape.trans HB1.out.tape, hgrow.output.trans HB1.out.output, Nat.le_trans HB1.out.size hgrow.size, fun k hk => (hgrow.block k (Nat.lt_of_lt_of_le hk HB1.out.size) fun e => by have := (rowLt HI.out.row e.symm).1; omega).trans (HB1.out.block k hk)⟩
  have HOK : Hid (∀ x ∈ M2, (LiesS w2 x.L x.a x.l ∧ InL x.L) ∧ wtL x.L ≤ 1099511627776) := fun x hx => by
    have hm := hperm.mem_iff.1 hx
    exact ⟨⟨LieA.lies _ _ _ (LieA.kept hgrow.size (A' := fun _ => True) (fun i hi hl => ⟨trivial, hgrow.block i hl fun e => hi.2 e.symm⟩) _ _ _ (HI.out.rows x hm)), (HG.out.ok x hm).1⟩, (HG.out.ok x hm).2⟩
  have hlen2 : M2.length = M.length := hperm.length_eq
  obtain ⟨va, vn, vc, rfl⟩ : ∃ va vn vc, v1 = .slice va vn vc := by
    rcases hrow2.2 with ⟨h0, _⟩ | ⟨g', cap', cur, h0, _⟩
    · exact ⟨_, _, _, h0⟩
    · exact ⟨_, _, _, h0⟩
  have hTG := together_any del_ok M2 va vn vc w2 (ctsOwn (by rw [hlen2]; exact hrow2) (by rw [hlen2]; exact Nat.le_trans HG.out.len (by decide))) (fun x hx => ⟨(HOK.out x hx).1.1, (HOK.out x hx).2⟩) (by rw [absS_perm hperm]; exact HG.out.abs)
  have HBAG := toHid (tal_bag HG.out hperm hsort)
  have hF := tal_ok (P := fun x => (LiesS w2 x.L x.a x.l ∧ InL x.L) ∧ wtL x.L ≤ 1099511627776) (fun p n h => h) HOK.out
  have hFL : ((tgCs M2).filter fun c => !(c.n == 0)).length ≤ 900000 := by
    have h1 := tgCs_len M2 M2.length
    rw [List.take_length] at h1
    exact Nat.le_trans (List.length_filter_le _ _) (Nat.le_trans h1 (by rw [hlen2]; exact HG.out.len))
  generalize (tgCs M2).filter (fun c => !(c.n == 0)) = F at hTG HBAG hF hFL
  have HTG := toHid hTG
  have HF := toHid hF
  clear hTG hF hperm hsort hrow2 hgrow y0 hbo hlen2 HS HI HG HB1 HOK
  go_wp2_with (go_at_call 57; refine HTG.out.mono ?_)
  rintro e w3 ⟨v3, rfl, hrow3, k3⟩
  have HB3 := toHid (HB2.out.trans (k3.mono HB2.out.size))
  obtain ⟨va3, vn3, vc3, rfl⟩ : ∃ va vn vc, v3 = .slice va vn vc := by
    rcases hrow3.2 with ⟨h0, _⟩ | ⟨g', cap', cur, h0, _⟩
    · exact ⟨_, _, _, h0⟩
    · exact ⟨_, _, _, h0⟩
  have hF3 : ∀ x ∈ F, LiesS w3 x.L x.a x.l ∧ InL x.L ∧ wtL x.L ≤ 1099511627776 := fun x hx => ⟨LiesS.below k3 _ _ _ (HF.out x hx).1.1, (HF.out x hx).1.2, (HF.out x hx).2⟩
  obtain ⟨O, hO1, hO2, hO3⟩ := told_all B w3 (Nat.le_trans hB HB3.out.size) (HTB.out.below (HB3.out.mono hB)) F hF3
  have hat := ctsOwn hrow3 (Nat.le_trans hFL (by decide))
  have HC := toHid (check_bag O va3 vn3 vc3 w3 w3 ⟨by rw [hO1]; exact hat, hO2⟩ (Below.refl _ _))
  have HAT := toHid hat
  have HF3 := toHid hF3
  have HO1 := toHid hO1
  have HO3 : Hid (∀ x e, (x, e) ∈ O → RowTold x.L e ∧ wtL x.L ≤ 1099511627776) := fun x e hx => ⟨hO3 x e hx, (hF3 x (by rw [← hO1]; exact List.mem_map.2 ⟨_, hx, rfl⟩)).2.2⟩
  have HBG : Hid (IsBag (O.map fun y => y.1.cn) ∧ ∀ r, cnt (O.map fun y => y.1.cn) r = cnt Ls r) := by
    have e1 : (O.map fun y => y.1.cn) = F.map Ct.cn := by rw [← hO1, List.map_map]; rfl
    show _ ∧ _
    rw [e1]
    exact HBAG.out
  generalize hz0 : bagE O = z at HC
  have HZ0 := toHid hz0
  clear hrow3 k3 hF3 hO1 hO2 hO3 hat hz0 y2 hbo2 HTG HB2 HBAG HF
  go_wp2_with (go_at_call 28; refine HC.out.mono ?_)
  rintro e w4 ⟨rfl, k4⟩
  have HB4 := toHid (HB3.out.trans (k4.mono HB3.out.size))
  by_cases hz : z = 0
  · have hz' : (z != 0) = false := by simp [hz]
    have HE := toHid (freshBag_any F va3 vn3 vc3 w4 (HAT.out.below k4) fun x hx => ⟨LiesS.below k4 _ _ _ (HF3.out x hx).1, (HF3.out x hx).2.2⟩)
    have HZ := toHid hz
    clear hz k4 HC
    go_wp2_with (go_at_call 58; refine HE.out.mono ?_)
    rintro e w5 ⟨⟨v5, rfl, hv5⟩, k5⟩
    have HB5 := toHid (HB4.out.trans (k5.mono HB4.out.size))
    have HV5 : Hid (CtsNew w.heap.size w5 (O.map (·.1)) v5) := by
      rw [HO1.out]
      obtain ⟨P, p1, p2⟩ := hv5
      refine ⟨P, ⟨p1.1, p1.2.elim .inl fun ⟨g, cap, cur, e1, e2, e3⟩ => .inr ⟨g, cap, cur, e1, Nat.le_trans HB4.out.size e2, e3⟩⟩, p2.mono fun p x _ _ h => h.kept ⟨Nat.le_refl _, fun i hi _ => ⟨⟨Nat.le_trans HB4.out.size hi.1, hi.2⟩, rfl⟩⟩⟩
    clear hv5 k5
    go_wp2_with fail
    refine bodyPost_ret (v := .tuple #[v5, .int .i64 0]) (by simp [results, Tryz.results22, go_sem]) rfl ?_
    exact ⟨⟨O, HBG.out.1, HBG.out.2, HO3.out, .inr ⟨HZ0.out.trans HZ.out, v5, rfl, HV5.out⟩⟩, HB5.out⟩
  · have hz' : (z != 0) = true := by simp [hz]
    have HZ := toHid hz
    clear hz k4 HC
    go_wp2_with fail
    refine bodyPost_ret (v := .tuple #[.slice none 0 0, .int .i64 z]) (by simp [results, Tryz.results22, go_sem]) rfl ?_
    exact ⟨⟨O, HBG.out.1, HBG.out.2, HO3.out, .inl ⟨by rw [HZ0.out]; exact HZ.out, by rw [HZ0.out]⟩⟩, HB4.out⟩

set_option linter.unusedSimpArgs false

theorem lie_low {w : World} {L : List T} {a : Option Addr} {l : Nat} (h : LiesS w L a l) : LieA (fun i => i < w.heap.size) w L a l := LieA.kept (Nat.le_refl _) (fun i _ hi => ⟨hi, rfl⟩) _ _ _ (LiesS.lie _ _ _ h)

theorem absS_ones : ∀ X : List Ct, (∀ x ∈ X, x.n = 1) → absS X = X.length
  | [], _ => rfl
  | x :: X, h => by
    show x.n.natAbs + absS X = X.length + 1
    rw [absS_ones X fun y hy => h y (List.mem_cons_of_mem _ hy), h x (List.mem_cons_self ..)]
    omega

set_option maxHeartbeats 4000000 in
set_option maxRecDepth 100000 in
theorem of_any (B : Nat) (X : List Ct) (a : Option Addr) (l c : Nat) (w : World) (hB : B ≤ w.heap.size) (hT : Tabs B w) (hX : RowsAt AnyB w X a l) (hok : ∀ x ∈ X, LiesS w x.L x.a x.l ∧ InL x.L ∧ wtL x.L ≤ 1099511627776) :
    Calls Tryz.prog 7 #[.slice a l c] w fun e w' => ((2000 < l ∧ e = .returned (.tuple #[.slice none 0 0, .int .i64 2])) ∨ (l ≤ 2000 ∧ ∃ B1, w.heap.size ≤ B1 ∧ TalEnd B1 w' (X.map Ct.cn) e)) ∧ Below w.heap.size w w' := by
  have b0 : Below w.heap.size w (w.alloc (.cells #[.slice a l c] 22)) := (Below.refl _ _).alloc (Nat.le_refl _) _
  have h0 := alloc_new w (.cells #[.slice a l c] 22)
  have z0 : (w.alloc (.cells #[.slice a l c] 22)).heap.size = w.heap.size + 1 := by simp
  have hlx : l = X.length := hX.1
  have hlm : l ≤ 900000 := hX.2.1
  have y0 := cell_of h0 0
  simp at y0
  have HB0 := toHid b0
  have H0 := toHid h0
  have HZ := toHid z0
  have HOF : Hid (Calls Tryz.prog 22 #[.func (.func 23) #[] #[.pointer (some ⟨w.heap.size, 0, none⟩)]] (w.alloc (.cells #[.slice a l c] 22)) fun e w' => TalEnd (w.alloc (.cells #[.slice a l c] 22)).heap.size w' (X.map Ct.cn) e ∧ Below (w.alloc (.cells #[.slice a l c] 22)).heap.size (w.alloc (.cells #[.slice a l c] 22)) w') := by
    refine talOf_any B _ (X.map Ct.cn) _ (Nat.le_trans hB b0.size) (hT.below (b0.mono hB)) fun W bo hbo hinv k => ?_
    have kw : Below w.heap.size w W := b0.trans (k.mono b0.size)
    have hR : RowsAt (fun i => i < (w.alloc (.cells #[.slice a l c] 22)).heap.size) W X a l := by
      refine ⟨hX.1, hX.2.1, hX.2.2.1, fun hl => ?_⟩
      obtain ⟨b, off, e1, _, e3, e4⟩ := hX.2.2.2 hl
      exact ⟨b, off, e1, by rw [z0]; omega, Nat.lt_of_lt_of_le e3 kw.size, fun i x hx => (kw.cell (p := ⟨b, off + i, none⟩) e3).trans (e4 i x hx)⟩
    refine (of1_any _ bo w.heap.size X a l c W k.size (by rw [z0]; omega) hbo ((k.block _ (by rw [z0]; omega)).trans h0) hR (fun x hx => LieA.kept kw.size (fun i hi hl => ⟨by rw [z0]; omega, kw.block i hi⟩) _ _ _ (lie_low (hok x hx).1)) hinv).mono ?_
    rintro e w' ⟨rfl, v', h1, h2⟩
    exact ⟨rfl, X, v', ⟨rfl, fun x hx => (hok x hx).2, by rw [absS_ones X hX.2.2.1]; omega, by omega⟩, h1, h2⟩
  clear b0 h0 z0 hX hok hT
  by_cases hl : 2000 < l
  · have hl' : (2000 : Int) < l := by omega
    have HLL := toHid hl
    clear hlx hl
    go_enter Tryz.func7, Tryz.ntmps7
    go_wp2_with fail
    refine bodyPost_ret (v := .tuple #[.slice none 0 0, .int .i64 2]) (by simp [results, Tryz.results7, go_sem]) rfl ?_
    exact ⟨.inl ⟨HLL.out, rfl⟩, HB0.out⟩
  · have hl' : ¬ ((2000 : Int) < l) := by omega
    have HLL : Hid (l ≤ 2000) := by show _ ≤ _; omega
    clear hlx hl
    generalize X.map Ct.cn = Ls at HOF ⊢
    go_enter Tryz.func7, Tryz.ntmps7
    go_wp2_with (go_at_call 22; refine HOF.out.mono ?_)
    intro e w1 hend k1
    have HB1 := toHid (HB0.out.trans (k1.mono (Nat.le_succ _)))
    have HEND := toHid hend
    obtain ⟨O, _, _, _, ⟨_, rfl⟩ | ⟨_, v, rfl, _⟩⟩ := hend
    all_goals
      clear k1
      go_wp2_with fail
      refine bodyPost_ret (by simp [results, Tryz.results7, go_sem]; rfl) rfl ?_
      exact ⟨.inr ⟨HLL.out, _, Nat.le_succ _, HEND.out⟩, HB1.out⟩

set_option linter.unusedSimpArgs false

set_option maxHeartbeats 4000000 in
set_option maxRecDepth 100000 in
theorem same1_any (x y : Ct) (b : Bool) (hb : b = (x.n == y.n && ordL x.L y.L == 0)) (w : World) (hx : LiesS w x.L x.a x.l ∧ wtL x.L ≤ 1099511627776) (hy : LiesS w y.L y.a y.l ∧ wtL y.L ≤ 1099511627776) :
    Calls Tryz.prog 33 #[.agg #[.slice x.a x.l x.c, .int .i64 x.n], .agg #[.slice y.a y.l y.c, .int .i64 y.n]] w fun e w' => e = .returned (.bool b) ∧ Below w.heap.size w w' := by
  have HC : Hid (∀ W', Below w.heap.size w W' → Calls Tryz.prog 26 #[.slice x.a x.l x.c, .slice y.a y.l y.c] W' fun e w' => e = .returned (.int .i64 (ordL x.L y.L)) ∧ Below W'.heap.size W' w') := fun W' k => compareRows_ref x.L y.L x.a x.l x.c y.a y.l y.c W' (LiesS.below k _ _ _ hx.1) (LiesS.below k _ _ _ hy.1) hx.2 hy.2
  generalize ordL x.L y.L = z at HC hb
  have HBB := toHid hb
  clear hx hy hb
  have HTWO : Hid (∀ o1 o2 : Obj, Below w.heap.size w ((w.alloc o1).alloc o2)) := fun o1 o2 => ((Below.refl _ _).alloc (Nat.le_refl _) _).alloc (by simp) _
  by_cases hn : x.n = y.n
  · have HZ : Hid (b = (z == 0)) := by show _ = _; rw [HBB.out]; simp [hn]
    clear HBB
    rw [hn]
    clear hn
    go_enter Tryz.func33, Tryz.ntmps33
    go_wp2_with fail
    refine (HC.out _ (HTWO.out _ _)).mono ?_
    rintro e w1 ⟨rfl, k1⟩
    have HB := toHid ((HTWO.out _ _).trans (k1.mono (HTWO.out _ _).size))
    clear k1
    go_wp2_with fail
    go_ret
    exact ⟨by rw [HZ.out]; rfl, HB.out⟩
  · have hn' : (x.n == y.n) = false := by simp [hn]
    have HZ : Hid (b = false) := by show _ = _; rw [HBB.out]; simp [hn]
    clear hn HBB
    go_enter Tryz.func33, Tryz.ntmps33
    go_wp2_with fail
    go_ret
    exact ⟨by rw [HZ.out]; rfl, HTWO.out _ _⟩

/-- The rows of counts from here on are alike. -/
def likeB : List Ct → List Ct → Bool
  | [], [] => true
  | x :: X, y :: Y => (x.n == y.n && ordL x.L y.L == 0) && likeB X Y
  | _, _ => false

theorem like_cn : ∀ X Y : List Ct, likeB X Y = true ↔ X.map Ct.cn = Y.map Ct.cn
  | [], [] => by simp [likeB]
  | [], y :: Y => by simp [likeB]
  | x :: X, [] => by simp [likeB]
  | x :: X, y :: Y => by
    have ih := like_cn X Y
    simp only [likeB, Bool.and_eq_true, ih, List.map_cons, List.cons.injEq, beq_iff_eq]
    have : x.cn = y.cn ↔ x.n = y.n ∧ ordL x.L y.L = 0 := by
      unfold Ct.cn
      rw [Prod.mk.injEq]
      refine ⟨fun h => ⟨h.2, by rw [h.1]; exact ordL_self _⟩, fun h => ⟨ordL_eq _ _ h.2, h.1⟩⟩
    rw [this]

theorem like_len {X Y : List Ct} (h : X.length ≠ Y.length) : likeB X Y = false := by
  cases hb : likeB X Y with
  | false => rfl
  | true =>
    have := congrArg List.length ((like_cn X Y).1 hb)
    rw [List.length_map, List.length_map] at this
    exact absurd this h

theorem like_drop {X Y : List Ct} {i : Nat} {x y : Ct} (hx : X.drop i = x :: X.drop (i + 1)) (hy : Y.drop i = y :: Y.drop (i + 1)) : likeB (X.drop i) (Y.drop i) = ((x.n == y.n && ordL x.L y.L == 0) && likeB (X.drop (i + 1)) (Y.drop (i + 1))) := by
  rw [hx, hy]
  rfl

set_option maxHeartbeats 4000000 in
set_option maxRecDepth 100000 in
theorem equalB_any (X Y : List Ct) (a a' : Option Addr) (l c l' c' : Nat) (w : World) (hX : CtsAt w X a l) (hY : CtsAt w Y a' l') (hx : ∀ x ∈ X, LiesS w x.L x.a x.l ∧ wtL x.L ≤ 1099511627776) (hy : ∀ x ∈ Y, LiesS w x.L x.a x.l ∧ wtL x.L ≤ 1099511627776) :
    Calls Tryz.prog 32 #[.slice a l c, .slice a' l' c', .func (.func 33) #[] #[]] w fun e w' => e = .returned (.bool (likeB X Y)) ∧ Below w.heap.size w w' := by
  have HX := toHid hX
  have HY := toHid hY
  have HRX := toHid hx
  have HRY := toHid hy
  have hmx : l ≤ 1000000 := hX.2.1
  have hmy : l' ≤ 1000000 := hY.2.1
  obtain ⟨R, hR⟩ : ∃ R, R = likeB X Y := ⟨_, rfl⟩
  rw [← hR]
  by_cases hll : l = l'
  · subst hll
    have H0 := toHid (show R = likeB (X.drop 0) (Y.drop 0) from hR)
    clear hX hY hx hy hR
    go_enter Tryz.func32, Tryz.ntmps32
    go_wp2_with fail
    go_loopg [17] l (fun g s17 wr => ∃ i : Nat, i ≤ l ∧ l - i ≤ g ∧ s17 = .int .i64 i ∧ R = likeB (X.drop i) (Y.drop i) ∧ Below w.heap.size w wr)
    case atStart => exact ⟨0, Nat.zero_le _, by omega, rfl, H0.out, Below.refl _ _⟩
    case round =>
      clear H0
      obtain ⟨i, hi, hg, rfl, hre, hbw⟩ := hrel
      have HRE := toHid hre
      have HBW := toHid hbw
      clear hre hbw
      by_cases hlt : i < l
      · have hil : (i : Int) < l := by omega
        obtain ⟨b, off, rfl, hb, hc⟩ := HX.out.2.2 (by omega)
        obtain ⟨b', off', rfl, hb', hc'⟩ := HY.out.2.2 (by omega)
        obtain ⟨x, hx, hdx⟩ := drop_get (L := X) (i := i) (by have := HX.out.1; omega)
        obtain ⟨y, hy, hdy⟩ := drop_get (L := Y) (i := i) (by have := HY.out.1; omega)
        obtain ⟨c0, c1⟩ := hc i x hx
        obtain ⟨e0, e1⟩ := hc' i y hy
        have d0 := (HBW.out.cell (p := ⟨b, off + i * 2, none⟩) hb).trans c0
        have d1 := (HBW.out.cell (p := ⟨b, off + i * 2 + 1, none⟩) hb).trans c1
        have f0 := (HBW.out.cell (p := ⟨b', off' + i * 2, none⟩) hb').trans e0
        have f1 := (HBW.out.cell (p := ⟨b', off' + i * 2 + 1, none⟩) hb').trans e1
        have hbl' : b' < wr.heap.size := Nat.lt_of_lt_of_le hb' HBW.out.size
        have hbl : b < wr.heap.size := Nat.lt_of_lt_of_le hb HBW.out.size
        have HA := toHid ((HBW.out.alloc HBW.out.size (cObj x)).alloc (HBW.out.alloc HBW.out.size (cObj x)).size (cObj y))
        obtain ⟨r, hr⟩ : ∃ r, r = (x.n == y.n && ordL x.L y.L == 0) := ⟨_, rfl⟩
        have hxr := HRX.out x (List.mem_of_getElem? hx)
        have hyr := HRY.out y (List.mem_of_getElem? hy)
        have HC := toHid (same1_any x y r hr ((wr.alloc (cObj x)).alloc (cObj y)) ⟨LiesS.below HA.out _ _ _ hxr.1, hxr.2⟩ ⟨LiesS.below HA.out _ _ _ hyr.1, hyr.2⟩)
        have HRL := toHid (HRE.out.trans (by rw [like_drop hdx hdy, ← hr]))
        clear c0 c1 e0 e1 hc hc' hx hy hdx hdy hr hxr hyr HRE
        go_wp2_with fail
        refine HC.out.mono ?_
        rintro e w1 ⟨rfl, k1⟩
        have HB1 := toHid (HA.out.trans (k1.mono HA.out.size))
        clear k1 d0 d1 f0 f1
        cases r with
        | true =>
          go_wp2_with fail
          go_roundg (l - (i + 1))
          case measure => omega
          case rel =>
            refine ⟨i + 1, by omega, Nat.le_refl _, by go_num, ?_, HB1.out⟩
            rw [HRL.out]
            rfl
        | false =>
          go_wp2_with fail
          go_ret
          refine ⟨?_, HB1.out⟩
          rw [HRL.out]
          rfl
      · have he : i = l := by omega
        subst he
        have hr1 : R = true := by
          rw [HRE.out, List.drop_eq_nil_of_le (by have := HX.out.1; omega), List.drop_eq_nil_of_le (by have := HY.out.1; omega)]
          rfl
        have HR1 := toHid hr1
        clear hr1
        go_wp2_with fail
        go_ret
        exact ⟨by rw [HR1.out]; rfl, HBW.out⟩
  · have hR0 : R = false := by rw [hR]; exact like_len (by rw [← hX.1, ← hY.1]; exact hll)
    have HR0 := toHid hR0
    have hne : ((l : Int) != (l' : Int)) = true := by simp; omega
    have hne2 : ¬ ((l : Int) = (l' : Int)) := by omega
    clear hX hY hx hy hR hR0
    go_enter Tryz.func32, Tryz.ntmps32
    go_wp2_with fail
    go_ret
    exact ⟨by rw [HR0.out]; rfl, Below.refl _ _⟩

set_option maxHeartbeats 4000000 in
set_option maxRecDepth 100000 in
theorem sameBag_ref (X Y : List Ct) (a a' : Option Addr) (l c l' c' : Nat) (w : World) (hX : CtsAt w X a l) (hY : CtsAt w Y a' l') (hx : ∀ x ∈ X, LiesS w x.L x.a x.l ∧ wtL x.L ≤ 1099511627776) (hy : ∀ x ∈ Y, LiesS w x.L x.a x.l ∧ wtL x.L ≤ 1099511627776) :
    Calls Tryz.prog 14 #[.slice a l c, .slice a' l' c'] w fun e w' => e = .returned (.bool (likeB X Y)) ∧ Below w.heap.size w w' := by
  have HE := toHid (equalB_any X Y a a' l c l' c' w hX hY hx hy)
  clear hX hY hx hy
  go_enter Tryz.func14, Tryz.ntmps14
  go_wp2_with fail
  refine HE.out.mono ?_
  rintro e w1 ⟨rfl, k1⟩
  have HB := toHid k1
  clear k1
  go_wp2_with fail
  go_ret
  exact ⟨rfl, HB.out⟩

set_option linter.unusedSimpArgs false

set_option maxHeartbeats 4000000 in
set_option maxRecDepth 100000 in
theorem idxJ_any (cp0 : Value) (p : Ct → Bool) (O : List Ct) (a : Option Addr) (l c : Nat) (w : World) (hO : CtsAt w O a l) (hp : ∀ q ∈ O, ∀ W, Below w.heap.size w W → Calls Tryz.prog 68 #[.agg #[.slice q.a q.l q.c, .int .i64 q.n], cp0] W fun e w' => e = .returned (.bool (p q)) ∧ Below W.heap.size W w') :
    Calls Tryz.prog 65 #[.slice a l c, .func (.func 68) #[] #[cp0]] w fun e w' => (∃ r : Int, e = .returned (.int .i64 r) ∧ (decide (0 ≤ r) = O.any p)) ∧ Below w.heap.size w w' := by
  have HO := toHid hO
  have hmx : l ≤ 1000000 := hO.2.1
  have HP := toHid hp
  clear hO hp
  go_enter Tryz.func65, Tryz.ntmps65
  go_wp2_with fail
  go_loopg [8] l (fun g s8 wr => ∃ i : Nat, i ≤ l ∧ l - i ≤ g ∧ s8 = .int .i64 i ∧ Below w.heap.size w wr ∧ O.any p = (O.drop i).any p)
  case atStart => exact ⟨0, Nat.zero_le _, by omega, rfl, Below.refl _ _, rfl⟩
  case round =>
    obtain ⟨i, hi, hg, rfl, hbw, hno⟩ := hrel
    have HNO := toHid hno
    have HBW := toHid hbw
    clear hno hbw
    by_cases hlt : i < l
    · obtain ⟨b, off, ha, hb, hc⟩ := HO.out.2.2 (by omega)
      subst ha
      obtain ⟨q, hq, hdq⟩ := drop_get (L := O) (i := i) (by have := HO.out.1; omega)
      obtain ⟨c0, c1⟩ := hc i q hq
      have d0 := (HBW.out.cell (p := ⟨b, off + i * 2, none⟩) hb).trans c0
      have d1 := (HBW.out.cell (p := ⟨b, off + i * 2 + 1, none⟩) hb).trans c1
      have HC := toHid (HP.out q (List.mem_of_getElem? hq) wr HBW.out)
      have HD : Hid (O.any p = (p q || (O.drop (i + 1)).any p)) := by
        show _ = _
        rw [HNO.out, hdq]
        rfl
      clear hc hq c0 c1 hb hdq HNO
      generalize p q = r at HC HD
      have hil : (i : Int) < l := by omega
      go_wp2_with fail
      refine HC.out.mono ?_
      rintro e w1 ⟨rfl, k1⟩
      have HB1 := toHid (HBW.out.trans (k1.mono HBW.out.size))
      clear k1 d0 d1
      cases r with
      | true =>
        go_wp2_with fail
        go_ret
        refine ⟨⟨(i : Int), rfl, ?_⟩, HB1.out⟩
        rw [HD.out]
        simp
      | false =>
        go_wp2_with fail
        go_roundg (l - (i + 1))
        case measure => omega
        case rel => exact ⟨i + 1, by omega, Nat.le_refl _, by go_num, HB1.out, by rw [HD.out]; rfl⟩
    · have he : i = l := by omega
      subst he
      have HN : Hid (O.any p = false) := by
        show _ = _
        rw [HNO.out, List.drop_eq_nil_of_le (by have := HO.out.1; omega)]
        rfl
      go_wp2_with fail
      go_ret
      refine ⟨⟨-1, rfl, ?_⟩, HBW.out⟩
      rw [HN.out]
      rfl

set_option maxHeartbeats 4000000 in
set_option maxRecDepth 100000 in
theorem holdsJ_any (cp0 : Value) (p : Ct → Bool) (O : List Ct) (a : Option Addr) (l c : Nat) (w : World) (hO : CtsAt w O a l) (hp : ∀ q ∈ O, ∀ W, Below w.heap.size w W → Calls Tryz.prog 68 #[.agg #[.slice q.a q.l q.c, .int .i64 q.n], cp0] W fun e w' => e = .returned (.bool (p q)) ∧ Below W.heap.size W w') :
    Calls Tryz.prog 34 #[.slice a l c, .func (.func 68) #[] #[cp0]] w fun e w' => e = .returned (.bool (O.any p)) ∧ Below w.heap.size w w' := by
  have HE := toHid (idxJ_any cp0 p O a l c w hO hp)
  generalize O.any p = r at HE ⊢
  clear hO hp
  go_enter Tryz.func34, Tryz.ntmps34
  go_wp2_with fail
  refine HE.out.mono ?_
  rintro e w1 ⟨⟨z, rfl, hz⟩, k1⟩
  have HB := toHid k1
  have HZ := toHid hz
  clear k1 hz
  go_wp2_with fail
  go_ret
  exact ⟨by rw [← HZ.out]; rfl, HB.out⟩
end Go.Proofs.YtbaafhldbddeaaaGreatDoor
