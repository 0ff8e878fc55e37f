/-
  What is proved here: what the texts RPLawG, GLaid prove, in one text.
-/
import Derived.Test.YtpjbjpickpiglaaGreatDoorQPAQ
import Derived.Deep.RegionHeld3
import Derived.Deep.DeepFit
import Derived.Deep.CutBlock
import Derived.Deep.DeepCutAuto
import Derived.BigQuiet
import Derived.Test.YtpjbjpickpiglaaGreatDoorQPAB
import Derived.Test.YtpjbjpickpiglaaGreatDoorShelf
import Derived.PinnedBridge
import Derived.Lib.LaidU8T
import Derived.Lib.LaidTab
import Derived.Lay
namespace Go.Proofs.YtpjbjpickpiglaaGreatDoor
open Go.RowKit
set_option linter.unusedVariables false

set_option linter.unusedSimpArgs false

set_option maxHeartbeats 8000000 in
set_option maxRecDepth 100000 in
theorem law_path_good (N : List Nd) (E : List Ed) (na : Option Addr) (nl nc : Nat) (ea : Option Addr) (el ec : Nat) (nx : Int) (kind : ByteArray) (i tgt : Int) (w : World) (h : GrOk w N E na nl ea el) (hg : gE N E nx = 0) (hr : Rch (wayF E kind) i tgt) :
    Calls Tryz.prog 3 #[.agg #[.slice na nl nc, .slice ea el ec, .int .i64 nx], .string kind, .int .i64 i, .int .i64 tgt] w fun e w' => e = .returned (.bool true) ∧ Below w.heap.size w w' := by
  have hb0 : Below w.heap.size w (w.alloc (.cells #[.slice na nl nc, .slice ea el ec, .int .i64 nx] 25)) := (Below.refl _ _).alloc (Nat.le_refl _) _
  have HB := toHid hb0
  have HG := toHid (alloc_new w (.cells #[.slice na nl nc, .slice ea el ec, .int .i64 nx] 25))
  have HCK : Hid (∀ X, Below w.heap.size w X → Calls Tryz.prog 5 #[.agg #[.slice na nl nc, .slice ea el ec, .int .i64 nx]] X fun e w' => e = .returned (.int .i64 0) ∧ Below X.heap.size X w') := fun X kx => by
    have := checkGraph_ok h nc ec nx X kx
    rw [hg] at this
    exact this
  clear hb0
  obtain ⟨v, hv, hve, hvl, hP⟩ := path_way h hg nc ec kind i tgt hr
  obtain ⟨hno, hfind, hpos⟩ := lev_first (riseEd hg) kind i tgt v hv hve
  have HA := toHid hP
  have HNO := toHid hno
  have HFI := toHid hfind
  have HPO := toHid hpos
  have HVL := toHid hvl
  have HIN := toHid (rch_in hg hr)
  have HED := toHid fun x hx => edge_to h hg nc ec x hx
  have HRI := toHid (riseEd hg)
  have HEA := toHid h.2.1
  have HFE := toHid (gE_ok hg).fewE
  clear hv hve hvl hP hno hfind hpos
  have HND : Hid (∀ id, id ∈ N.map Nd.id → ∀ X, Below w.heap.size w X → Calls Tryz.prog 7 #[.agg #[.slice na nl nc, .slice ea el ec, .int .i64 nx], .int .i64 id] X fun e w' => (∃ ad : Addr, e = .returned (.pointer (some ad))) ∧ Below X.heap.size X w') := fun id hid X kx => node_there h nc ec nx id hid X kx
  have HRM : Hid (∀ X, Below w.heap.size w X → Calls Tryz.prog 8 #[.agg #[.slice na nl nc, .slice ea el ec, .int .i64 nx], .string kind] X fun e w' => ∃ m, e = .returned (.map (some m)) ∧ (Instr.lookup 34 (.map (some m)) (.agg #[.int .i64 i, .int .i64 tgt]) false).run Tryz.prog w' = .ok (.bool true) w' ∧ Below X.heap.size X w') := fun X kx => reached_in h hg nc ec kind i tgt true (by simp [hr]) X kx
  have hnn : ∀ w, (binOp .eql 32 (.pointer none) (.pointer none)).run Tryz.prog w = .ok (.bool true) w := nilP_none
  have hns : ∀ w (ad : Addr), (binOp .eql 32 (.pointer (some ad)) (.pointer none)).run Tryz.prog w = .ok (.bool false) w := nilP_some
  have hmm : ∀ X : World, (Instr.makeMap 38 none).run Tryz.prog X = .ok (.map (some X.heap.size)) (X.alloc (.map #[] 0)) := fun X => rfl
  clear h hg hr
  go_enter Tryz.func3, Tryz.ntmps3
  go_upto_region 1 with fail
  generalize w.alloc (.cells #[.slice na nl nc, .slice ea el ec, .int .i64 nx] 25) = X at HB HG ⊢
  have x0 := cell_of HG.out 0
  have x1 := cell_of HG.out 1
  have x2 := cell_of HG.out 2
  simp at x0 x1 x2
  have hl0 : w.heap.size < X.heap.size := blk_lt HG.out
  go_wp2_with fail
  refine (HA.out X HB.out).mono ?_
  rintro e w1 ⟨v1, rfl, hv1, k1⟩
  obtain ⟨a1, c1, rfl, hi1⟩ := ints_of_row hv1 (by have := HVL.out; unfold idsW; rw [List.length_map]; omega)
  have HI1 := toHid hi1
  clear hv1 hi1
  have HB1 := toHid (below2 HB.out k1)
  have HG1 := toHid ((k1.block _ hl0).trans HG.out)
  clear x0 x1 x2 k1 hl0
  have x0 := cell_of HG1.out 0
  have x1 := cell_of HG1.out 1
  have x2 := cell_of HG1.out 2
  simp at x0 x1 x2
  have hl1 : w.heap.size < w1.heap.size := blk_lt HG1.out
  go_wp2_with fail
  refine (HCK.out w1 HB1.out).mono ?_
  rintro e w2 ⟨rfl, k2⟩
  have HB2 := toHid (below2 HB1.out k2)
  have HI2 := toHid (HI1.out.below k2)
  have HG2 := toHid ((k2.block _ hl1).trans HG1.out)
  clear x0 x1 x2 k2 hl1
  go_wp2_with fail
  refine (reached_true _).mono ?_
  rintro e w3 ⟨rfl, k3⟩
  have HB3 := toHid (below2 HB2.out k3)
  have HG3 := toHid ((k3.block _ (blk_lt HG2.out)).trans HG2.out)
  have HI3 := toHid (HI2.out.below k3)
  clear k3
  have x0 := cell_of HG3.out 0
  have x1 := cell_of HG3.out 1
  have x2 := cell_of HG3.out 2
  simp at x0 x1 x2
  have hl3 : w.heap.size < w3.heap.size := blk_lt HG3.out
  go_wp2_with fail
  refine (HND.out i HIN.out.1 w3 HB3.out).mono ?_
  rintro e w4 ⟨⟨ad, rfl⟩, k4⟩
  have HB4 := toHid (below2 HB3.out k4)
  have HG4 := toHid ((k4.block _ hl3).trans HG3.out)
  have HI4 := toHid (HI3.out.below k4)
  clear x0 x1 x2 k4 hl3
  have x0 := cell_of HG4.out 0
  have x1 := cell_of HG4.out 1
  have x2 := cell_of HG4.out 2
  simp at x0 x1 x2
  have hl4 : w.heap.size < w4.heap.size := blk_lt HG4.out
  go_wp2_with fail
  refine (HND.out tgt HIN.out.2 w4 HB4.out).mono ?_
  rintro e w5 ⟨⟨ad', rfl⟩, k5⟩
  have HB5 := toHid (below2 HB4.out k5)
  have HG5 := toHid ((k5.block _ hl4).trans HG4.out)
  have HI5 := toHid (HI4.out.below k5)
  clear x0 x1 x2 k5 hl4
  have x0 := cell_of HG5.out 0
  have x1 := cell_of HG5.out 1
  have x2 := cell_of HG5.out 2
  simp at x0 x1 x2
  have hl5 : w.heap.size < w5.heap.size := blk_lt HG5.out
  go_wp2_with fail
  refine (HRM.out w5 HB5.out).mono ?_
  rintro e w6 ⟨mr, rfl, hlk, k6⟩
  have HB6 := toHid (below2 HB5.out k6)
  have HG6 := toHid ((k6.block _ hl5).trans HG5.out)
  have HI6 := toHid (HI5.out.below k6)
  clear x0 x1 x2 k6 hl5 HB HB1 HB2 HB3 HB4 HB5 HG HG1 HG2 HG3 HG4 HG5 HI1 HI2 HI3 HI4 HI5 HA HCK HND HRM
  go_wp2_with fail
  clear hlk hnn hns
  go_loopg [12] v.length (fun q s12 wr => ∃ (n : Nat) (D : List Wy) (a : Option Addr) (l c : Nat), n < v.length ∧ v.length - n ≤ q ∧ s12 = .slice a l c ∧ WysAt wr D a l ∧ D.map Wy.L = (levW (wayF E kind) i n).map idsW ∧ Below w6.heap.size w6 wr)
  case atStart => exact ⟨0, [⟨[], none, 0, 0⟩], _, 1, 1, HPO.out, by omega, rfl, wys_one w6, rfl, (Below.refl _ _).alloc (Nat.le_refl _) _⟩
  case round =>
    obtain ⟨n, D, a, l, c, hn, hq, rfl, hw, hD, hk⟩ := hrel
    have HW := toHid hw
    have HD := toHid hD
    have HK := toHid hk
    have HLD := toHid hw.len
    have hlf : l ≤ 1000000 := hw.few
    have HN := toHid hn
    obtain ⟨ws, hws⟩ : ∃ ws, ws = levW (wayF E kind) i n := ⟨_, rfl⟩
    have HWS := toHid hws
    rw [← HWS.out] at HD
    clear hw hD hk hn hws
    obtain ⟨w7, hw7⟩ : ∃ z : World, z = wr := ⟨_, rfl⟩
    subst hw7
    have hb8 : Below w7.heap.size w7 (w7.alloc (.map #[] 0)) := (Below.refl _ _).alloc (Nat.le_refl _) _
    have HK8 := toHid hb8
    have hm8 : MapI (w7.alloc (.map #[] 0)) w7.heap.size (seenV i (ws.take 0)) := mapI_new (alloc_new w7 (.map #[] 0))
    have HM8 := toHid hm8
    have HS8 : Hid (w7.heap.size + 1 = (w7.alloc (.map #[] 0)).heap.size) := by show _ = _; simp
    clear hb8 hm8
    go_wp2_with fail
    generalize w7.alloc (.map #[] 0) = w8 at HK8 HM8 HS8 ⊢
    clear hmm
    go_loopg [13, 80] l (fun q s13 s80 wr => ∃ (j : Nat) (Dl : List Wy) (vl : Value), j ≤ l ∧ l - j ≤ q ∧ s80 = .int .i64 j ∧ s13 = vl ∧ LongOk (w7.heap.size + 1) Dl vl wr ∧ Dl.map Wy.L = (extW (wayF E kind) i (firstsW i (ws.take j) [])).map idsW ∧ MapI wr w7.heap.size (seenV i (ws.take j)) ∧ Below w7.heap.size w7 wr)
    case atStart => exact ⟨0, [], _, Nat.zero_le _, by omega, rfl, rfl, long_none _ _, rfl, HM8.out, HK8.out⟩
    case round =>
      obtain ⟨j, Dl, vl, hj, hq2, rfl, rfl, hlo, hdl, hmp, hk2⟩ := hrel
      have HLO := toHid hlo
      have HDL := toHid hdl
      have HMP := toHid hmp
      have HK2 := toHid hk2
      clear hlo hdl hmp hk2 HM8 HK8 HS8
      by_cases hjl : j < l
      · obtain ⟨b, off, ha, hb, hc⟩ := HW.out.cell (by omega)
        subst ha
        obtain ⟨⟨xL, xa, xl, xc⟩, hx⟩ : ∃ x, D[j]? = some x := ⟨_, List.getElem?_eq_getElem (by have := HLD.out; omega)⟩
        have hlw : ws.length = l := by
          have := congrArg List.length HD.out
          simp only [List.length_map] at this
          have := HLD.out
          omega
        obtain ⟨u, hu⟩ : ∃ u, ws[j]? = some u := ⟨_, List.getElem?_eq_getElem (by omega)⟩
        have hxu : xL = idsW u := by
          have h1 : (D.map Wy.L)[j]? = some xL := by rw [List.getElem?_map, hx]; rfl
          rw [HD.out, List.getElem?_map, hu] at h1
          injection h1 with h1
          exact h1.symm
        subst hxu
        have d0 := (HK2.out.cell (p := ⟨b, off + j, none⟩) hb).trans (hc j _ hx)
        simp only at d0
        have HX : Hid (IntsAt w7 (idsW u) xa xl) := HW.out.lie _ (List.mem_of_getElem? hx)
        have HU := toHid hu
        have HWK : Hid (Wlk (wayF E kind) i u) := ((lev_ok (W := wayF E kind) (fun j => HRI.out.filter _) i n).2.1 u (by rw [← HWS.out]; exact List.mem_of_getElem? hu)).1
        have hjl' : (j : Int) < l := by omega
        have hbr : b < wr.heap.size := Nat.lt_of_lt_of_le hb HK2.out.size
        have HXL : Hid (xl = u.length) := by
          have h1 := HX.out.1
          unfold idsW at h1
          rw [List.length_map] at h1
          exact h1
        have hxl : xl ≤ 1000 := by
          have h1 := HXL.out
          have h2 := ((lev_ok (W := wayF E kind) (fun j => HRI.out.filter _) i n).2.1 u (by rw [← HWS.out]; exact List.mem_of_getElem? hu)).2
          have h3 := HN.out
          have h4 := HVL.out
          omega
        have HKW : Hid (Below w6.heap.size w6 wr) := HK.out.trans (HK2.out.mono HK.out.size)
        have HGW : Hid (wr.heap[w.heap.size]? = some (.cells #[.slice na nl nc, .slice ea el ec, .int .i64 nx] 25 (0, 0))) := (HKW.out.block _ (blk_lt HG6.out)).trans HG6.out
        have HBW : Hid (Below w.heap.size w wr) := HB6.out.trans (HKW.out.mono HB6.out.size)
        obtain ⟨at', hat⟩ : ∃ z, z = wEnd i u := ⟨_, rfl⟩
        have HAT := toHid hat
        clear hc hx hu hat hlw
        go_upto_if 87 with fail
        clear d0 hbr hb
        go_cut [17] (fun s17 wx => s17 = .int .i64 at' ∧ Below wr.heap.size wr wx)
        case first =>
          by_cases h0 : xl = 0
          · subst h0
            have hu0 : u = [] := List.length_eq_zero_iff.1 HXL.out.symm
            have HAI := toHid (show at' = i by rw [HAT.out, hu0]; exact wEnd_nil i)
            clear hu0
            go_wp2_with fail
            go_meet
            exact ⟨by rw [HAI.out], Below.refl _ _⟩
          · obtain ⟨p, hpe⟩ : ∃ p, xl = p + 1 := ⟨xl - 1, by omega⟩
            have hwr : IntKind.i64.wrap ((xl : Int) - 1) = (p : Int) := by rw [IntKind.wrap_i64]; omega
            have hp3 : (p : Int) < xl := by omega
            have hp4 : p < xl := by omega
            have hp5 : (0 : Int) ≤ p := by omega
            have hp2 : (0 : Int) < xl := by omega
            obtain ⟨u0, y, hu0, hy, hye⟩ := wlk_last HWK.out (by intro e; have h9 := HXL.out; rw [e] at h9; simp at h9; omega)
            obtain ⟨be, oe, hbe, ce, hce⟩ := HED.out y hy
            obtain ⟨bx, ox, hxa, hbx, hxc⟩ := HX.out.2.2 (by omega)
            subst hxa
            have hup : u0.length = p := by
              have := HXL.out
              rw [hu0, List.length_append] at this
              simp at this
              omega
            have d1 : wr.cell? ⟨bx, ox + p, none⟩ = some (.int .i64 y.id) := (HK2.out.cell (p := ⟨bx, ox + p, none⟩) hbx).trans (hxc p y.id (by rw [hu0]; unfold idsW; rw [List.map_append, List.getElem?_append_right (by simp [hup])]; simp [hup]))
            have HAY := toHid (show at' = y.dst by rw [HAT.out, hye])
            have HCE := toHid hce
            have HC2 : Hid (∀ W', Below wr.heap.size wr W' → W'.cell? ⟨be, oe + 2, none⟩ = some (.int .i64 y.dst)) := fun W' kk => ((HBW.out.trans (kk.mono HBW.out.size)).cell (p := ⟨be, oe + 2, none⟩) hbe).trans ce
            have hbr : bx < wr.heap.size := Nat.lt_of_lt_of_le hbx HK2.out.size
            have hgl : w.heap.size < wr.heap.size := blk_lt HGW.out
            have hbel : be < wr.heap.size := Nat.lt_of_lt_of_le hbe HBW.out.size
            clear hu0 hy hye hce ce hxc hup hbx
            have x0 := cell_of HGW.out 0
            have x1 := cell_of HGW.out 1
            have x2 := cell_of HGW.out 2
            simp at x0 x1 x2
            clear hpe h0
            have ey0 := HC2.out wr (Below.refl _ _)
            have D0 : Below wr.heap.size wr wr.drew := (Below.refl _ _).drew
            have HS : Hid (∀ W', Below wr.heap.size wr W' → W'.cell? ⟨w.heap.size, 0, none⟩ = some (.slice na nl nc) ∧ W'.cell? ⟨w.heap.size, 1, none⟩ = some (.slice ea el ec) ∧ W'.cell? ⟨w.heap.size, 2, none⟩ = some (.int .i64 nx) ∧ W'.cell? ⟨bx, ox + p, none⟩ = some (.int .i64 y.id) ∧ W'.cell? ⟨be, oe + 2, none⟩ = some (.int .i64 y.dst)) := fun W' kk => ⟨(kk.cell (p := ⟨w.heap.size, 0, none⟩) hgl).trans x0, (kk.cell (p := ⟨w.heap.size, 1, none⟩) hgl).trans x1, (kk.cell (p := ⟨w.heap.size, 2, none⟩) hgl).trans x2, (kk.cell (p := ⟨bx, ox + p, none⟩) hbr).trans d1, HC2.out W' kk⟩
            go_wp2_with fail
            go_region_held3 (fun W' => W'.cell? ⟨w.heap.size, 0, none⟩ = some (.slice na nl nc) ∧ W'.cell? ⟨w.heap.size, 1, none⟩ = some (.slice ea el ec) ∧ W'.cell? ⟨w.heap.size, 2, none⟩ = some (.int .i64 nx) ∧ W'.cell? ⟨bx, ox + p, none⟩ = some (.int .i64 y.id) ∧ W'.cell? ⟨be, oe + 2, none⟩ = some (.int .i64 y.dst))
              (first
                | with_reducible exact ⟨x0, x1, x2, d1, ey0⟩
                | with_reducible exact HS.out _ k1
                | with_reducible exact HS.out _ D0
                | go_keep)
              (first
                | (go_at_call 9; go_fit (HCE.out wr.drew (HBW.out.trans (D0.mono HBW.out.size))); rintro e u1 ⟨rfl, h1⟩; have k1 : Below wr.heap.size wr u1 := D0.trans h1; have ey := HC2.out u1 k1; have hbel1 : be < u1.heap.size := Nat.lt_of_lt_of_le hbel k1.size))
            all_goals
              go_wp2_with fail
              go_meet
              exact ⟨by rw [HAY.out], k1⟩
        case rest =>
          obtain ⟨rfl, hk3⟩ := hcut
          have HLO3 := toHid (HLO.out.below hk3)
          have HMP3 := toHid (HMP.out.of (hk3.block _ HMP.out.lt))
          have HK23 : Hid (Below w7.heap.size w7 wc) := HK2.out.trans (hk3.mono HK2.out.size)
          clear hk3 HLO HMP HK2 HKW HGW HBW HWK
          by_cases hse : at' ∈ (ws.take j).map (wEnd i)
          · have hlk := look_seen HMP3.out at' true (decide_eq_true hse).symm
            have HSE := toHid hse
            clear hse
            go_wp2_with fail
            go_roundg (l - (j + 1))
            case measure => omega
            case rel => exact ⟨j + 1, Dl, _, by omega, Nat.le_refl _, by go_num, rfl, HLO3.out, by rw [ext_step E kind i ws j u HU.out, if_pos (by rw [← HAT.out]; exact HSE.out), List.append_nil]; exact HDL.out, by rw [take_snoc HU.out, seen_same i _ u (by rw [← HAT.out]; exact HSE.out)]; exact HMP3.out, HK23.out⟩
          · have hlk := look_seen HMP3.out at' false (decide_eq_false hse).symm
            have HSE := toHid hse
            obtain ⟨o, hup, hmo⟩ := put_seen HMP3.out u at' HAT.out
            have hmlt : w7.heap.size < wc.heap.size := HMP3.out.lt
            have HM9 := toHid (show MapI (putB wc w7.heap.size o) w7.heap.size (seenV i (ws.take (j + 1))) by rw [take_snoc HU.out]; exact hmo _ (putB_here hmlt o))
            have HL9 := toHid (HLO3.out.onMap (o := o) (by omega) (long_map HLO3.out HMP3.out))
            have HK9 : Hid (Below w7.heap.size w7 (putB wc w7.heap.size o)) := HK23.out.trans (putB_bel _ _ _ _ (Nat.le_refl _))
            obtain ⟨w9, hw9⟩ : ∃ z, z = putB wc w7.heap.size o := ⟨_, rfl⟩
            rw [← hw9] at hup HM9 HL9 HK9
            clear hw9 hmo hmlt hse HLO3 HK23
            have HKW : Hid (Below w6.heap.size w6 w9) := HK.out.trans (HK9.out.mono HK.out.size)
            have HGW : Hid (w9.heap[w.heap.size]? = some (.cells #[.slice na nl nc, .slice ea el ec, .int .i64 nx] 25 (0, 0))) := (HKW.out.block _ (blk_lt HG6.out)).trans HG6.out
            have y1 := cell_of HGW.out 1
            simp at y1
            have hgl9 : w.heap.size < w9.heap.size := blk_lt HGW.out
            go_wp2_with fail
            clear hlk hup y1 hgl9 HGW HKW HMP3
            go_loopg [13, 107] el (fun q s13 s107 wr => ∃ (t : Nat) (Dk : List Wy) (vk : Value), t ≤ el ∧ el - t ≤ q ∧ s107 = .int .i64 t ∧ s13 = vk ∧ LongOk (w7.heap.size + 1) Dk vk wr ∧ Dk.map Wy.L = (extW (wayF E kind) i (firstsW i (ws.take j) []) ++ (wayF (E.take t) kind at').map fun x => u ++ [x]).map idsW ∧ MapI wr w7.heap.size (seenV i (ws.take (j + 1))) ∧ Below w7.heap.size w7 wr)
            case atStart => exact ⟨0, Dl, _, Nat.zero_le _, by omega, rfl, rfl, HL9.out, by rw [List.take_zero]; simpa [wayF] using HDL.out, HM9.out, HK9.out⟩
            case round =>
              clear HL9 HDL HM9 HK9
              obtain ⟨t, Dk, vk, ht, hq3, rfl, hvk, hlo, hdl, hmp, hk2⟩ := hrel
              have hvk' := hvk.symm
              clear hvk
              subst hvk'
              have HLO := toHid hlo
              have HDL := toHid hdl
              have HMP := toHid hmp
              have HK2 := toHid hk2
              clear hlo hdl hmp hk2
              have HEL := toHid HEA.out.1
              have hel60 : el ≤ 60 := by rw [HEL.out]; exact HFE.out
              by_cases htl : t < el
              · obtain ⟨b2, off2, ha2, hb2, hc2⟩ := HEA.out.2.2 (by omega)
                subst ha2
                obtain ⟨x, hx⟩ : ∃ x, E[t]? = some x := ⟨_, List.getElem?_eq_getElem (by have := HEL.out; omega)⟩
                obtain ⟨hsz, c0, c1', c2, c3, c4⟩ := hc2 t x hx
                have HKW : Hid (Below w6.heap.size w6 wr) := HK.out.trans (HK2.out.mono HK.out.size)
                have HBW : Hid (Below w.heap.size w wr) := HB6.out.trans (HKW.out.mono HB6.out.size)
                have qq : ∀ o, wr.cell? ⟨b2, o, none⟩ = w.cell? ⟨b2, o, none⟩ := fun o => HBW.out.cell (p := ⟨b2, o, none⟩) hb2
                have d0 := (qq _).trans c0
                have d1 := (qq _).trans c1'
                have d2 := (qq _).trans c2
                have d3 := (qq _).trans c3
                have d4 := (qq _).trans c4
                have hbr2 : b2 < wr.heap.size := Nat.lt_of_lt_of_le hb2 HBW.out.size
                have HXE := toHid hx
                have htl' : (t : Int) < el := by omega
                clear hc2 hx c0 c1' c2 c3 c4 qq hb2
                go_upto_region 21 with fail
                have HB1 : Hid (Below wr.heap.size wr (wr.alloc (.cells #[.int .i64 x.id, .int .i64 x.frm, .int .i64 x.dst, .string x.typ, .slice x.pa x.pl x.pc] 41))) := (Below.refl _ _).alloc (Nat.le_refl _) _
                have HN1 := toHid (alloc_new wr (.cells #[.int .i64 x.id, .int .i64 x.frm, .int .i64 x.dst, .string x.typ, .slice x.pa x.pl x.pc] 41))
                have HL1 := toHid (HLO.out.below HB1.out)
                have HM1 := toHid (HMP.out.of (HB1.out.block _ HMP.out.lt))
                have HK1 : Hid (Below w7.heap.size w7 (wr.alloc (.cells #[.int .i64 x.id, .int .i64 x.frm, .int .i64 x.dst, .string x.typ, .slice x.pa x.pl x.pc] 41))) := HK2.out.trans (HB1.out.mono HK2.out.size)
                generalize wr.alloc (.cells #[.int .i64 x.id, .int .i64 x.frm, .int .i64 x.dst, .string x.typ, .slice x.pa x.pl x.pc] 41) = Wp at HB1 HN1 HL1 HM1 HK1 ⊢
                generalize wr.heap.size = bp at HN1 ⊢
                clear d0 d1 d2 d3 d4 hbr2 HB1 HLO HMP HK2 HKW HBW
                have y0 := cell_of HN1.out 0
                have y1 := cell_of HN1.out 1
                have y3 := cell_of HN1.out 3
                simp at y0 y1 y3
                have hbp : bp < Wp.heap.size := blk_lt HN1.out
                have HST := toHid (wayE_step E kind at' t x HXE.out)
                by_cases hf : x.frm = at'
                · have hf' : (x.frm == at') = true := by simp [hf]
                  have HF := toHid hf
                  clear hf
                  cases hgo : goesB kind x with
                  | false =>
                    have hk1 : kind.toList.isEmpty = false := by
                      cases h : kind.toList.isEmpty with
                      | false => rfl
                      | true => simp [goesB, h] at hgo
                    have hk2 : (kind.toList == x.typ.toList) = false := by
                      cases h : (kind.toList == x.typ.toList) with
                      | false => rfl
                      | true => simp [goesB, h] at hgo
                    have hk2' : (x.typ.toList == kind.toList) = false := by rw [beq_eq_false_iff_ne] at hk2 ⊢; exact Ne.symm hk2
                    have hk3 : ¬ kind.toList = [] := fun e => by rw [e] at hk1; cases hk1
                    have HGO := toHid hgo
                    clear hgo
                    go_wp2_with fail
                    go_roundg (el - (t + 1))
                    case measure => omega
                    case rel => exact ⟨t + 1, Dk, _, by omega, Nat.le_refl _, by go_num, rfl, HL1.out, by rw [HST.out, show (decide (x.frm = at') && goesB kind x) = false by simp [HGO.out]]; simpa using HDL.out, HM1.out, HK1.out⟩
                  | true =>
                    have hk : (kind.toList = [] ∧ kind.toList.isEmpty = true) ∨ (¬ kind.toList = [] ∧ kind.toList.isEmpty = false ∧ (x.typ.toList == kind.toList) = true) := by
                      cases h : kind.toList.isEmpty with
                      | true => exact .inl ⟨List.isEmpty_iff.1 h, rfl⟩
                      | false => exact .inr ⟨(fun e => by rw [e] at h; cases h), rfl, by have := hgo; simp [goesB, h] at this; simp [this]⟩
                    have HGO := toHid hgo
                    clear hgo
                    obtain ⟨i0, hi0, hz0, hs0, hb0⟩ := int_info
                    obtain ⟨i1, hi1, hz1, hs1, hb1⟩ := ints_info
                    have HCL : Hid (∀ W, Below Wp.heap.size Wp W → Calls Tryz.prog 10 #[.slice xa xl xc] W fun e w' => (∃ v, e = .returned v ∧ w'.ownsRow W.heap.size 3 1 v (idsW u).length (ints (idsW u))) ∧ Below W.heap.size W w') := fun W kW => cloneI_any (idsW u) xa xl xc W ((HX.out.below HK1.out).below kW) (by omega)
                    have hDk : Dk.length ≤ 100000 := by
                      have h1 := congrArg List.length HDL.out
                      rw [List.length_map, List.length_map, List.length_append, List.length_map] at h1
                      have h2 := wayF_len (E.take t) kind at'
                      have h3 := ext_len E kind i (ws.take j)
                      have h4 : (E.take t).length ≤ E.length := by rw [List.length_take]; omega
                      have h5 := HFE.out
                      omega
                    have hul : (idsW u).length ≤ 1000 := by have := HX.out.1; omega
                    have hw7p : w7.heap.size + 1 ≤ Wp.heap.size := by have := HM1.out.lt; omega
                    have HOWN : Hid (∀ g, vk.ownBlock = some g → g < Wp.heap.size) := fun g hg => (rowLw HL1.out.row hg).2
                    rcases hk with ⟨hk1, hk2⟩ | ⟨hk1, hk2, hk3⟩
                    all_goals
                      go_upto_region 22 with fail
                      clear y1 y3 hf'
                      have D0 : Below Wp.heap.size Wp Wp.drew := (Below.refl _ _).drew
                      have DA : Below Wp.heap.size Wp (Wp.drew.alloc (.cells #[.int .i64 x.id] 3)) := D0.alloc (Nat.le_refl _) _
                      go_region_law (first
                        | (refine step_append_both _ (by rfl) _ _ _ (by rfl) (w7.heap.size + 1) 26 i1 _ 1 24 Tryz.underlying37 hi1 hz1 hs1 hb1 rfl (by omega) vk Dk.length (wyRow Dk) (by rfl) (hrow5.alloc _) (some ⟨w5.heap.size, 0, none⟩) 1 1 [.slice a2 ((idsW u).length + 1) c2] (by rfl) (by rfl) (fun jj uu huu => ⟨_, rfl, World.news_of_block (cs := #[.slice a2 ((idsW u).length + 1) c2]) (t := 26) (fr := (0, 0)) (alloc_new w5 _) jj uu huu⟩) (by simp [Value.oneCell']) (by unfold maxLen; omega) (by omega) (by have h5 := k5.size; simp; omega) ?_; intro v' w10 hown10 hgrow10 hob10)
                        | (refine step_append_both _ (by rfl) _ _ _ (by rfl) Wp.heap.size 3 i0 _ 1 8 Tryz.underlying26 hi0 hz0 hs0 hb0 rfl (by omega) v1 (idsW u).length (ints (idsW u)) (by rfl) (hr1.alloc _) (some ⟨u1.heap.size, 0, none⟩) 1 1 [.int .i64 x.id] (by rfl) (by rfl) (fun jj uu huu => ⟨_, rfl, World.news_of_block (cs := #[.int .i64 x.id]) (t := 3) (fr := (0, 0)) (alloc_new u1 _) jj uu huu⟩) (by simp [Value.oneCell']) (by unfold maxLen; omega) (by omega) (by have h5 := k1.size; simp; omega) ?_
                           intro v2 w5 hown5 hgrow5 hob5
                           obtain ⟨a2, c2, rfl, hi2⟩ := way_made hown5 (by omega)
                           have k5 : Below Wp.heap.size Wp w5 := (k1.alloc k1.size _).grown hgrow5 (Nat.le_trans k1.size (by simp)) (fun g hg => (rowLw hr1 hg).1)
                           have hrow5 := (HL1.out.below k5).row)
                        | (refine step_append_both _ (by rfl) _ _ _ (by rfl) Wp.heap.size 3 i0 _ 1 8 Tryz.underlying26 hi0 hz0 hs0 hb0 rfl (by omega) v1 (idsW u).length (ints (idsW u)) (by rfl) hr1 (some ⟨Wp.heap.size, 0, none⟩) 1 1 [.int .i64 x.id] (by rfl) (by rfl) (fun jj uu huu => ⟨_, rfl, World.news_of_block (cs := #[.int .i64 x.id]) (t := 3) (fr := (0, 0)) hbk jj uu huu⟩) (by simp [Value.oneCell']) (by unfold maxLen; omega) (by omega) (by have h5 := k1.size; omega) ?_
                           intro v2 w5 hown5 hgrow5 hob5
                           obtain ⟨a2, c2, rfl, hi2⟩ := way_made hown5 (by omega)
                           have k5 : Below Wp.heap.size Wp w5 := k1.grown hgrow5 k1.size (fun g hg => (rowLw hr1 hg).1)
                           have hrow5 := (HL1.out.below k5).row)
                        | (go_simp
                           go_at_call 10
                           refine (HCL.out Wp.drew D0).mono ?_
                           rintro e u1 ⟨⟨v1, rfl, hr1⟩, h1⟩
                           have k1 : Below Wp.heap.size Wp u1 := D0.trans h1
                           have y0c := (k1.cell (p := ⟨bp, 0, none⟩) hbp).trans y0
                           have hbpc : bp < u1.heap.size := Nat.lt_of_lt_of_le hbp k1.size)
                        | (go_simp
                           go_at_call 10
                           refine (HCL.out (Wp.drew.alloc (.cells #[.int .i64 x.id] 3)) DA).mono ?_
                           rintro e u1 ⟨⟨v1, rfl, hr1'⟩, h1⟩
                           have k1 : Below Wp.heap.size Wp u1 := DA.trans (h1.mono DA.size)
                           have hr1 : u1.ownsRow Wp.heap.size 3 1 v1 (idsW u).length (ints (idsW u)) := row_lower hr1' DA.size
                           have hbk : u1.heap[Wp.heap.size]? = some (.cells #[.int .i64 x.id] 3 (0, 0)) := (h1.block Wp.heap.size (by simp)).trans (alloc_new Wp.drew _)))
                      all_goals
                        have HPQ := toHid (HL1.out.snoc (q := ⟨idsW u ++ [x.id], a2, ((idsW u).length + 1), c2⟩) k5 (intsB_new hi2 hown5 HOWN.out) hown10 hgrow10 hob10)
                        have HK10 := toHid (HL1.out.grown (w4 := w7) (by omega) HK1.out k5 hgrow10)
                        have HM10 : Hid (MapI w10 w7.heap.size (seenV i (ws.take (j + 1)))) := HM1.out.of ((hgrow10.block _ (Nat.lt_of_lt_of_le HM1.out.lt (Nat.le_trans k5.size (by simp))) (fun e => by have h7 := (rowLw HL1.out.row e.symm).1; omega)).trans ((Below.heap_alloc _ _ _ (Nat.lt_of_lt_of_le HM1.out.lt k5.size)).trans (k5.block _ HM1.out.lt)))
                        clear hown5 hgrow5 hob5 hown10 hgrow10 hob10 hi2 hrow5 k5 k1
                        go_wp2_with fail
                        go_roundg (el - (t + 1))
                        case measure => omega
                        case rel => exact ⟨t + 1, _, _, by omega, Nat.le_refl _, by go_num, rfl, HPQ.out, by rw [HST.out, show (decide (x.frm = at') && goesB kind x) = true by simp [HGO.out, HF.out], List.map_append, HDL.out]; simp [idsW], HM10.out, HK10.out⟩
                · have hf' : (x.frm == at') = false := by simp [hf]
                  have HF := toHid hf
                  clear hf
                  go_wp2_with fail
                  go_roundg (el - (t + 1))
                  case measure => omega
                  case rel => exact ⟨t + 1, Dk, _, by omega, Nat.le_refl _, by go_num, rfl, HL1.out, by rw [HST.out, show (decide (x.frm = at') && goesB kind x) = false by simp [HF.out]]; simpa using HDL.out, HM1.out, HK1.out⟩
              · have hte : t = el := by omega
                have HTA := toHid (show E.take t = E from List.take_of_length_le (by rw [← HEL.out]; omega))
                go_wp2_with fail
                go_roundg (l - (j + 1))
                case measure => omega
                case rel => exact ⟨j + 1, Dk, _, by omega, Nat.le_refl _, by go_num, rfl, HLO.out, by rw [ext_step E kind i ws j u HU.out, if_neg (by rw [← HAT.out]; exact HSE.out), HDL.out, HTA.out, HAT.out], HMP.out, HK2.out⟩
      · have hje : j = l := by omega
        have hlw : ws.length = l := by
          have h1 := congrArg List.length HD.out
          simp only [List.length_map] at h1
          have h2 := HLD.out
          omega
        have HD1 := toHid (show Dl.map Wy.L = (levW (wayF E kind) i (n + 1)).map idsW by rw [HDL.out, List.take_of_length_le (by omega), HWS.out]; rfl)
        have hdl : Dl.length ≤ 60 := by
          have h1 := congrArg List.length HD1.out
          simp only [List.length_map] at h1
          have h2 := lev_len E kind i n
          have h3 := HFE.out
          omega
        have HSO := toHid (sortW_any HLO.out (asc_lev HRI.out kind i (n + 1) HD1.out) (by omega))
        obtain ⟨la, lc, hvl, hwy⟩ := HLO.out.wys (by omega)
        subst hvl
        have HWY := toHid hwy
        obtain ⟨V, hV⟩ : ∃ V, V = levW (wayF E kind) i (n + 1) := ⟨_, rfl⟩
        have HV := toHid hV
        rw [← HV.out] at HD1
        have HOKV : Hid (∀ u ∈ V, Wlk (wayF E kind) i u ∧ u.length = n + 1) := by rw [HV.out]; exact (lev_ok (W := wayF E kind) (fun j => HRI.out.filter _) i (n + 1)).2.1
        clear hV hwy hlw hje HDL HMP
        go_wp2_with fail
        refine HSO.out.mono ?_
        rintro e wS ⟨rfl, ks⟩
        have HWY1 := toHid (HWY.out.below ks)
        have HKS : Hid (Below w7.heap.size w7 wS) := HK2.out.trans (ks.mono HK2.out.size)
        have HKS6 : Hid (Below w6.heap.size w6 wS) := HK.out.trans (HKS.out.mono HK.out.size)
        clear ks HWY HSO HLO HK2
        go_wp2_with fail
        go_loopg [140] Dl.length (fun q s140 wr => ∃ t : Nat, t ≤ Dl.length ∧ Dl.length - t ≤ q ∧ s140 = .int .i64 t ∧ Below wS.heap.size wS wr ∧ ∀ k u, k < t → V[k]? = some u → wEnd i u ≠ tgt)
        case atStart => exact ⟨0, Nat.zero_le _, by omega, rfl, Below.refl _ _, fun k u hk => absurd hk (Nat.not_lt_zero _)⟩
        case round =>
          obtain ⟨t, ht, hq4, rfl, hk4, hnot⟩ := hrel
          have HK4 := toHid hk4
          have HNT := toHid hnot
          clear hk4 hnot
          by_cases htl : t < Dl.length
          · obtain ⟨b, off, ha, hb, hc⟩ := HWY1.out.cell (by omega)
            subst ha
            obtain ⟨⟨xL, xa, xl, xc⟩, hx⟩ : ∃ x, Dl[t]? = some x := ⟨_, List.getElem?_eq_getElem htl⟩
            have hlv : V.length = Dl.length := by
              have h1 := congrArg List.length HD1.out
              simp only [List.length_map] at h1
              omega
            obtain ⟨u, hu⟩ : ∃ u, V[t]? = some u := ⟨_, List.getElem?_eq_getElem (by omega)⟩
            have hxu : xL = idsW u := by
              have h1 : (Dl.map Wy.L)[t]? = some xL := by rw [List.getElem?_map, hx]; rfl
              rw [HD1.out, List.getElem?_map, hu] at h1
              injection h1 with h1
              exact h1.symm
            subst hxu
            have d0 := (HK4.out.cell (p := ⟨b, off + t, none⟩) hb).trans (hc t _ hx)
            simp only at d0
            have HX : Hid (IntsAt wr (idsW u) xa xl) := (HWY1.out.lie _ (List.mem_of_getElem? hx)).below HK4.out
            have HU := toHid hu
            obtain ⟨hwk, hul⟩ := HOKV.out u (List.mem_of_getElem? hu)
            have hxl : xl = n + 1 := by
              have h1 := HX.out.1
              unfold idsW at h1
              rw [List.length_map] at h1
              omega
            have hnl : n ≤ 1000 := by have h1 := HN.out; have h2 := HVL.out; omega
            have hbr0 : b < wr.heap.size := Nat.lt_of_lt_of_le hb HK4.out.size
            have htl' : (t : Int) < Dl.length := by omega
            have HKW : Hid (Below w6.heap.size w6 wr) := HKS6.out.trans (HK4.out.mono HKS6.out.size)
            have HGW : Hid (wr.heap[w.heap.size]? = some (.cells #[.slice na nl nc, .slice ea el ec, .int .i64 nx] 25 (0, 0))) := (HKW.out.block _ (blk_lt HG6.out)).trans HG6.out
            have HBW : Hid (Below w.heap.size w wr) := HB6.out.trans (HKW.out.mono HB6.out.size)
            obtain ⟨u0, y, hu0, hy, hye⟩ := wlk_last hwk (by intro e; rw [e] at hul; simp at hul)
            obtain ⟨be, oe, hbe, ce, hce⟩ := HED.out y hy
            obtain ⟨bx, ox, hxa, hbx, hxc⟩ := HX.out.2.2 (by omega)
            subst hxa
            have hup : u0.length = n := by
              rw [hu0, List.length_append] at hul
              simp at hul
              omega
            have d1 : wr.cell? ⟨bx, ox + n, none⟩ = some (.int .i64 y.id) := hxc n y.id (by rw [hu0]; unfold idsW; rw [List.map_append, List.getElem?_append_right (by simp [hup])]; simp [hup])
            have HYE := toHid hye
            have HCE := toHid hce
            have HC2 : Hid (∀ W', Below wr.heap.size wr W' → W'.cell? ⟨be, oe + 2, none⟩ = some (.int .i64 y.dst)) := fun W' kk => ((HBW.out.trans (kk.mono HBW.out.size)).cell (p := ⟨be, oe + 2, none⟩) hbe).trans ce
            have hgl : w.heap.size < wr.heap.size := blk_lt HGW.out
            have hbel : be < wr.heap.size := Nat.lt_of_lt_of_le hbe HBW.out.size
            have hwr : IntKind.i64.wrap ((xl : Int) - 1) = (n : Int) := by rw [IntKind.wrap_i64]; omega
            have hp3 : (n : Int) < xl := by omega
            have hp4 : n < xl := by omega
            have hp5 : (0 : Int) ≤ n := by omega
            clear hu0 hy hye hce ce hxc hup hc hx hu hb hlv hwk hul hxl
            go_upto_region 29 with fail
            clear d0 hbr0
            go_cut [156] (fun s156 wx => s156 = .bool (y.dst == tgt) ∧ Below wr.heap.size wr wx)
            case first =>
              have x0 := cell_of HGW.out 0
              have x1 := cell_of HGW.out 1
              have x2 := cell_of HGW.out 2
              simp at x0 x1 x2
              have ey0 := HC2.out wr (Below.refl _ _)
              have D0 : Below wr.heap.size wr wr.drew := (Below.refl _ _).drew
              have HS : Hid (∀ W', Below wr.heap.size wr W' → W'.cell? ⟨w.heap.size, 0, none⟩ = some (.slice na nl nc) ∧ W'.cell? ⟨w.heap.size, 1, none⟩ = some (.slice ea el ec) ∧ W'.cell? ⟨w.heap.size, 2, none⟩ = some (.int .i64 nx) ∧ W'.cell? ⟨bx, ox + n, none⟩ = some (.int .i64 y.id) ∧ W'.cell? ⟨be, oe + 2, none⟩ = some (.int .i64 y.dst)) := fun W' kk => ⟨(kk.cell (p := ⟨w.heap.size, 0, none⟩) hgl).trans x0, (kk.cell (p := ⟨w.heap.size, 1, none⟩) hgl).trans x1, (kk.cell (p := ⟨w.heap.size, 2, none⟩) hgl).trans x2, (kk.cell (p := ⟨bx, ox + n, none⟩) hbx).trans d1, HC2.out W' kk⟩
              go_region_held3 (fun W' => W'.cell? ⟨w.heap.size, 0, none⟩ = some (.slice na nl nc) ∧ W'.cell? ⟨w.heap.size, 1, none⟩ = some (.slice ea el ec) ∧ W'.cell? ⟨w.heap.size, 2, none⟩ = some (.int .i64 nx) ∧ W'.cell? ⟨bx, ox + n, none⟩ = some (.int .i64 y.id) ∧ W'.cell? ⟨be, oe + 2, none⟩ = some (.int .i64 y.dst))
                (first
                  | with_reducible exact ⟨x0, x1, x2, d1, ey0⟩
                  | with_reducible exact HS.out _ k1
                  | with_reducible exact HS.out _ D0
                  | go_keep)
                (first
                  | (go_at_call 9; go_fit (HCE.out wr.drew (HBW.out.trans (D0.mono HBW.out.size))); rintro e u1 ⟨rfl, h1⟩; have k1 : Below wr.heap.size wr u1 := D0.trans h1; have ey := HC2.out u1 k1; have hbel1 : be < u1.heap.size := Nat.lt_of_lt_of_le hbel k1.size))
              all_goals
                go_wp2_with fail
                go_meet
                exact ⟨rfl, k1⟩
            case rest =>
              obtain ⟨rfl, hk5⟩ := hcut
              have HK5 := toHid hk5
              clear hk5 d1 hbel hgl HC2 HCE HGW HBW hwr hp3 hp4 hp5
              by_cases hd : y.dst = tgt
              · have hd' : (y.dst == tgt) = true := by simp [hd]
                have hlen : n + 1 = v.length := by
                  have h1 := HN.out
                  by_cases h2 : n + 1 < v.length
                  · have h3 := HNO.out (n + 1) (by omega) h2 u (by rw [← HV.out]; exact List.mem_of_getElem? HU.out)
                    exact absurd (HYE.out.trans hd) h3
                  · omega
                have huv : u = v := by
                  have h1 := HFI.out
                  rw [← hlen, ← HV.out] at h1
                  have h2 := find_at (fun w => wEnd i w == tgt) V t u (fun k x hk hx => by simpa using HNT.out k x hk hx) HU.out (by simp [HYE.out, hd])
                  rw [h1] at h2
                  injection h2 with h2
                  exact h2.symm
                subst huv
                have HEQ := toHid (equal_ints (idsW u) (idsW u) a1 (idsW u).length c1 (some ⟨bx, ox, none⟩) xl xc wc ((HI6.out.below HKW.out).below HK5.out) (HX.out.below HK5.out))
                have HFB : Hid (Below w.heap.size w wc) := (HB6.out.trans (HKW.out.mono HB6.out.size)).trans (HK5.out.mono (Nat.le_trans HB6.out.size (Nat.le_trans HKW.out.size (Nat.le_refl _))))
                clear hlen hd
                go_wp2_with fail
                refine HEQ.out.mono ?_
                rintro e wE ⟨rfl, kE⟩
                have HFE2 := toHid (below2 HFB.out kE)
                clear kE
                simp only [decide_true]
                go_wp2_with fail
                go_ret
                exact ⟨rfl, HFE2.out⟩
              · have hd' : (y.dst == tgt) = false := by simp [hd]
                have HND2 := toHid hd
                clear hd
                go_wp2_with fail
                go_roundg (Dl.length - (t + 1))
                case measure => omega
                case rel =>
                  refine ⟨t + 1, by omega, Nat.le_refl _, by go_num, HK4.out.trans (HK5.out.mono HK4.out.size), fun k x hk hx => ?_⟩
                  by_cases hkt : k < t
                  · exact HNT.out k x hkt hx
                  · have hke : k = t := by omega
                    rw [hke, HU.out] at hx
                    injection hx with hx
                    rw [← hx, HYE.out]
                    exact HND2.out
          · have hte : t = Dl.length := by omega
            have hlv : V.length = Dl.length := by
              have h1 := congrArg List.length HD1.out
              simp only [List.length_map] at h1
              omega
            have HNX : Hid (n + 1 < v.length) := by
              have h1 := HN.out
              by_cases h2 : n + 1 < v.length
              · exact h2
              · have h3 := HFI.out
                rw [show v.length = n + 1 by omega, ← HV.out] at h3
                obtain ⟨k, hk, hke⟩ := List.getElem_of_mem (List.mem_of_find?_eq_some h3)
                have h4 := HNT.out k v (by omega) (by rw [List.getElem?_eq_getElem hk, hke])
                have h5 := List.find?_some h3
                simp at h5
                exact absurd h5 h4
            clear hlv hte
            go_wp2_with fail
            go_roundg (v.length - (n + 1))
            case measure => have h1 := HN.out; omega
            case rel => exact ⟨n + 1, Dl, _, _, _, HNX.out, Nat.le_refl _, rfl, HWY1.out.below HK4.out, by rw [HD1.out, HV.out], HKS6.out.trans (HK4.out.mono HKS6.out.size)⟩

theorem law_path (N : List Nd) (E : List Ed) (na : Option Addr) (nl nc : Nat) (ea : Option Addr) (el ec : Nat) (nx : Int) (kind : ByteArray) (i tgt : Int) (w : World) (h : GrOk w N E na nl ea el) :
    Calls Tryz.prog 3 #[.agg #[.slice na nl nc, .slice ea el ec, .int .i64 nx], .string kind, .int .i64 i, .int .i64 tgt] w fun e w' => e = .returned (.bool true) ∧ Below w.heap.size w w' := by
  by_cases hg : gE N E nx = 0
  · by_cases hr : Rch (wayF E kind) i tgt
    · exact law_path_good N E na nl nc ea el ec nx kind i tgt w h hg hr
    · exact law_path_no N E na nl nc ea el ec nx kind i tgt w h hg hr
  · exact law_path_bad N E na nl nc ea el ec nx kind i tgt w h hg

open Go.RowKit Go.Lib
set_option linter.unusedVariables false

theorem accept_eq : (Rows.laid_unicode_utf8_acceptRanges : DataW Unit) = acceptData := by kernel_rfl
theorem first_eq : (Rows.laid_unicode_utf8_first : DataW Unit) = firstData := Pinned.utf8First_eq

theorem u8extra : U8Extra Tryz.prog Tryz.lays196_ren := ⟨by kernel_rfl, by kernel_rfl, by kernel_rfl, by kernel_rfl, by kernel_rfl, by kernel_rfl, by kernel_rfl⟩

theorem tabs_of {l : List (String × DataW Unit)} (hf : ("unicode/utf8.first", Rows.laid_unicode_utf8_first) ∈ l) (ha : ("unicode/utf8.acceptRanges", Rows.laid_unicode_utf8_acceptRanges) ∈ l) {W : World} (h : laidMet Tryz.prog l W) : Tabs W.heap.size W := by
  have h0 : Lib.Utf8Tabs 0 1 W := utf8Tabs_of_readsT (U8Types.of196 Tryz.lays196) u8extra
    (first_eq ▸ Lib.laidMet.reads h hf)
    (accept_eq ▸ Lib.laidMet.reads h ha)
  have b0 : 0 < W.heap.size := World.block_lt_of_cell? W _ (h0.1 0 (by decide))
  have b1 : 1 < W.heap.size := World.block_lt_of_cell? W _ (h0.2 0 (by decide)).1
  intro w' hb
  refine ⟨fun c hc => ?_, fun i hi => ⟨?_, ?_⟩⟩
  · rw [hb.cell (p := ⟨0, c, none⟩) b0]; exact h0.1 c hc
  · rw [hb.cell (p := ⟨1, 2 * i, none⟩) b1]; exact (h0.2 i hi).1
  · rw [hb.cell (p := ⟨1, 2 * i + 1, none⟩) b1]; exact (h0.2 i hi).2
end Go.Proofs.YtpjbjpickpiglaaGreatDoor
