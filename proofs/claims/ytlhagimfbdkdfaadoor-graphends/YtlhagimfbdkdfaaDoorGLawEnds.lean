/-
  What is proved here: the law GraphEnds answers true of any graph that lies in memory; what was there is as it was.
-/
import Derived.Test.YtlhagimfbdkdfaaDoorGEnds1
namespace Go.Proofs.YtlhagimfbdkdfaaDoor
open Go.RowKit
set_option linter.unusedVariables false

set_option maxHeartbeats 16000000 in
set_option maxRecDepth 100000 in
theorem law_ends (N : List Nd) (E : List Ed) (na : Option Addr) (nl nc : Nat) (ea : Option Addr) (el ec : Nat) (next : Int) (w : World) (h : GrOk w N E na nl ea el) :
    Calls Tryd.prog 4 #[.agg #[.slice na nl nc, .slice ea el ec, .int .i64 next]] w fun e w' => e = .returned (.bool true) ∧ Below w.heap.size w w' := by
  obtain ⟨er, her⟩ : ∃ er, er = gE N E next := ⟨_, rfl⟩
  obtain ⟨ids, hids⟩ : ∃ L, L = N.map Nd.id := ⟨_, rfl⟩
  have C1 : Hid (∀ W, Below w.heap.size w W → Calls Tryd.prog 5 #[.agg #[.slice na nl nc, .slice ea el ec, .int .i64 next], .string ⟨#[]⟩] W fun e w' => LabEnd W w' er ids e ∧ Below W.heap.size W w') := fun W k => by rw [her, hids, ← lbL_any]; exact labelled_ok h nc ec next ⟨#[]⟩ W k
  have C2 : Hid (∀ n inn W, n ∈ ids → Below w.heap.size w W → Calls Tryd.prog 6 #[.agg #[.slice na nl nc, .slice ea el ec, .int .i64 next], .int .i64 n, .string ⟨#[]⟩, .bool inn] W fun e w' => AroundEnd W w' er true (arL n ⟨#[]⟩ inn E) e ∧ Below W.heap.size W w') := fun n inn W hn k => by
    have := around_ok h nc ec next n ⟨#[]⟩ inn W k
    rw [show hasN N n = true from decide_eq_true (by rw [← hids]; exact hn), ← her] at this
    exact this
  have HOK : Hid (er = 0 → nl ≤ 40 ∧ el ≤ 60 ∧ ids.length = nl ∧ ∀ inn, (ccL inn E ids).length = el ∧ (ccL inn E ids).mergeSort (fun x y => decide (x ≤ y)) = E.map Ed.id) := fun h0 => by
    have r := gE_ok (her.symm.trans h0)
    have := r.fewN
    have := r.fewE
    have h1 := h.1.1
    have h2 := h.2.1.1
    refine ⟨by omega, by omega, by rw [hids, List.length_map]; exact h1.symm, fun inn => ?_⟩
    have h3 := cc_sorted r inn
    rw [← hids] at h3
    exact ⟨by rw [h3.1.length_eq, List.length_map]; exact h2.symm, h3.2⟩
  have HEA := toHid h.2.1
  have HEL := toHid h.2.1.1
  clear h her hids
  obtain ⟨i0, hi0, hiz, his, hib⟩ := info_int
  have HI0 := toHid hi0
  have HIZ := toHid hiz
  have HIS := toHid his
  have HIB := toHid hib
  clear hi0 hiz his hib
  have b0 : Below w.heap.size w (w.alloc (.cells #[.slice na nl nc, .slice ea el ec, .int .i64 next] 25)) := (Below.refl _ _).alloc (Nat.le_refl _) _
  have z0 : (w.alloc (.cells #[.slice na nl nc, .slice ea el ec, .int .i64 next] 25)).heap.size = w.heap.size + 1 := by simp
  have hx := alloc_new w (.cells #[.slice na nl nc, .slice ea el ec, .int .i64 next] 25)
  have HY : Hid (∀ W, Below (w.heap.size + 1) (w.alloc (.cells #[.slice na nl nc, .slice ea el ec, .int .i64 next] 25)) W → W.cell? ⟨w.heap.size, 0, none⟩ = some (.slice na nl nc) ∧ W.cell? ⟨w.heap.size, 1, none⟩ = some (.slice ea el ec) ∧ W.cell? ⟨w.heap.size, 2, none⟩ = some (.int .i64 next)) := by
    intro W k
    have q : ∀ o, W.cell? ⟨w.heap.size, o, none⟩ = _ := fun o => (k.cell (p := ⟨w.heap.size, o, none⟩) (Nat.lt_succ_self _)).trans (cell_of hx o)
    exact ⟨q 0, q 1, q 2⟩
  have B0 := toHid b0
  have Z0 := toHid z0
  clear hx b0 z0
  go_enter Tryd.func4, Tryd.ntmps4
  go_wp2_with fail
  refine (C1.out _ B0.out).mono ?_
  have K0 := toHid (Below.refl (w.heap.size + 1) (w.alloc (.cells #[.slice na nl nc, .slice ea el ec, .int .i64 next] 25)))
  generalize w.alloc (.cells #[.slice na nl nc, .slice ea el ec, .int .i64 next] 25) = W0 at HY B0 Z0 K0 ⊢
  rintro e w1 ⟨hlab, k1⟩
  have K1 := toHid (below3 K0.out (by rw [Z0.out]; exact Nat.le_refl _) k1)
  have B1 := toHid (below3 B0.out B0.out.size k1)
  have S1 : w.heap.size + 1 ≤ w1.heap.size := by have := k1.size; rw [Z0.out] at this; exact this
  clear k1 K0 C1
  obtain ⟨la, ll, lc, e1, rfl, hl1, hl2⟩ : ∃ la ll lc e1, e = .returned (.tuple #[.slice la ll lc, .int .i64 e1]) ∧ (er ≠ 0 → e1 ≠ 0) ∧ (er = 0 → e1 = 0 ∧ IntsAt w1 ids la ll) := by
    rcases hlab with ⟨h0, rfl⟩ | ⟨h0, v, rfl, hv⟩
    · exact ⟨none, 0, 0, er, rfl, fun h => h, fun h => absurd h h0⟩
    · obtain ⟨a, c, rfl, hi⟩ := ints_of_row hv (by have := HOK.out h0; omega)
      exact ⟨a, _, c, 0, rfl, fun h => absurd h0 h, fun _ => ⟨rfl, hi⟩⟩
  have HL1 := toHid hl1
  have HL2 := toHid hl2
  clear hl1 hl2 hlab
  go_wp2_with fail
  refine (drawn_true _).mono ?_
  rintro e w2 ⟨rfl, k2⟩
  have K2 := toHid (below3 K1.out S1 k2)
  have B2 := toHid (below3 B1.out B1.out.size k2)
  have S2 : w.heap.size + 1 ≤ w2.heap.size := Nat.le_trans S1 k2.size
  have X2 := toHid k2
  clear k2 K1 B1 S1
  by_cases her : er = 0
  · obtain ⟨he1, hil⟩ := HL2.out her
    subst he1
    obtain ⟨h40, h60, hidl, hcc⟩ := HOK.out her
    have HIL := toHid (hil.below X2.out)
    have hll := hil.1
    have hll40 : ll ≤ 40 := by omega
    have HLL := toHid hll
    have HCC := toHid hcc
    have HER := toHid her
    clear her hil HL1 HL2 HOK hcc hll hidl X2
    go_wp2_with fail
    have B3 := toHid (B2.out.alloc B2.out.size (.cells #[.bool false, .bool true] 4))
    have K3 := toHid (K2.out.alloc S2 (.cells #[.bool false, .bool true] 4))
    have S3 : w.heap.size + 1 ≤ (w2.alloc (.cells #[.bool false, .bool true] 4)).heap.size := by simp; omega
    have HI3 := toHid (HIL.out.below ((Below.refl _ _).alloc (Nat.le_refl _) (.cells #[.bool false, .bool true] 4)))
    have HBB := toHid (alloc_new w2 (.cells #[.bool false, .bool true] 4))
    obtain ⟨bb, hbb⟩ : ∃ bb, bb = w2.heap.size := ⟨_, rfl⟩
    rw [← hbb] at HBB ⊢
    clear hbb K2 B2 S2 HIL
    generalize w2.alloc (.cells #[.bool false, .bool true] 4) = V at B3 K3 S3 HI3 HBB ⊢
    go_loopg [28] 2 (fun g s28 wr => ∃ i : Nat, i ≤ 2 ∧ 2 - i ≤ g ∧ s28 = .int .i64 i ∧ Below V.heap.size V wr)
    case atStart => exact ⟨0, by omega, by omega, rfl, Below.refl _ _⟩
    case round =>
      obtain ⟨i, hi, hg, rfl, hbw⟩ := hrel
      have HVW := toHid hbw
      have B4 := toHid (below2 B3.out hbw)
      have K4 := toHid (below3 K3.out S3 hbw)
      have S4 : w.heap.size + 1 ≤ wr.heap.size := Nat.le_trans S3 hbw.size
      have HI4 := toHid (HI3.out.below hbw)
      by_cases hlt : i < 2
      · obtain ⟨inn, hinn⟩ : ∃ inn : Bool, wr.cell? ⟨bb, i, none⟩ = some (.bool inn) := by
          have hb2 := (hbw.block bb (lt_of_some HBB.out)).trans HBB.out
          have h2 : i = 0 ∨ i = 1 := by omega
          rcases h2 with rfl | rfl
          · exact ⟨false, cell_of hb2 0⟩
          · exact ⟨true, cell_of hb2 1⟩
        clear hbw
        have hdi : (i : Int) < 2 := by omega
        go_wp2_with fail
        obtain ⟨U, rfl⟩ : ∃ U, U = wr := ⟨_, rfl⟩
        clear hinn
        obtain ⟨hcl, hcs⟩ := HCC.out inn
        obtain ⟨CC, hCC⟩ : ∃ CC, CC = ccL inn E ids := ⟨_, rfl⟩
        rw [← hCC] at hcl hcs
        have HC0 : Hid (CC = [] ++ ccL inn E (ids.drop 0)) := hCC
        have HCL := toHid hcl
        have HCS := toHid hcs
        clear hcl hcs hCC
        go_loopg [7, 34] ll (fun g s7 s34 wq => ∃ (j : Nat) (acc : List Int) (ov : Value), j ≤ ll ∧ ll - j ≤ g ∧ ov = s7 ∧ s34 = .int .i64 j ∧ wq.ownsRow U.heap.size 3 1 ov acc.length (ints acc) ∧ Below U.heap.size U wq ∧ CC = acc ++ ccL inn E (ids.drop j))
        case atStart => exact ⟨0, [], .slice none 0 0, Nat.zero_le _, by omega, rfl, rfl, World.ownsRow_nil _ _ _ _, Below.refl _ _, HC0.out⟩
        case round =>
          clear HC0
          obtain ⟨j, acc, ov, hj, hgj, rfl, rfl, hown, hbq, hfe⟩ := hrel
          have HF := toHid hfe
          have HOWN := toHid hown
          have hac : acc.length ≤ el := by
            have h1 := HCL.out
            rw [hfe, List.length_append] at h1
            omega
          clear hfe hown
          have HBQ := toHid hbq
          have B5 := toHid (below2 B4.out hbq)
          have K5 := toHid (below3 K4.out S4 hbq)
          have S5 : w.heap.size + 1 ≤ wr.heap.size := Nat.le_trans S4 hbq.size
          have hzU : U.heap.size ≤ wr.heap.size := hbq.size
          obtain ⟨y0, y1, y2⟩ := HY.out wr K5.out
          by_cases hlj : j < ll
          · obtain ⟨b, off, ha, hb, hc⟩ := HI4.out.2.2 (by omega)
            subst ha
            obtain ⟨nd, hnd, hd⟩ := drop_get (L := ids) (i := j) (by have := HLL.out; omega)
            have d0 := (hbq.cell (p := ⟨b, off + j, none⟩) hb).trans (hc j nd hnd)
            have HND := toHid (List.mem_of_getElem? hnd)
            have HD := toHid (show ccL inn E (ids.drop j) = arL nd ⟨#[]⟩ inn E ++ ccL inn E (ids.drop (j + 1)) by rw [hd]; simp [ccL])
            clear hc hnd hd hbq
            go_wp2_with fail
            refine (C2.out nd inn _ HND.out B5.out).mono ?_
            rintro e w6 ⟨haro, k6⟩
            have hzz : (ar : List Int) → ar = arL nd ⟨#[]⟩ inn E → ar.length ≤ 60 := fun ar har => by
              rw [har]
              have h1 := arL_length nd ⟨#[]⟩ inn E
              have h2 := HEL.out
              omega
            obtain ⟨ma, ml, mc, rfl, hmi⟩ : ∃ ma ml mc, e = .returned (.tuple #[.slice ma ml mc, .int .i64 0]) ∧ IntsAt w6 (arL nd ⟨#[]⟩ inn E) ma ml := by
              rcases haro with ⟨h0, _⟩ | ⟨_, h1, _⟩ | ⟨_, _, v, rfl, hv⟩
              · exact absurd HER.out h0
              · cases h1
              · obtain ⟨a, c, rfl, hi⟩ := ints_of_row hv (by have := hzz _ rfl; omega)
                exact ⟨a, _, c, rfl, hi⟩
            obtain ⟨M, hM⟩ : ∃ M, M = arL nd ⟨#[]⟩ inn E := ⟨_, rfl⟩
            have hM60 := hzz M hM
            rw [← hM] at hmi HD
            have hml := hmi.1
            have hown6 : w6.ownsRow U.heap.size 3 1 ov acc.length (ints acc) := rowI_kept HOWN.out (fun i _ hi => k6.block i hi)
            have HOWN6 := toHid hown6
            have HBQ6 := toHid (below2 HBQ.out k6)
            have HMI := toHid hmi
            have HML := toHid hml
            have HF2 := toHid (show CC = (acc ++ M) ++ ccL inn E (ids.drop (j + 1)) by rw [HF.out, HD.out, List.append_assoc])
            have hzU6 : U.heap.size ≤ w6.heap.size := HBQ6.out.size
            have hml60 : ml ≤ 60 := by omega
            clear haro hzz hM hmi hml hown6 HOWN HBQ k6 HD HF y0 y1 y2 d0
            by_cases hm0 : ml = 0
            · subst hm0
              have hM0 : M = [] := List.length_eq_zero_iff.1 HML.out.symm
              subst hM0
              have hp : ∀ W, Sem.run Tryd.prog (pure (#[] : Array Value)) W = .ok #[] W := fun _ => rfl
              rw [List.append_nil] at HF2
              rcases HOWN6.out.2 with ⟨h0, h1⟩ | ⟨g, cap, cur, h0, h1, h2, h3, _⟩
              · have ha0 : acc = [] := List.length_eq_zero_iff.1 h1
                subst h0 ha0
                clear h1
                cases ma
                all_goals
                  go_wp2_with fail
                  go_roundg (ll - (j + 1))
                  case measure => omega
                  case rel => exact ⟨j + 1, [], .slice none 0 0, by omega, by omega, rfl, by go_num, HOWN6.out, HBQ6.out, HF2.out⟩
              · subst h0
                have HH2 := toHid h2
                have HH3 := toHid h3
                clear h1 h2
                obtain ⟨an, han⟩ : ∃ an, acc.length = an := ⟨_, rfl⟩
                have HAN := toHid han
                rw [han] at h3 ⊢
                clear han
                cases ma
                all_goals
                  go_wp2_with fail
                  go_roundg (ll - (j + 1))
                  case measure => omega
                  case rel =>
                    have h4 := HOWN6.out
                    refine ⟨j + 1, acc, .slice (some ⟨g, 0, none⟩) acc.length cap, by omega, by omega, by rw [HAN.out], by go_num, h4, HBQ6.out, HF2.out⟩
            · obtain ⟨mb, mo, hma, hmb, hmc⟩ := HMI.out.2.2 (by omega)
              subst hma
              have HNC : Hid (∀ jj u, (ints M)[jj]? = some u → w6.cell? ((⟨mb, mo, none⟩ : Addr).add jj) = some u) := fun jj u hu => by
                rw [add_none]
                rw [ints, List.getElem?_map] at hu
                obtain ⟨xx, hx1, rfl⟩ := Option.map_eq_some_iff.1 hu
                exact hmc jj xx hx1
              have HNL : Hid ((ints M).length = ml * 1) := by
                show (ints M).length = ml * 1
                rw [ints, List.length_map, Nat.mul_one]
                exact HML.out.symm
              have HB : (acc.length + ml) * 8 ≤ 140737488355328 := by omega
              have HB2 : acc.length + ml ≤ maxLen := by unfold maxLen; omega
              clear hmc
              go_wp2_with (at_builtin; refine wpList_append_lies _ rfl _ _ 26 rfl U.heap.size 3 i0 _ 1 8 Tryd.underlying26 HI0.out HIZ.out HIS.out HIB.out rfl (by omega) ov acc.length (ints acc) rfl HOWN6.out ⟨mb, mo, none⟩ ml mc (ints M) rfl HNL.out HNC.out (by simp [ints, Value.oneCell']) (by omega) HB2 HB hzU6 w6.heap.size rfl ?_)
              intro gg cap w7 hown7 hgrow hat7 hlt7
              have hb7 : Below U.heap.size U w7 := HBQ6.out.grown hgrow hzU6 (fun k hk => rowI_block HOWN6.out k hk)
              have HB7 := toHid hb7
              have HOWN7 := toHid hown7
              clear hb7 hown7 hgrow hat7 hlt7 HB HB2
              go_wp2_with fail
              go_roundg (ll - (j + 1))
              case measure => omega
              case rel =>
                have e7 : (acc ++ M).length = acc.length + ml := by rw [List.length_append, HML.out]
                refine ⟨j + 1, acc ++ M, .slice (some ⟨gg, 0, none⟩) (acc.length + ml) cap, by omega, by omega, rfl, by go_num, ?_, HB7.out, HF2.out⟩
                rw [e7, show ints (acc ++ M) = ints acc ++ ints M by simp [ints]]
                exact HOWN7.out
          · have hjl : j = ll := by omega
            have HCA := toHid (show CC = acc by rw [HF.out, List.drop_eq_nil_of_le (by have := HLL.out; omega)]; simp [ccL])
            have hsr := sort_row acc U.heap.size ov wr HOWN.out (by omega)
            rw [show acc.mergeSort (fun x y => decide (x ≤ y)) = E.map Ed.id by rw [← HCA.out]; exact HCS.out] at hsr
            have HSR := toHid hsr
            have hblk : ∀ k, ov.ownBlock = some k → U.heap.size ≤ k := fun k hk => rowI_block HOWN.out k hk
            have HBLK := toHid hblk
            obtain ⟨oa, oc, hov⟩ : ∃ oa oc, ov = .slice oa acc.length oc := by
              rcases HOWN.out.2 with ⟨h0, h1⟩ | ⟨g, cap, cur, h0, _⟩
              · exact ⟨none, 0, by rw [h0, h1]⟩
              · exact ⟨_, cap, h0⟩
            have hal : acc.length = el := by rw [← HCA.out]; exact HCL.out
            rw [hal] at hov HSR
            subst hov
            clear hsr hblk HF HOWN hac y0 y1 y2 hbq hjl HI4
            go_wp2_with fail
            refine HSR.out.mono ?_
            rintro e w6 ⟨rfl, hrow6, hgr6⟩
            have hb6 : Below U.heap.size U w6 := HBQ.out.grown hgr6 hzU HBLK.out
            have B6 := toHid (below2 B4.out hb6)
            have K6 := toHid (below3 K4.out S4 hb6)
            have S6 : w.heap.size + 1 ≤ w6.heap.size := Nat.le_trans S4 hb6.size
            have HB6 := toHid hb6
            have hrow6' : w6.ownsRow U.heap.size 3 1 (.slice oa el oc) (E.map Ed.id).length (ints (E.map Ed.id)) := by rw [List.length_map, ← HEL.out]; exact hrow6
            obtain ⟨oa', oc', hv6, hi6⟩ := ints_of_row hrow6' (by rw [List.length_map]; have := HEL.out; omega)
            rw [List.length_map, ← HEL.out] at hv6 hi6
            injection hv6 with hv1 hv2 hv3
            subst hv1 hv3
            have HI6 := toHid hi6
            clear hb6 hrow6 hrow6' hgr6 hi6 HSR HBLK HBQ B5 K5 S5 hzU hal
            obtain ⟨y0, y1, y2⟩ := HY.out w6 K6.out
            go_wp2_with fail
            obtain ⟨V6, rfl⟩ : ∃ V6, V6 = w6 := ⟨_, rfl⟩
            clear y0 y1 y2
            go_loopg [62] el (fun g s62 wq => ∃ k : Nat, k ≤ el ∧ el - k ≤ g ∧ s62 = .int .i64 k ∧ Below V6.heap.size V6 wq)
            case atStart => exact ⟨0, Nat.zero_le _, by omega, rfl, Below.refl _ _⟩
            case round =>
              obtain ⟨k, hk, hgk, rfl, hbq⟩ := hrel
              have B7 := toHid (below2 B6.out hbq)
              have HB7 := toHid hbq
              by_cases hlk : k < el
              · obtain ⟨b, off, ha, hb, hc⟩ := HEA.out.2.2 (by omega)
                subst ha
                obtain ⟨x, hx, _⟩ := drop_get (L := E) (i := k) (by have := HEL.out; omega)
                obtain ⟨_, c0, c1, c2, c3, c4⟩ := hc k x hx
                have q : ∀ o, wr.cell? ⟨b, o, none⟩ = w.cell? ⟨b, o, none⟩ := fun o => B7.out.cell (p := ⟨b, o, none⟩) hb
                have d0 := (q _).trans c0
                have d1 := (q _).trans c1
                have d2 := (q _).trans c2
                have d3 := (q _).trans c3
                have d4 := (q _).trans c4
                obtain ⟨ob, oo, hoa, hob, hoc⟩ := HI6.out.2.2 (by omega)
                subst hoa
                have l0 := (hbq.cell (p := ⟨ob, oo + k, none⟩) hob).trans (hoc k x.id (by rw [List.getElem?_map, hx]; rfl))
                have hobz : ob < wr.heap.size := Nat.lt_of_lt_of_le hob hbq.size
                have HBX := toHid (hbq.alloc hbq.size (.cells #[.int .i64 x.id, .int .i64 x.frm, .int .i64 x.dst, .string x.typ, .slice x.pa x.pl x.pc] 42))
                clear hc hx c0 c1 c2 c3 c4 q hoc hbq
                go_wp2_with fail
                have m0 : (wr.alloc (.cells #[.int .i64 x.id, .int .i64 x.frm, .int .i64 x.dst, .string x.typ, .slice x.pa x.pl x.pc] 42)).cell? ⟨wr.heap.size, 0, none⟩ = some (.int .i64 x.id) := cell_of (alloc_new wr _) 0
                have m1 : (wr.alloc (.cells #[.int .i64 x.id, .int .i64 x.frm, .int .i64 x.dst, .string x.typ, .slice x.pa x.pl x.pc] 42)).cell? ⟨ob, oo + k, none⟩ = some (.int .i64 x.id) := (cell_past _ _ _ _ hobz).trans l0
                have hkel : (k : Int) < el := by omega
                clear d0 d1 d2 d3 d4 l0
                generalize wr.alloc (.cells #[.int .i64 x.id, .int .i64 x.frm, .int .i64 x.dst, .string x.typ, .slice x.pa x.pl x.pc] 42) = wa at HBX m0 m1 ⊢
                go_quiet (fail)
                go_wp2_with fail
                go_roundg (el - (k + 1))
                case measure => omega
                case rel => exact ⟨k + 1, by omega, by omega, by go_num, HBX.out.trans ((below_drewN _ _).mono HBX.out.size)⟩
              · go_wp2_with fail
                go_roundg (2 - (i + 1))
                case measure => omega
                case rel => exact ⟨i + 1, by omega, by omega, by go_num, below2 HVW.out (below2 HB6.out hbq)⟩
      · go_wp2_with fail
        go_ret
        exact ⟨rfl, B4.out⟩
  · have he1 := HL1.out her
    have he1' : (e1 != 0) = true := by simp [he1]
    clear her he1 HL1 HL2
    go_wp2_with fail
    refine (drawn_true _).mono ?_
    rintro e w5 ⟨rfl, k5⟩
    have B5 := toHid (below3 B2.out B2.out.size k5)
    go_wp2_with fail
    go_ret
    exact ⟨rfl, B5.out⟩
end Go.Proofs.YtlhagimfbdkdfaaDoor
