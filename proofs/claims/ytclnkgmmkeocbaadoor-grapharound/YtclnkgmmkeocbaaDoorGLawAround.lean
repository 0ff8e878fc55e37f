/-
  What is proved here: the law GraphAround answers true of any graph that lies in memory and any label, number, type and direction; what was there is as it was.
-/
import Derived.Test.YtclnkgmmkeocbaaDoorGFacts
namespace Go.Proofs.YtclnkgmmkeocbaaDoor
open Go.RowKit
set_option linter.unusedVariables false

set_option maxHeartbeats 16000000 in
set_option maxRecDepth 100000 in
theorem law_around (N : List Nd) (E : List Ed) (na : Option Addr) (nl nc : Nat) (ea : Option Addr) (el ec : Nat) (next : Int) (label : ByteArray) (id : Int) (kind : ByteArray) (inn : Bool) (w : World) (h : GrOk w N E na nl ea el) :
    Calls Tryd.prog 3 #[.agg #[.slice na nl nc, .slice ea el ec, .int .i64 next], .string label, .int .i64 id, .string kind, .bool inn] w fun e w' => e = .returned (.bool true) ∧ Below w.heap.size w w' := by
  obtain ⟨er, her⟩ : ∃ er, er = gE N E next := ⟨_, rfl⟩
  obtain ⟨LB, hLB⟩ : ∃ L, L = lbL label N := ⟨_, rfl⟩
  obtain ⟨AR, hAR⟩ : ∃ L, L = arL id kind inn E := ⟨_, rfl⟩
  obtain ⟨hs, hhs⟩ : ∃ b, b = hasN N id := ⟨_, rfl⟩
  have HLB := toHid hLB
  have HAR := toHid hAR
  have C1 : Hid (∀ W, Below w.heap.size w W → Calls Tryd.prog 4 #[.agg #[.slice na nl nc, .slice ea el ec, .int .i64 next], .string label] W fun e w' => LabEnd W w' er LB e ∧ Below W.heap.size W w') := fun W k => by rw [her, hLB]; exact labelled_ok h nc ec next label W k
  have C2 : Hid (∀ W, Below w.heap.size w W → Calls Tryd.prog 5 #[.agg #[.slice na nl nc, .slice ea el ec, .int .i64 next], .int .i64 id, .string kind, .bool inn] W fun e w' => AroundEnd W w' er hs AR e ∧ Below W.heap.size W w') := fun W k => by rw [her, hAR, hhs]; exact around_ok h nc ec next id kind inn W k
  have C3 : Hid (∀ W, Below w.heap.size w W → Calls Tryd.prog 6 #[.agg #[.slice na nl nc, .slice ea el ec, .int .i64 next]] W fun e w' => e = .returned (.int .i64 er) ∧ Below W.heap.size W w') := fun W k => by rw [her]; exact checkGraph_ok h nc ec next W k
  have C4 : Hid (∀ W, Below w.heap.size w W → Calls Tryd.prog 10 #[.agg #[.slice na nl nc, .slice ea el ec, .int .i64 next], .int .i64 id] W fun e w' => NilEnd hs e ∧ Below W.heap.size W w') := fun W k => by rw [hhs]; exact nil_ok h nc ec next id W k
  have HOK : Hid (er = 0 → nl ≤ 40 ∧ el ≤ 60) := fun h0 => by
    have r := gE_ok (her.symm.trans h0)
    have := r.fewN
    have := r.fewE
    have := h.1.1
    have := h.2.1.1
    exact ⟨by omega, by omega⟩
  have HNA := toHid h.1
  have HEA := toHid h.2.1
  have HNL := toHid h.1.1
  have HEL := toHid h.2.1.1
  have HSS : Hid (∀ x ∈ N, StrsAt w x.labs x.la x.ll) := fun x hx => (h.2.2.1 x hx).1
  have HLL := toHid (show LB.length ≤ nl by rw [hLB]; have := lbL_length label N; have := h.1.1; omega)
  have HAL := toHid (show AR.length ≤ el by rw [hAR]; have := arL_length id kind inn E; have := h.2.1.1; omega)
  clear h her hLB hAR hhs
  obtain ⟨i0, hi0, hiz, his, hib⟩ := info_int
  have HI0 := toHid hi0
  have HIZ := toHid hiz
  have HIS := toHid his
  have HIB := toHid hib
  clear hi0 hiz his hib
  have b0 : Below w.heap.size w (w.alloc (.cells #[.slice na nl nc, .slice ea el ec, .int .i64 next] 25)) := (Below.refl _ _).alloc (Nat.le_refl _) _
  have z0 : (w.alloc (.cells #[.slice na nl nc, .slice ea el ec, .int .i64 next] 25)).heap.size = w.heap.size + 1 := by simp
  have hx := alloc_new w (.cells #[.slice na nl nc, .slice ea el ec, .int .i64 next] 25)
  have HY : Hid (∀ W, Below (w.heap.size + 1) (w.alloc (.cells #[.slice na nl nc, .slice ea el ec, .int .i64 next] 25)) W → W.cell? ⟨w.heap.size, 0, none⟩ = some (.slice na nl nc) ∧ W.cell? ⟨w.heap.size, 1, none⟩ = some (.slice ea el ec) ∧ W.cell? ⟨w.heap.size, 2, none⟩ = some (.int .i64 next)) := by
    intro W k
    have q : ∀ o, W.cell? ⟨w.heap.size, o, none⟩ = _ := fun o => (k.cell (p := ⟨w.heap.size, o, none⟩) (Nat.lt_succ_self _)).trans (cell_of hx o)
    exact ⟨q 0, q 1, q 2⟩
  have B0 := toHid b0
  have Z0 := toHid z0
  clear hx b0 z0
  go_enter Tryd.func3, Tryd.ntmps3
  go_wp2_with fail
  refine (C1.out _ B0.out).mono ?_
  have K0 := toHid (Below.refl (w.heap.size + 1) (w.alloc (.cells #[.slice na nl nc, .slice ea el ec, .int .i64 next] 25)))
  generalize w.alloc (.cells #[.slice na nl nc, .slice ea el ec, .int .i64 next] 25) = W0 at HY B0 Z0 K0 ⊢
  rintro e w1 ⟨hlab, k1⟩
  have K1 := toHid (below3 K0.out (by rw [Z0.out]; exact Nat.le_refl _) k1)
  have B1 := toHid (below3 B0.out B0.out.size k1)
  have S1 : w.heap.size + 1 ≤ w1.heap.size := by have := k1.size; rw [Z0.out] at this; exact this
  obtain ⟨y0, y1, y2⟩ := HY.out w1 K1.out
  clear k1 K0 C1
  obtain ⟨la, ll, lc, e1, rfl, hl1, hl2⟩ : ∃ la ll lc e1, e = .returned (.tuple #[.slice la ll lc, .int .i64 e1]) ∧ (er ≠ 0 → ll = 0 ∧ e1 = er) ∧ (er = 0 → e1 = 0 ∧ IntsAt w1 LB la ll) := by
    rcases hlab with ⟨h0, rfl⟩ | ⟨h0, v, rfl, hv⟩
    · exact ⟨none, 0, 0, er, rfl, fun _ => ⟨rfl, rfl⟩, fun h => absurd h h0⟩
    · obtain ⟨a, c, rfl, hi⟩ := ints_of_row hv (by have := HOK.out h0; have := HLL.out; omega)
      exact ⟨a, _, c, 0, rfl, fun h => absurd h0 h, fun _ => ⟨rfl, hi⟩⟩
  have HL1 := toHid hl1
  have HL2 := toHid hl2
  clear hl1 hl2 hlab
  go_wp2_with fail
  refine (C2.out _ B1.out).mono ?_
  rintro e w2 ⟨haro, k2⟩
  have K2 := toHid (below3 K1.out S1 k2)
  have B2 := toHid (below3 B1.out B1.out.size k2)
  have S2 : w.heap.size + 1 ≤ w2.heap.size := Nat.le_trans S1 k2.size
  have HL2' : Hid (er = 0 → e1 = 0 ∧ IntsAt w2 LB la ll) := fun h0 => ⟨(HL2.out h0).1, (HL2.out h0).2.below k2⟩
  clear k2 K1 B1 S1 y0 y1 y2 HL2 C2
  obtain ⟨y0, y1, y2⟩ := HY.out w2 K2.out
  obtain ⟨ma, ml, mc, e2, rfl, hm1, hm2, hm3⟩ : ∃ ma ml mc e2, e = .returned (.tuple #[.slice ma ml mc, .int .i64 e2]) ∧ (er ≠ 0 → ml = 0 ∧ e2 = er) ∧ (er = 0 → hs = false → ml = 0 ∧ e2 = 5) ∧ (er = 0 → hs = true → e2 = 0 ∧ IntsAt w2 AR ma ml) := by
    rcases haro with ⟨h0, rfl⟩ | ⟨h0, h1, rfl⟩ | ⟨h0, h1, v, rfl, hv⟩
    · exact ⟨none, 0, 0, er, rfl, fun _ => ⟨rfl, rfl⟩, fun h => absurd h h0, fun h => absurd h h0⟩
    · exact ⟨none, 0, 0, 5, rfl, fun h => absurd h0 h, fun _ _ => ⟨rfl, rfl⟩, fun _ h => by rw [h1] at h; cases h⟩
    · obtain ⟨a, c, rfl, hi⟩ := ints_of_row hv (by have := HOK.out h0; have := HAL.out; omega)
      exact ⟨a, _, c, 0, rfl, fun h => absurd h0 h, (fun _ h => by rw [h1] at h; cases h), fun _ _ => ⟨rfl, hi⟩⟩
  have HM1 := toHid hm1
  have HM2 := toHid hm2
  have HM3 := toHid hm3
  clear hm1 hm2 hm3 haro
  go_wp2_with fail
  refine (C3.out _ B2.out).mono ?_
  rintro e w3 ⟨rfl, k3⟩
  have K3 := toHid (below3 K2.out S2 k3)
  have B3 := toHid (below3 B2.out B2.out.size k3)
  have S3 : w.heap.size + 1 ≤ w3.heap.size := Nat.le_trans S2 k3.size
  have X3 := toHid k3
  clear k3 K2 B2 S2 y0 y1 y2 C3
  go_wp2_with fail
  refine (drawn_true _).mono ?_
  rintro e w4 ⟨rfl, k4⟩
  have K4 := toHid (below3 K3.out S3 k4)
  have B4 := toHid (below3 B3.out B3.out.size k4)
  have S4 : w.heap.size + 1 ≤ w4.heap.size := Nat.le_trans S3 k4.size
  have X4 := toHid (below2 X3.out k4)
  clear k4 K3 B3 S3 X3
  by_cases her : er = 0
  · have her' : (er != 0) = false := by simp [her]
    have h46 := HOK.out her
    have h40 := h46.1
    have h60 := h46.2
    obtain ⟨he1, hil⟩ := HL2'.out her
    subst he1
    have HIL := toHid (hil.below X4.out)
    have HER := toHid her
    clear h46 hil her HL1 HL2' HM1 HOK
    obtain ⟨y0, y1, y2⟩ := HY.out w4 K4.out
    go_wp2_with fail
    obtain ⟨V, rfl⟩ : ∃ V, V = w4 := ⟨_, rfl⟩
    obtain ⟨A, hA⟩ : ∃ A, A = LB := ⟨_, rfl⟩
    have HA0 : Hid (A = [] ++ lbL label (N.drop 0)) := hA.trans HLB.out
    have HALB := toHid hA
    clear hA
    go_loopg [16, 68] nl (fun g s16 s68 wr => ∃ (i : Nat) (acc : List Int) (ov : Value), i ≤ nl ∧ nl - i ≤ g ∧ ov = s16 ∧ s68 = .int .i64 i ∧ acc.length ≤ i ∧ wr.ownsRow V.heap.size 3 1 ov acc.length (ints acc) ∧ Below V.heap.size V wr ∧ A = acc ++ lbL label (N.drop i))
    case atStart => exact ⟨0, [], .slice none 0 0, Nat.zero_le _, by omega, rfl, rfl, Nat.le_refl _, World.ownsRow_nil _ _ _ _, Below.refl _ _, HA0.out⟩
    case round =>
      clear HA0 y0 y1 y2
      obtain ⟨i, acc, ov, hi, hg, rfl, rfl, hai, hown, hbw, hfe⟩ := hrel
      have HF := toHid hfe
      have HOWN := toHid hown
      clear hfe hown
      have hz : V.heap.size ≤ wr.heap.size := hbw.size
      have hw0 : Below w.heap.size w wr := below3 B4.out B4.out.size hbw
      by_cases hlt : i < nl
      · obtain ⟨b, off, ha, hb, hc⟩ := HNA.out.2.2 (by omega)
        subst ha
        obtain ⟨x, hx, hd⟩ := drop_get (L := N) (i := i) (by have := HNL.out; omega)
        obtain ⟨c0, c1, c2⟩ := hc i x hx
        have q : ∀ o, wr.cell? ⟨b, o, none⟩ = w.cell? ⟨b, o, none⟩ := fun o => hw0.cell (p := ⟨b, o, none⟩) hb
        have d0 := (q _).trans c0
        have d1 := (q _).trans c1
        have d2 := (q _).trans c2
        have HD := toHid hd
        have HXM := toHid (List.mem_of_getElem? hx)
        clear hc hd hx c0 c1 c2 q
        have HB : (acc.length + 1) * 8 ≤ 140737488355328 := by omega
        have HB2 : acc.length + 1 ≤ maxLen := by unfold maxLen; omega
        have hb3 : Below V.heap.size V (wr.alloc (.cells #[.int .i64 x.id, .slice x.la x.ll x.lc, .slice x.pa x.pl x.pc] 36)) := hbw.alloc hz _
        have HB3 := toHid hb3
        have HSX := toHid ((HSS.out x HXM.out).below (hw0.alloc hw0.size (.cells #[.int .i64 x.id, .slice x.la x.ll x.lc, .slice x.pa x.pl x.pc] 36)))
        have OWN3 := toHid (HOWN.out.alloc (.cells #[.int .i64 x.id, .slice x.la x.ll x.lc, .slice x.pa x.pl x.pc] 36))
        clear hb3
        have HSEL : Hid (selN label x = (label.toList.isEmpty || hasS x.labs label)) := rfl
        cases h2 : label.toList.isEmpty with
        | true =>
          have H3 := toHid (show A = (acc ++ [x.id]) ++ lbL label (N.drop (i + 1)) by rw [HF.out, HD.out, lbL_yes (by rw [HSEL.out]; simp [h2]), List.append_assoc]; rfl)
          clear HF HD HSEL
          go_wp2_with (at_builtin; refine wpList_append_lies _ rfl _ _ 26 rfl V.heap.size 3 i0 _ 1 8 Tryd.underlying26 HI0.out HIZ.out HIS.out HIB.out rfl (by omega) ov acc.length (ints acc) rfl (OWN3.out.alloc _) ⟨wr.heap.size + 1, 0, none⟩ 1 1 [.int .i64 x.id] rfl rfl (World.news_of_block (cs := #[.int .i64 x.id]) (t := 3) (fr := (0, 0)) (alloc_2nd wr _ _)) (by simp [Value.oneCell']) (by omega) HB2 HB (by simp; omega) (wr.heap.size + 1 + 1) (by simp) ?_)
          intro gg cap w5 hown5 hgrow hat5 hlt5
          rw [← ints_more] at hown5
          have hb6 : Below V.heap.size V w5 := (HB3.out.alloc (by simp; omega) _).grown hgrow (by simp; omega) (fun j hj => rowI_block HOWN.out j hj)
          have HOWN5 := toHid hown5
          clear hown5 hgrow hat5 hlt5
          go_wp2_with fail
          go_roundg (nl - (i + 1))
          case measure => omega
          case rel => exact ⟨i + 1, acc ++ [x.id], .slice (some ⟨gg, 0, none⟩) (acc.length + 1) cap, by omega, by omega, rfl, by go_num, (by rw [List.length_append, List.length_singleton]; omega), (by rw [List.length_append, List.length_singleton]; exact HOWN5.out), hb6, H3.out⟩
        | false =>
          have HCT := toHid (contains_strs x.labs x.la x.ll x.lc label _ HSX.out)
          cases h3 : hasS x.labs label with
          | true =>
            rw [h3] at HCT
            have H3 := toHid (show A = (acc ++ [x.id]) ++ lbL label (N.drop (i + 1)) by rw [HF.out, HD.out, lbL_yes (by rw [HSEL.out]; simp [h2, h3]), List.append_assoc]; rfl)
            clear HF HD HSEL
            go_wp2_with fail
            refine HCT.out.mono ?_
            rintro e w4 ⟨rfl, rfl⟩
            go_wp2_with (at_builtin; refine wpList_append_lies _ rfl _ _ 26 rfl V.heap.size 3 i0 _ 1 8 Tryd.underlying26 HI0.out HIZ.out HIS.out HIB.out rfl (by omega) ov acc.length (ints acc) rfl (OWN3.out.alloc _) ⟨wr.heap.size + 1, 0, none⟩ 1 1 [.int .i64 x.id] rfl rfl (World.news_of_block (cs := #[.int .i64 x.id]) (t := 3) (fr := (0, 0)) (alloc_2nd wr _ _)) (by simp [Value.oneCell']) (by omega) HB2 HB (by simp; omega) (wr.heap.size + 1 + 1) (by simp) ?_)
            intro gg cap w5 hown5 hgrow hat5 hlt5
            rw [← ints_more] at hown5
            have hb6 : Below V.heap.size V w5 := (HB3.out.alloc (by simp; omega) _).grown hgrow (by simp; omega) (fun j hj => rowI_block HOWN.out j hj)
            have HOWN5 := toHid hown5
            clear hown5 hgrow hat5 hlt5
            go_wp2_with fail
            go_roundg (nl - (i + 1))
            case measure => omega
            case rel => exact ⟨i + 1, acc ++ [x.id], .slice (some ⟨gg, 0, none⟩) (acc.length + 1) cap, by omega, by omega, rfl, by go_num, (by rw [List.length_append, List.length_singleton]; omega), (by rw [List.length_append, List.length_singleton]; exact HOWN5.out), hb6, H3.out⟩
          | false =>
            rw [h3] at HCT
            have H3 := toHid (show A = acc ++ lbL label (N.drop (i + 1)) by rw [HF.out, HD.out, lbL_no (by rw [HSEL.out]; simp [h2, h3])])
            clear HF HD HSEL
            go_wp2_with fail
            refine HCT.out.mono ?_
            rintro e w4 ⟨rfl, rfl⟩
            go_wp2_with fail
            go_roundg (nl - (i + 1))
            case measure => omega
            case rel => exact ⟨i + 1, acc, ov, by omega, by omega, rfl, by go_num, by omega, OWN3.out, HB3.out, H3.out⟩
      · have hacc : A = acc := by rw [HF.out, List.drop_eq_nil_of_le (by have := HNL.out; omega)]; simp [lbL]
        obtain ⟨wa, wc, rfl, hwi⟩ := ints_of_row HOWN.out (by omega)
        have HEQ := toHid (equal_ints LB acc la ll lc wa acc.length wc wr (HIL.out.below hbw) hwi)
        rw [show (decide (LB = acc)) = true from decide_eq_true (HALB.out.symm.trans hacc)] at HEQ
        have HWR := toHid hw0
        have HVW := toHid hbw
        have K5 := toHid (below3 K4.out S4 hbw)
        clear HF hacc hwi HOWN hw0 hbw
        go_wp2_with fail
        refine HEQ.out.mono ?_
        rintro e w6 ⟨rfl, k6⟩
        have B6 := toHid (below3 HWR.out HWR.out.size k6)
        have S5 : w.heap.size + 1 ≤ wr.heap.size := Nat.le_trans S4 HVW.out.size
        have K6 := toHid (below3 K5.out S5 k6)
        have X6 := toHid (below2 (below2 X4.out HVW.out) k6)
        have S6 : w.heap.size + 1 ≤ w6.heap.size := Nat.le_trans S5 k6.size
        clear k6 HEQ HWR HVW K5 S5
        obtain ⟨y0, y1, y2⟩ := HY.out w6 K6.out
        go_wp2_with fail
        refine (C4.out _ B6.out).mono ?_
        rintro e w7 ⟨hnil, k7⟩
        have B7 := toHid (below3 B6.out B6.out.size k7)
        have K7 := toHid (below3 K6.out S6 k7)
        have X7 := toHid (below2 X6.out k7)
        have S7 : w.heap.size + 1 ≤ w7.heap.size := Nat.le_trans S6 k7.size
        clear k7 B6 K6 X6 S6 y0 y1 y2
        rcases hnil with ⟨hh, rfl⟩ | ⟨hh, ad, rfl⟩
        · obtain ⟨hm, he2⟩ := HM2.out HER.out hh
          subst hm he2
          go_wp2_with fail
          go_ret
          exact ⟨rfl, B7.out⟩
        · obtain ⟨he2, hmi⟩ := HM3.out HER.out hh
          subst he2
          have HMI := toHid (hmi.below X7.out)
          clear hmi hh
          obtain ⟨y0, y1, y2⟩ := HY.out w7 K7.out
          go_wp2_with fail
          clear hi hg hai hlt HALB
          obtain ⟨U, rfl⟩ : ∃ U, U = w7 := ⟨_, rfl⟩
          obtain ⟨AA, hAA⟩ : ∃ A, A = AR := ⟨_, rfl⟩
          have HA1 : Hid (AA = [] ++ arL id kind inn (E.drop 0)) := hAA.trans HAR.out
          have HALB := toHid hAA
          clear hAA
          go_loopg [16, 108] el (fun g s16 s108 wr => ∃ (i : Nat) (acc : List Int) (ov : Value), i ≤ el ∧ el - i ≤ g ∧ ov = s16 ∧ s108 = .int .i64 i ∧ acc.length ≤ i ∧ wr.ownsRow U.heap.size 3 1 ov acc.length (ints acc) ∧ Below U.heap.size U wr ∧ AA = acc ++ arL id kind inn (E.drop i))
          case atStart => exact ⟨0, [], .slice none 0 0, Nat.zero_le _, by omega, rfl, rfl, Nat.le_refl _, World.ownsRow_nil _ _ _ _, Below.refl _ _, HA1.out⟩
          case round =>
            clear HA1 y0 y1 y2
            obtain ⟨i, acc, ov, hi, hg, rfl, rfl, hai, hown, hbw, hfe⟩ := hrel
            have HF := toHid hfe
            have HOWN := toHid hown
            clear hfe hown
            have hz : U.heap.size ≤ wr.heap.size := hbw.size
            have hw0 : Below w.heap.size w wr := below3 B7.out B7.out.size hbw
            by_cases hlt : i < el
            · obtain ⟨b, off, ha, hb, hc⟩ := HEA.out.2.2 (by omega)
              subst ha
              obtain ⟨x, hx, hd⟩ := drop_get (L := E) (i := i) (by have := HEL.out; omega)
              obtain ⟨ht, c0, c1, c2, c3, c4⟩ := hc i x hx
              have q : ∀ o, wr.cell? ⟨b, o, none⟩ = w.cell? ⟨b, o, none⟩ := fun o => hw0.cell (p := ⟨b, o, none⟩) hb
              have d0 := (q _).trans c0
              have d1 := (q _).trans c1
              have d2 := (q _).trans c2
              have d3 := (q _).trans c3
              have d4 := (q _).trans c4
              have HD := toHid hd
              clear hc hd hx c0 c1 c2 c3 c4 q ht
              have HB : (acc.length + 1) * 8 ≤ 140737488355328 := by omega
              have HB2 : acc.length + 1 ≤ maxLen := by unfold maxLen; omega
              have hb3 : Below U.heap.size U (wr.alloc (.cells #[.int .i64 x.id, .int .i64 x.frm, .int .i64 x.dst, .string x.typ, .slice x.pa x.pl x.pc] 42)) := hbw.alloc hz _
              have HB3 := toHid hb3
              have OWN3 := toHid (HOWN.out.alloc (.cells #[.int .i64 x.id, .int .i64 x.frm, .int .i64 x.dst, .string x.typ, .slice x.pa x.pl x.pc] 42))
              clear hb3
              have HSEL : Hid (selE id kind inn x = (((if inn = true then x.dst else x.frm) == id) && (kind.toList.isEmpty || kind.toList == x.typ.toList))) := rfl
              cases inn with
              | false =>
                cases h1 : (x.frm == id) with
                | false =>
                  have H3 := toHid (show AA = acc ++ arL id kind false (E.drop (i + 1)) by rw [HF.out, HD.out, arL_no (by rw [HSEL.out]; simp [h1])])
                  clear HF HD HSEL
                  go_wp2_with fail
                  go_roundg (el - (i + 1))
                  case measure => omega
                  case rel => exact ⟨i + 1, acc, ov, by omega, by omega, rfl, by go_num, by omega, OWN3.out, HB3.out, H3.out⟩
                | true =>
                  cases h2 : kind.toList.isEmpty with
                  | true =>
                    have H3 := toHid (show AA = (acc ++ [x.id]) ++ arL id kind false (E.drop (i + 1)) by rw [HF.out, HD.out, arL_yes (by rw [HSEL.out]; simp [h1, h2]), List.append_assoc]; rfl)
                    clear HF HD HSEL
                    go_wp2_with (at_builtin; refine wpList_append_lies _ rfl _ _ 26 rfl U.heap.size 3 i0 _ 1 8 Tryd.underlying26 HI0.out HIZ.out HIS.out HIB.out rfl (by omega) ov acc.length (ints acc) rfl (OWN3.out.alloc _) ⟨wr.heap.size + 1, 0, none⟩ 1 1 [.int .i64 x.id] rfl rfl (World.news_of_block (cs := #[.int .i64 x.id]) (t := 3) (fr := (0, 0)) (alloc_2nd wr _ _)) (by simp [Value.oneCell']) (by omega) HB2 HB (by simp; omega) (wr.heap.size + 1 + 1) (by simp) ?_)
                    intro gg cap w5 hown5 hgrow hat5 hlt5
                    rw [← ints_more] at hown5
                    have hb6 : Below U.heap.size U w5 := (HB3.out.alloc (by simp; omega) _).grown hgrow (by simp; omega) (fun j hj => rowI_block HOWN.out j hj)
                    have HOWN5 := toHid hown5
                    clear hown5 hgrow hat5 hlt5
                    go_wp2_with fail
                    go_roundg (el - (i + 1))
                    case measure => omega
                    case rel => exact ⟨i + 1, acc ++ [x.id], .slice (some ⟨gg, 0, none⟩) (acc.length + 1) cap, by omega, by omega, rfl, by go_num, (by rw [List.length_append, List.length_singleton]; omega), (by rw [List.length_append, List.length_singleton]; exact HOWN5.out), hb6, H3.out⟩
                  | false =>
                    cases h3 : (kind.toList == x.typ.toList) with
                    | true =>
                      have H3 := toHid (show AA = (acc ++ [x.id]) ++ arL id kind false (E.drop (i + 1)) by rw [HF.out, HD.out, arL_yes (by rw [HSEL.out]; simp [h1, h2, h3]), List.append_assoc]; rfl)
                      clear HF HD HSEL
                      go_wp2_with (at_builtin; refine wpList_append_lies _ rfl _ _ 26 rfl U.heap.size 3 i0 _ 1 8 Tryd.underlying26 HI0.out HIZ.out HIS.out HIB.out rfl (by omega) ov acc.length (ints acc) rfl (OWN3.out.alloc _) ⟨wr.heap.size + 1, 0, none⟩ 1 1 [.int .i64 x.id] rfl rfl (World.news_of_block (cs := #[.int .i64 x.id]) (t := 3) (fr := (0, 0)) (alloc_2nd wr _ _)) (by simp [Value.oneCell']) (by omega) HB2 HB (by simp; omega) (wr.heap.size + 1 + 1) (by simp) ?_)
                      intro gg cap w5 hown5 hgrow hat5 hlt5
                      rw [← ints_more] at hown5
                      have hb6 : Below U.heap.size U w5 := (HB3.out.alloc (by simp; omega) _).grown hgrow (by simp; omega) (fun j hj => rowI_block HOWN.out j hj)
                      have HOWN5 := toHid hown5
                      clear hown5 hgrow hat5 hlt5
                      go_wp2_with fail
                      go_roundg (el - (i + 1))
                      case measure => omega
                      case rel => exact ⟨i + 1, acc ++ [x.id], .slice (some ⟨gg, 0, none⟩) (acc.length + 1) cap, by omega, by omega, rfl, by go_num, (by rw [List.length_append, List.length_singleton]; omega), (by rw [List.length_append, List.length_singleton]; exact HOWN5.out), hb6, H3.out⟩
                    | false =>
                      have H3 := toHid (show AA = acc ++ arL id kind false (E.drop (i + 1)) by rw [HF.out, HD.out, arL_no (by rw [HSEL.out]; simp [h1, h2, h3])])
                      clear HF HD HSEL
                      go_wp2_with fail
                      go_roundg (el - (i + 1))
                      case measure => omega
                      case rel => exact ⟨i + 1, acc, ov, by omega, by omega, rfl, by go_num, by omega, OWN3.out, HB3.out, H3.out⟩
              | true =>
                cases h1 : (x.dst == id) with
                | false =>
                  have H3 := toHid (show AA = acc ++ arL id kind true (E.drop (i + 1)) by rw [HF.out, HD.out, arL_no (by rw [HSEL.out]; simp [h1])])
                  clear HF HD HSEL
                  go_wp2_with fail
                  go_roundg (el - (i + 1))
                  case measure => omega
                  case rel => exact ⟨i + 1, acc, ov, by omega, by omega, rfl, by go_num, by omega, OWN3.out, HB3.out, H3.out⟩
                | true =>
                  cases h2 : kind.toList.isEmpty with
                  | true =>
                    have H3 := toHid (show AA = (acc ++ [x.id]) ++ arL id kind true (E.drop (i + 1)) by rw [HF.out, HD.out, arL_yes (by rw [HSEL.out]; simp [h1, h2]), List.append_assoc]; rfl)
                    clear HF HD HSEL
                    go_wp2_with (at_builtin; refine wpList_append_lies _ rfl _ _ 26 rfl U.heap.size 3 i0 _ 1 8 Tryd.underlying26 HI0.out HIZ.out HIS.out HIB.out rfl (by omega) ov acc.length (ints acc) rfl (OWN3.out.alloc _) ⟨wr.heap.size + 1, 0, none⟩ 1 1 [.int .i64 x.id] rfl rfl (World.news_of_block (cs := #[.int .i64 x.id]) (t := 3) (fr := (0, 0)) (alloc_2nd wr _ _)) (by simp [Value.oneCell']) (by omega) HB2 HB (by simp; omega) (wr.heap.size + 1 + 1) (by simp) ?_)
                    intro gg cap w5 hown5 hgrow hat5 hlt5
                    rw [← ints_more] at hown5
                    have hb6 : Below U.heap.size U w5 := (HB3.out.alloc (by simp; omega) _).grown hgrow (by simp; omega) (fun j hj => rowI_block HOWN.out j hj)
                    have HOWN5 := toHid hown5
                    clear hown5 hgrow hat5 hlt5
                    go_wp2_with fail
                    go_roundg (el - (i + 1))
                    case measure => omega
                    case rel => exact ⟨i + 1, acc ++ [x.id], .slice (some ⟨gg, 0, none⟩) (acc.length + 1) cap, by omega, by omega, rfl, by go_num, (by rw [List.length_append, List.length_singleton]; omega), (by rw [List.length_append, List.length_singleton]; exact HOWN5.out), hb6, H3.out⟩
                  | false =>
                    cases h3 : (kind.toList == x.typ.toList) with
                    | true =>
                      have H3 := toHid (show AA = (acc ++ [x.id]) ++ arL id kind true (E.drop (i + 1)) by rw [HF.out, HD.out, arL_yes (by rw [HSEL.out]; simp [h1, h2, h3]), List.append_assoc]; rfl)
                      clear HF HD HSEL
                      go_wp2_with (at_builtin; refine wpList_append_lies _ rfl _ _ 26 rfl U.heap.size 3 i0 _ 1 8 Tryd.underlying26 HI0.out HIZ.out HIS.out HIB.out rfl (by omega) ov acc.length (ints acc) rfl (OWN3.out.alloc _) ⟨wr.heap.size + 1, 0, none⟩ 1 1 [.int .i64 x.id] rfl rfl (World.news_of_block (cs := #[.int .i64 x.id]) (t := 3) (fr := (0, 0)) (alloc_2nd wr _ _)) (by simp [Value.oneCell']) (by omega) HB2 HB (by simp; omega) (wr.heap.size + 1 + 1) (by simp) ?_)
                      intro gg cap w5 hown5 hgrow hat5 hlt5
                      rw [← ints_more] at hown5
                      have hb6 : Below U.heap.size U w5 := (HB3.out.alloc (by simp; omega) _).grown hgrow (by simp; omega) (fun j hj => rowI_block HOWN.out j hj)
                      have HOWN5 := toHid hown5
                      clear hown5 hgrow hat5 hlt5
                      go_wp2_with fail
                      go_roundg (el - (i + 1))
                      case measure => omega
                      case rel => exact ⟨i + 1, acc ++ [x.id], .slice (some ⟨gg, 0, none⟩) (acc.length + 1) cap, by omega, by omega, rfl, by go_num, (by rw [List.length_append, List.length_singleton]; omega), (by rw [List.length_append, List.length_singleton]; exact HOWN5.out), hb6, H3.out⟩
                    | false =>
                      have H3 := toHid (show AA = acc ++ arL id kind true (E.drop (i + 1)) by rw [HF.out, HD.out, arL_no (by rw [HSEL.out]; simp [h1, h2, h3])])
                      clear HF HD HSEL
                      go_wp2_with fail
                      go_roundg (el - (i + 1))
                      case measure => omega
                      case rel => exact ⟨i + 1, acc, ov, by omega, by omega, rfl, by go_num, by omega, OWN3.out, HB3.out, H3.out⟩
            · have hacc : AA = acc := by rw [HF.out, List.drop_eq_nil_of_le (by have := HEL.out; omega)]; simp [arL]
              obtain ⟨wa, wc, rfl, hwi⟩ := ints_of_row HOWN.out (by omega)
              have HEQ := toHid (equal_ints AR acc ma ml mc wa acc.length wc wr (HMI.out.below hbw) hwi)
              rw [show (decide (AR = acc)) = true from decide_eq_true (HALB.out.symm.trans hacc)] at HEQ
              have HWR := toHid hw0
              clear HF hacc hwi HOWN hw0 hbw
              go_wp2_with fail
              refine HEQ.out.mono ?_
              rintro e w9 ⟨rfl, k9⟩
              have B9 := toHid (below3 HWR.out HWR.out.size k9)
              go_wp2_with fail
              go_ret
              exact ⟨rfl, B9.out⟩
  · have her' : (er != 0) = true := by simp [her]
    obtain ⟨hl0, he1⟩ := HL1.out her
    obtain ⟨hm0, he2⟩ := HM1.out her
    subst hl0 he1 hm0 he2
    go_wp2_with fail
    refine (drawn_true _).mono ?_
    rintro e w5 ⟨rfl, k5⟩
    have B5 := toHid (below3 B4.out B4.out.size k5)
    clear her
    go_wp2_with fail
    go_ret
    exact ⟨by simp, B5.out⟩
end Go.Proofs.YtclnkgmmkeocbaaDoor
