/-
  What is proved here: the law TermKleene answers true of any graph, names and terms; what was there is as it was.
-/
import Derived.Test.YtfjlpjemccllaaaDoorELawK0
import Derived.Test.YtfjlpjemccllaaaDoorELawK1
import Derived.Deep.RegionHeld3
import Derived.Deep.CutBlock
namespace Go.Proofs.YtfjlpjemccllaaaDoor
open Go.RowKit
set_option linter.unusedVariables false
set_option linter.unusedSimpArgs false

theorem clo_kleene_of {w : World} {OKG : Prop} {env : ByteArray → Option Th} {na : Option Addr} {nl nc : Nat} {ea : Option Addr} {el ec : Nat} {nx : Int} {sa : Option Addr} {sl sc : Nat} {ia : Option Addr} {il ic : Nat} {S1 T1 : Obj}
    (hev : ∀ (w1 : World), Below w.heap.size w w1 → ∀ (k vk vn : Int) (vs : ByteArray) (va : Option Addr) (vl vc : Nat) (nm : ByteArray) (a : Option Addr) (l c : Nat) (Lv : List T) (A : List Tm), TmAt w1 k vk vn vs va vl vc nm a l c Lv A → InM (.node k (.node vk vn vs Lv) nm A) → ∀ W, Below w1.heap.size w1 W →
      Calls Tryd.prog 7 #[.agg #[.slice na nl nc, .slice ea el ec, .int .i64 nx], .slice sa sl sc, .slice ia il ic, .agg #[.int .i64 k, .int .i64 vk, .int .i64 vn, .string vs, .slice va vl vc, .string nm, .slice a l c]] W fun e w' => EvEnd W (OKG ∧ RightP env 6 (.node k (.node vk vn vs Lv) nm A)) (evalF env 6 (.node k (.node vk vn vs Lv) nm A)) e w' ∧ Below W.heap.size W w')
    (X W : World) (h : LawSt w X (.cells #[.slice na nl nc, .slice ea el ec, .int .i64 nx] 25) (.cells #[.slice sa sl sc] 26) (.cells #[.slice ia il ic] 27) S1 T1) (kW : Below X.heap.size X W) (k vk vn : Int) (vs : ByteArray) (va : Option Addr) (vl vc : Nat) (nm : ByteArray) (a : Option Addr) (l c : Nat) (Lv : List T) (A : List Tm) (ht : TmAt W k vk vn vs va vl vc nm a l c Lv A) (hi : InM (.node k (.node vk vn vs Lv) nm A)) :
    Calls Tryd.prog 6 #[.agg #[.int .i64 k, .int .i64 vk, .int .i64 vn, .string vs, .slice va vl vc, .string nm, .slice a l c], .pointer (some ⟨w.heap.size, 0, none⟩), .pointer (some ⟨w.heap.size + 1, 0, none⟩), .pointer (some ⟨w.heap.size + 2, 0, none⟩)] W fun e w' => EvEnd W (OKG ∧ RightP env 6 (.node k (.node vk vn vs Lv) nm A)) (evalF env 6 (.node k (.node vk vn vs Lv) nm A)) e w' ∧ Below W.heap.size W w' :=
  clo_kleene W W na nl nc ea el ec nx sa sl sc ia il ic k vk vn vs va vl vc nm a l c _ _ _ (Below.refl _ _) (h.step kW).g (h.step kW).n (h.step kW).i (fun W' k' => hev W (h.step kW).bel k vk vn vs va vl vc nm a l c Lv A ht hi W' k')

set_option maxHeartbeats 40000000 in
set_option maxRecDepth 100000 in
theorem law_kleene (N : List Nd) (E : List Ed) (na : Option Addr) (nl nc : Nat) (ea : Option Addr) (el ec : Nat) (nx : Int) (S : List ByteArray) (sa : Option Addr) (sl sc : Nat) (I : List Int) (ia : Option Addr) (il ic : Nat) (k1 vk1 vn1 : Int) (vs1 : ByteArray) (va1 : Option Addr) (vl1 vc1 : Nat) (nm1 : ByteArray) (a1 : Option Addr) (l1 c1 : Nat) (Lv1 : List T) (A1 : List Tm) (k2 vk2 vn2 : Int) (vs2 : ByteArray) (va2 : Option Addr) (vl2 vc2 : Nat) (nm2 : ByteArray) (a2 : Option Addr) (l2 c2 : Nat) (Lv2 : List T) (A2 : List Tm) (w : World) (hG : GrOk w N E na nl ea el) (hS : StrsAt w S sa sl) (hII : IntsAt w I ia il) (hT1 : TmAt w k1 vk1 vn1 vs1 va1 vl1 vc1 nm1 a1 l1 c1 Lv1 A1) (hI1 : InM (.node k1 (.node vk1 vn1 vs1 Lv1) nm1 A1)) (hT2 : TmAt w k2 vk2 vn2 vs2 va2 vl2 vc2 nm2 a2 l2 c2 Lv2 A2) (hI2 : InM (.node k2 (.node vk2 vn2 vs2 Lv2) nm2 A2)) (hB : w.heap.size ≤ w.heap.size) (hT : Tabs w.heap.size w) :
    Calls Tryd.prog 3 #[.agg #[.slice na nl nc, .slice ea el ec, .int .i64 nx], .slice sa sl sc, .slice ia il ic, .agg #[.int .i64 k1, .int .i64 vk1, .int .i64 vn1, .string vs1, .slice va1 vl1 vc1, .string nm1, .slice a1 l1 c1], .agg #[.int .i64 k2, .int .i64 vk2, .int .i64 vn2, .string vs2, .slice va2 vl2 vc2, .string nm2, .slice a2 l2 c2]] w fun e w' => e = .returned (.bool true) ∧ Below w.heap.size w w' := by
  obtain ⟨env, OKG, henv, hev⟩ := eval_of (B := w.heap.size) hG nc ec nx sc ic hS hII hB hT
  have HE := toHid henv
  have HC := toHid (clo_kleene_of hev (S1 := .cells #[.int .i64 k1, .int .i64 vk1, .int .i64 vn1, .string vs1, .slice va1 vl1 vc1, .string nm1, .slice a1 l1 c1] 33) (T1 := .cells #[.int .i64 k2, .int .i64 vk2, .int .i64 vn2, .string vs2, .slice va2 vl2 vc2, .string nm2, .slice a2 l2 c2] 33))
  have HT := toHid hT
  have HT1 := toHid hT1
  have HT2 := toHid hT2
  have HI1 := toHid hI1
  have HI2 := toHid hI2
  clear hev henv hT hT1 hT2 hI1 hI2 hG hS hII hB
  go_enter Tryd.func3, Tryd.ntmps3
  have HL0 : Hid (LawSt w (((((w.alloc (.cells #[.slice na nl nc, .slice ea el ec, .int .i64 nx] 25)).alloc (.cells #[.slice sa sl sc] 26)).alloc (.cells #[.slice ia il ic] 27)).alloc (.cells #[.int .i64 k1, .int .i64 vk1, .int .i64 vn1, .string vs1, .slice va1 vl1 vc1, .string nm1, .slice a1 l1 c1] 33)).alloc (.cells #[.int .i64 k2, .int .i64 vk2, .int .i64 vn2, .string vs2, .slice va2 vl2 vc2, .string nm2, .slice a2 l2 c2] 33)) (.cells #[.slice na nl nc, .slice ea el ec, .int .i64 nx] 25) (.cells #[.slice sa sl sc] 26) (.cells #[.slice ia il ic] 27) (.cells #[.int .i64 k1, .int .i64 vk1, .int .i64 vn1, .string vs1, .slice va1 vl1 vc1, .string nm1, .slice a1 l1 c1] 33) (.cells #[.int .i64 k2, .int .i64 vk2, .int .i64 vn2, .string vs2, .slice va2 vl2 vc2, .string nm2, .slice a2 l2 c2] 33)) := law_st0 w _ _ _ _ _
  go_upto_region 2 with fail
  generalize (((((w.alloc (.cells #[.slice na nl nc, .slice ea el ec, .int .i64 nx] 25)).alloc (.cells #[.slice sa sl sc] 26)).alloc (.cells #[.slice ia il ic] 27)).alloc (.cells #[.int .i64 k1, .int .i64 vk1, .int .i64 vn1, .string vs1, .slice va1 vl1 vc1, .string nm1, .slice a1 l1 c1] 33)).alloc (.cells #[.int .i64 k2, .int .i64 vk2, .int .i64 vn2, .string vs2, .slice va2 vl2 vc2, .string nm2, .slice a2 l2 c2] 33)) = X0 at HL0 ⊢
  -- region 2
  have y10 : X0.cell? ⟨w.heap.size + 1 + 1 + 1, 0, none⟩ = some (.int .i64 k1) := cell_of HL0.out.s 0
  have y11 : X0.cell? ⟨w.heap.size + 1 + 1 + 1, 1, none⟩ = some (.int .i64 vk1) := cell_of HL0.out.s 1
  have y12 : X0.cell? ⟨w.heap.size + 1 + 1 + 1, 2, none⟩ = some (.int .i64 vn1) := cell_of HL0.out.s 2
  have y13 : X0.cell? ⟨w.heap.size + 1 + 1 + 1, 3, none⟩ = some (.string vs1) := cell_of HL0.out.s 3
  have y14 : X0.cell? ⟨w.heap.size + 1 + 1 + 1, 4, none⟩ = some (.slice va1 vl1 vc1) := cell_of HL0.out.s 4
  have y15 : X0.cell? ⟨w.heap.size + 1 + 1 + 1, 5, none⟩ = some (.string nm1) := cell_of HL0.out.s 5
  have y16 : X0.cell? ⟨w.heap.size + 1 + 1 + 1, 6, none⟩ = some (.slice a1 l1 c1) := cell_of HL0.out.s 6
  have y20 : X0.cell? ⟨w.heap.size + 1 + 1 + 1 + 1, 0, none⟩ = some (.int .i64 k2) := cell_of HL0.out.t 0
  have y21 : X0.cell? ⟨w.heap.size + 1 + 1 + 1 + 1, 1, none⟩ = some (.int .i64 vk2) := cell_of HL0.out.t 1
  have y22 : X0.cell? ⟨w.heap.size + 1 + 1 + 1 + 1, 2, none⟩ = some (.int .i64 vn2) := cell_of HL0.out.t 2
  have y23 : X0.cell? ⟨w.heap.size + 1 + 1 + 1 + 1, 3, none⟩ = some (.string vs2) := cell_of HL0.out.t 3
  have y24 : X0.cell? ⟨w.heap.size + 1 + 1 + 1 + 1, 4, none⟩ = some (.slice va2 vl2 vc2) := cell_of HL0.out.t 4
  have y25 : X0.cell? ⟨w.heap.size + 1 + 1 + 1 + 1, 5, none⟩ = some (.string nm2) := cell_of HL0.out.t 5
  have y26 : X0.cell? ⟨w.heap.size + 1 + 1 + 1 + 1, 6, none⟩ = some (.slice a2 l2 c2) := cell_of HL0.out.t 6
  have yl1 : w.heap.size + 1 + 1 + 1 < X0.heap.size := lt_block' HL0.out.s
  have yl2 : w.heap.size + 1 + 1 + 1 + 1 < X0.heap.size := lt_block' HL0.out.t
  go_wp2_with fail
  refine (call_made nAnd _ _ _ _).mono ?_
  rintro e u10 ⟨rfl, bm10⟩
  go_wp2_with fail
  refine (call_made nNot _ _ _ _).mono ?_
  rintro e u11 ⟨rfl, bm11⟩
  clear y10 y11 y12 y13 y14 y15 y16 y20 y21 y22 y23 y24 y25 y26 yl1 yl2
  have kk1 : Below X0.heap.size X0 u11 := below2 (bel_al (below2 (bel_al (Below.refl _ _) _) bm10) _) bm11
  have b10 : u11.heap[X0.heap.size]? = some (.cells #[.int .i64 k1, .int .i64 vk1, .int .i64 vn1, .string vs1, .slice va1 vl1 vc1, .string nm1, .slice a1 l1 c1, .int .i64 k2, .int .i64 vk2, .int .i64 vn2, .string vs2, .slice va2 vl2 vc2, .string nm2, .slice a2 l2 c2] 33 (0, 0)) := blk_cl (blk_al (blk_cl (blk_new rfl) bm10)) bm11
  have b11 : u11.heap[u10.heap.size]? = some (.cells #[.int .i64 4, .int .i64 0, .int .i64 0, .string ⟨#[]⟩, .slice none 0 0, .string nAnd, .slice (some ⟨X0.heap.size, 0, none⟩) 2 2] 33 (0, 0)) := blk_cl (blk_new rfl) bm11
  have ts11 := HT1.out.below (below2 HL0.out.bel kk1)
  have ts12 := HT2.out.below (below2 HL0.out.bel kk1)
  have hm1 := (call_at (nmx := nNot) (by decide) (Nat.le_refl _) (lies_one b11 (call_at (nmx := nAnd) (by decide) (Nat.le_refl _) (lies_two b10 ts11 ts12))))
  have HM1 := toHid hm1
  have HKK1 := toHid kk1
  clear hm1 b10 b11 ts11 ts12 bm10 bm11 kk1
  go_wp2_with fail
  refine (HC.out _ _ HL0.out HKK1.out _ _ _ _ _ _ _ _ _ _ _ _ _ HM1.out (call_inM (by unfold InMs; exact ⟨(call_inM (by unfold InMs; exact ⟨HI1.out, by unfold InMs; exact ⟨HI2.out, by unfold InMs; trivial⟩⟩)), by unfold InMs; trivial⟩))).mono ?_
  rintro e v1 ⟨⟨er1, rk1, rn1, rs1, ra1, rl1, rc1, rfl, her1, hva1⟩, bq1⟩
  have HV1 := toHid (vb_new her1 hva1)
  have HL1 := toHid (HL0.out.step (bel_al (below2 HKK1.out bq1) (.cells #[.int .i64 rk1, .int .i64 rn1, .string rs1, .slice ra1 rl1 rc1] 30)))
  clear bq1 her1 hva1 HM1 HKK1 HL0
  go_upto_region 3 with fail
  generalize v1.alloc (.cells #[.int .i64 rk1, .int .i64 rn1, .string rs1, .slice ra1 rl1 rc1] 30) = X1 at HV1 HL1 ⊢
  have HS2 : Hid (∀ W', Below X1.heap.size X1 W' → (W'.cell? ⟨w.heap.size + 1 + 1 + 1, 0, none⟩ = some (.int .i64 k1) ∧ W'.cell? ⟨w.heap.size + 1 + 1 + 1, 1, none⟩ = some (.int .i64 vk1) ∧ W'.cell? ⟨w.heap.size + 1 + 1 + 1, 2, none⟩ = some (.int .i64 vn1) ∧ W'.cell? ⟨w.heap.size + 1 + 1 + 1, 3, none⟩ = some (.string vs1) ∧ W'.cell? ⟨w.heap.size + 1 + 1 + 1, 4, none⟩ = some (.slice va1 vl1 vc1) ∧ W'.cell? ⟨w.heap.size + 1 + 1 + 1, 5, none⟩ = some (.string nm1) ∧ W'.cell? ⟨w.heap.size + 1 + 1 + 1, 6, none⟩ = some (.slice a1 l1 c1) ∧ W'.cell? ⟨w.heap.size + 1 + 1 + 1 + 1, 0, none⟩ = some (.int .i64 k2) ∧ W'.cell? ⟨w.heap.size + 1 + 1 + 1 + 1, 1, none⟩ = some (.int .i64 vk2) ∧ W'.cell? ⟨w.heap.size + 1 + 1 + 1 + 1, 2, none⟩ = some (.int .i64 vn2) ∧ W'.cell? ⟨w.heap.size + 1 + 1 + 1 + 1, 3, none⟩ = some (.string vs2) ∧ W'.cell? ⟨w.heap.size + 1 + 1 + 1 + 1, 4, none⟩ = some (.slice va2 vl2 vc2) ∧ W'.cell? ⟨w.heap.size + 1 + 1 + 1 + 1, 5, none⟩ = some (.string nm2) ∧ W'.cell? ⟨w.heap.size + 1 + 1 + 1 + 1, 6, none⟩ = some (.slice a2 l2 c2))) := fun W' kk => by
    have st := HL1.out.step kk
    exact ⟨cell_of st.s 0, cell_of st.s 1, cell_of st.s 2, cell_of st.s 3, cell_of st.s 4, cell_of st.s 5, cell_of st.s 6, cell_of st.t 0, cell_of st.t 1, cell_of st.t 2, cell_of st.t 3, cell_of st.t 4, cell_of st.t 5, cell_of st.t 6⟩
  have HE2 : Hid (∀ (W : World) (p0 p1 p2 : Nat), Below X1.heap.size X1 W → W.heap[p2]? = some (.cells #[.int .i64 4, .int .i64 0, .int .i64 0, .string ⟨#[]⟩, .slice none 0 0, .string nNot, .slice (some ⟨p0, 0, none⟩) 1 1, .int .i64 4, .int .i64 0, .int .i64 0, .string ⟨#[]⟩, .slice none 0 0, .string nNot, .slice (some ⟨p1, 0, none⟩) 1 1] 33 (0, 0)) → W.heap[p0]? = some (.cells #[.int .i64 k1, .int .i64 vk1, .int .i64 vn1, .string vs1, .slice va1 vl1 vc1, .string nm1, .slice a1 l1 c1] 33 (0, 0)) → W.heap[p1]? = some (.cells #[.int .i64 k2, .int .i64 vk2, .int .i64 vn2, .string vs2, .slice va2 vl2 vc2, .string nm2, .slice a2 l2 c2] 33 (0, 0)) → Calls Tryd.prog 6 #[.agg #[.int .i64 4, .int .i64 0, .int .i64 0, .string ⟨#[]⟩, .slice none 0 0, .string nOr, .slice (some ⟨p2, 0, none⟩) 2 2], .pointer (some ⟨w.heap.size, 0, none⟩), .pointer (some ⟨w.heap.size + 1, 0, none⟩), .pointer (some ⟨w.heap.size + 1 + 1, 0, none⟩)] W fun e w' => EvEnd W (OKG ∧ RightP env 6 (callT nOr [(callT nNot [(.node k1 (.node vk1 vn1 vs1 Lv1) nm1 A1)]), (callT nNot [(.node k2 (.node vk2 vn2 vs2 Lv2) nm2 A2)])])) (evalF env 6 (callT nOr [(callT nNot [(.node k1 (.node vk1 vn1 vs1 Lv1) nm1 A1)]), (callT nNot [(.node k2 (.node vk2 vn2 vs2 Lv2) nm2 A2)])])) e w' ∧ Below W.heap.size W w') := fun W p0 p1 p2 kW b2 b0 b1 => by
    have ts1 := HT1.out.below (below2 HL1.out.bel kW)
    have ts2 := HT2.out.below (below2 HL1.out.bel kW)
    exact HC.out _ _ HL1.out kW _ _ _ _ _ _ _ _ _ _ _ _ _ (call_at (nmx := nOr) (by decide) (Nat.le_refl _) (lies_two b2 (call_at (nmx := nNot) (by decide) (Nat.le_refl _) (lies_one b0 ts1)) (call_at (nmx := nNot) (by decide) (Nat.le_refl _) (lies_one b1 ts2)))) (call_inM (by unfold InMs; exact ⟨(call_inM (by unfold InMs; exact ⟨HI1.out, by unfold InMs; trivial⟩)), by unfold InMs; exact ⟨(call_inM (by unfold InMs; exact ⟨HI2.out, by unfold InMs; trivial⟩)), by unfold InMs; trivial⟩⟩))
  have D0 : Below X1.heap.size X1 X1.drew := (Below.refl _ _).drew
  obtain ⟨y10, y11, y12, y13, y14, y15, y16, y20, y21, y22, y23, y24, y25, y26⟩ := HS2.out X1 (Below.refl _ _)
  have yl1 : w.heap.size + 1 + 1 + 1 < X1.heap.size := lt_block' HL1.out.s
  have yl2 : w.heap.size + 1 + 1 + 1 + 1 < X1.heap.size := lt_block' HL1.out.t
  go_cut [14, 15] (fun sb se wx => EvOut X1 (OKG ∧ RightP env 6 (callT nOr [(callT nNot [(.node k1 (.node vk1 vn1 vs1 Lv1) nm1 A1)]), (callT nNot [(.node k2 (.node vk2 vn2 vs2 Lv2) nm2 A2)])])) (evalF env 6 (callT nOr [(callT nNot [(.node k1 (.node vk1 vn1 vs1 Lv1) nm1 A1)]), (callT nNot [(.node k2 (.node vk2 vn2 vs2 Lv2) nm2 A2)])])) sb se wx)
  case first =>
    rename_i J1 K1 hJ1 hK1
    exact kleene_r3 HC HT1 HT2 HI1 HI2 HL1 _ _ _ _ _ _ _ _ _ _ _ _ _ _ _ _ _ _ _ _ _ _ _ _ _ _ _ _ _ _ _ _ _ _ _ _ _ _ _ _ _ _ _ _ _ _ _ _ _ _ _ _ _ _ _ _ _ _ _ _ _ _ _ _ _ _ _ _ _ _ _ _ _ _ _ _ _ _ _ _ _ _ _ _ _ _ _ _ _ _ _ _ _ _ _ _ _ _ _ _ _ _ _ _ _ _ _ _ _ _ _ _ _ _ _ _ _ _ _ _ _ _ _ _ _ _ J1 K1 _ hJ1 hK1
  case rest =>
    obtain ⟨bx2, er2, rk2, rn2, rs2, ra2, rl2, rc2, rfl, rfl, _, hpb, her, hva, kx⟩ := hcut
    have HV2 : Hid (VB wc bx2 er2 rk2 rn2 rs2 ra2 rl2 rc2 (OKG ∧ RightP env 6 (callT nOr [(callT nNot [(.node k1 (.node vk1 vn1 vs1 Lv1) nm1 A1)]), (callT nNot [(.node k2 (.node vk2 vn2 vs2 Lv2) nm2 A2)])])) (evalF env 6 (callT nOr [(callT nNot [(.node k1 (.node vk1 vn1 vs1 Lv1) nm1 A1)]), (callT nNot [(.node k2 (.node vk2 vn2 vs2 Lv2) nm2 A2)])]))) := ⟨hpb, her, hva⟩
    have HL2 := toHid (HL1.out.step kx)
    replace HV1 := toHid (HV1.out.step kx)
    clear y10 y11 y12 y13 y14 y15 y16 y20 y21 y22 y23 y24 y25 y26 yl1 yl2 D0 HS2 HE2 hpb her hva kx HL1
    obtain ⟨X2, hXX⟩ : ∃ X, X = wc := ⟨_, rfl⟩
    subst hXX
    go_wp2_with fail
    refine (termed_true (B := w.heap.size) _ HL2.out.bel.size (HT.out.below HL2.out.bel)).mono ?_
    rintro e x3 ⟨rfl, bx3⟩
    replace HL2 := toHid (HL2.out.step bx3)
    replace HV1 := toHid (HV1.out.step bx3)
    replace HV2 := toHid (HV2.out.step bx3)
    clear bx3
    by_cases he1 : er1 = 0
    case neg =>
      have hz1 : (er1 != 0) = true := by simp [he1]
      go_wp2_with fail
      refine (termed_true (B := w.heap.size) _ HL2.out.bel.size (HT.out.below HL2.out.bel)).mono ?_
      rintro e x4 ⟨rfl, bx4⟩
      go_wp2_with fail
      go_ret
      exact ⟨rfl, below2 HL2.out.bel bx4⟩
    by_cases he2 : er2 = 0
    case neg =>
      have hz1 : (er1 != 0) = false := by simp [he1]
      have hz2 : (er2 != 0) = true := by simp [he2]
      go_wp2_with fail
      refine (termed_true (B := w.heap.size) _ HL2.out.bel.size (HT.out.below HL2.out.bel)).mono ?_
      rintro e x4 ⟨rfl, bx4⟩
      go_wp2_with fail
      go_ret
      exact ⟨rfl, below2 HL2.out.bel bx4⟩
    have ok1 := HV1.out.err.1 he1
    have ok2 := HV2.out.err.1 he2
    have hz1 : (er1 != 0) = false := by simp [he1]
    have hz2 : (er2 != 0) = false := by simp [he2]
    have KP := toHid (kleene_pure (HE.out ok1.1) ok1.2)
    have OKK := toHid ok1
    have OK2 := toHid ok2
    clear ok1 ok2
    go_upto_region 6 with fail
    clear hz1 hz2 he1 he2
    -- region 6
    have y10 : x3.cell? ⟨w.heap.size + 1 + 1 + 1, 0, none⟩ = some (.int .i64 k1) := cell_of HL2.out.s 0
    have y11 : x3.cell? ⟨w.heap.size + 1 + 1 + 1, 1, none⟩ = some (.int .i64 vk1) := cell_of HL2.out.s 1
    have y12 : x3.cell? ⟨w.heap.size + 1 + 1 + 1, 2, none⟩ = some (.int .i64 vn1) := cell_of HL2.out.s 2
    have y13 : x3.cell? ⟨w.heap.size + 1 + 1 + 1, 3, none⟩ = some (.string vs1) := cell_of HL2.out.s 3
    have y14 : x3.cell? ⟨w.heap.size + 1 + 1 + 1, 4, none⟩ = some (.slice va1 vl1 vc1) := cell_of HL2.out.s 4
    have y15 : x3.cell? ⟨w.heap.size + 1 + 1 + 1, 5, none⟩ = some (.string nm1) := cell_of HL2.out.s 5
    have y16 : x3.cell? ⟨w.heap.size + 1 + 1 + 1, 6, none⟩ = some (.slice a1 l1 c1) := cell_of HL2.out.s 6
    have y20 : x3.cell? ⟨w.heap.size + 1 + 1 + 1 + 1, 0, none⟩ = some (.int .i64 k2) := cell_of HL2.out.t 0
    have y21 : x3.cell? ⟨w.heap.size + 1 + 1 + 1 + 1, 1, none⟩ = some (.int .i64 vk2) := cell_of HL2.out.t 1
    have y22 : x3.cell? ⟨w.heap.size + 1 + 1 + 1 + 1, 2, none⟩ = some (.int .i64 vn2) := cell_of HL2.out.t 2
    have y23 : x3.cell? ⟨w.heap.size + 1 + 1 + 1 + 1, 3, none⟩ = some (.string vs2) := cell_of HL2.out.t 3
    have y24 : x3.cell? ⟨w.heap.size + 1 + 1 + 1 + 1, 4, none⟩ = some (.slice va2 vl2 vc2) := cell_of HL2.out.t 4
    have y25 : x3.cell? ⟨w.heap.size + 1 + 1 + 1 + 1, 5, none⟩ = some (.string nm2) := cell_of HL2.out.t 5
    have y26 : x3.cell? ⟨w.heap.size + 1 + 1 + 1 + 1, 6, none⟩ = some (.slice a2 l2 c2) := cell_of HL2.out.t 6
    have yl1 : w.heap.size + 1 + 1 + 1 < x3.heap.size := lt_block' HL2.out.s
    have yl2 : w.heap.size + 1 + 1 + 1 + 1 < x3.heap.size := lt_block' HL2.out.t
    go_wp2_with fail
    refine (call_made nOr _ _ _ _).mono ?_
    rintro e u30 ⟨rfl, bm30⟩
    clear y10 y11 y12 y13 y14 y15 y16 y20 y21 y22 y23 y24 y25 y26 yl1 yl2
    have kk3 : Below x3.heap.size x3 u30 := below2 (bel_al (Below.refl _ _) _) bm30
    have b30 : u30.heap[x3.heap.size]? = some (.cells #[.int .i64 k1, .int .i64 vk1, .int .i64 vn1, .string vs1, .slice va1 vl1 vc1, .string nm1, .slice a1 l1 c1, .int .i64 k2, .int .i64 vk2, .int .i64 vn2, .string vs2, .slice va2 vl2 vc2, .string nm2, .slice a2 l2 c2] 33 (0, 0)) := blk_cl (blk_new rfl) bm30
    have ts31 := HT1.out.below (below2 HL2.out.bel kk3)
    have ts32 := HT2.out.below (below2 HL2.out.bel kk3)
    have hm3 := (call_at (nmx := nOr) (by decide) (Nat.le_refl _) (lies_two b30 ts31 ts32))
    have HM3 := toHid hm3
    have HKK3 := toHid kk3
    clear hm3 b30 ts31 ts32 bm30 kk3
    go_wp2_with fail
    refine (HC.out _ _ HL2.out HKK3.out _ _ _ _ _ _ _ _ _ _ _ _ _ HM3.out (call_inM (by unfold InMs; exact ⟨HI1.out, by unfold InMs; exact ⟨HI2.out, by unfold InMs; trivial⟩⟩))).mono ?_
    rintro e v3 ⟨⟨er3, rk3, rn3, rs3, ra3, rl3, rc3, rfl, her3, hva3⟩, bq3⟩
    have HV3 := toHid (vb_new her3 hva3)
    have HL3 := toHid (HL2.out.step (bel_al (below2 HKK3.out bq3) (.cells #[.int .i64 rk3, .int .i64 rn3, .string rs3, .slice ra3 rl3 rc3] 30)))
    replace HV1 := toHid (HV1.out.step (bel_al (below2 HKK3.out bq3) (.cells #[.int .i64 rk3, .int .i64 rn3, .string rs3, .slice ra3 rl3 rc3] 30)))
    replace HV2 := toHid (HV2.out.step (bel_al (below2 HKK3.out bq3) (.cells #[.int .i64 rk3, .int .i64 rn3, .string rs3, .slice ra3 rl3 rc3] 30)))
    clear bq3 her3 hva3 HM3 HKK3 HL2
    go_upto_region 7 with fail
    generalize v3.alloc (.cells #[.int .i64 rk3, .int .i64 rn3, .string rs3, .slice ra3 rl3 rc3] 30) = X3 at HV1 HV2 HV3 HL3 ⊢
    -- region 7
    have y10 : X3.cell? ⟨w.heap.size + 1 + 1 + 1, 0, none⟩ = some (.int .i64 k1) := cell_of HL3.out.s 0
    have y11 : X3.cell? ⟨w.heap.size + 1 + 1 + 1, 1, none⟩ = some (.int .i64 vk1) := cell_of HL3.out.s 1
    have y12 : X3.cell? ⟨w.heap.size + 1 + 1 + 1, 2, none⟩ = some (.int .i64 vn1) := cell_of HL3.out.s 2
    have y13 : X3.cell? ⟨w.heap.size + 1 + 1 + 1, 3, none⟩ = some (.string vs1) := cell_of HL3.out.s 3
    have y14 : X3.cell? ⟨w.heap.size + 1 + 1 + 1, 4, none⟩ = some (.slice va1 vl1 vc1) := cell_of HL3.out.s 4
    have y15 : X3.cell? ⟨w.heap.size + 1 + 1 + 1, 5, none⟩ = some (.string nm1) := cell_of HL3.out.s 5
    have y16 : X3.cell? ⟨w.heap.size + 1 + 1 + 1, 6, none⟩ = some (.slice a1 l1 c1) := cell_of HL3.out.s 6
    have y20 : X3.cell? ⟨w.heap.size + 1 + 1 + 1 + 1, 0, none⟩ = some (.int .i64 k2) := cell_of HL3.out.t 0
    have y21 : X3.cell? ⟨w.heap.size + 1 + 1 + 1 + 1, 1, none⟩ = some (.int .i64 vk2) := cell_of HL3.out.t 1
    have y22 : X3.cell? ⟨w.heap.size + 1 + 1 + 1 + 1, 2, none⟩ = some (.int .i64 vn2) := cell_of HL3.out.t 2
    have y23 : X3.cell? ⟨w.heap.size + 1 + 1 + 1 + 1, 3, none⟩ = some (.string vs2) := cell_of HL3.out.t 3
    have y24 : X3.cell? ⟨w.heap.size + 1 + 1 + 1 + 1, 4, none⟩ = some (.slice va2 vl2 vc2) := cell_of HL3.out.t 4
    have y25 : X3.cell? ⟨w.heap.size + 1 + 1 + 1 + 1, 5, none⟩ = some (.string nm2) := cell_of HL3.out.t 5
    have y26 : X3.cell? ⟨w.heap.size + 1 + 1 + 1 + 1, 6, none⟩ = some (.slice a2 l2 c2) := cell_of HL3.out.t 6
    have yl1 : w.heap.size + 1 + 1 + 1 < X3.heap.size := lt_block' HL3.out.s
    have yl2 : w.heap.size + 1 + 1 + 1 + 1 < X3.heap.size := lt_block' HL3.out.t
    go_wp2_with fail
    refine (call_made nOr _ _ _ _).mono ?_
    rintro e u40 ⟨rfl, bm40⟩
    clear y10 y11 y12 y13 y14 y15 y16 y20 y21 y22 y23 y24 y25 y26 yl1 yl2
    have kk4 : Below X3.heap.size X3 u40 := below2 (bel_al (Below.refl _ _) _) bm40
    have b40 : u40.heap[X3.heap.size]? = some (.cells #[.int .i64 k2, .int .i64 vk2, .int .i64 vn2, .string vs2, .slice va2 vl2 vc2, .string nm2, .slice a2 l2 c2, .int .i64 k1, .int .i64 vk1, .int .i64 vn1, .string vs1, .slice va1 vl1 vc1, .string nm1, .slice a1 l1 c1] 33 (0, 0)) := blk_cl (blk_new rfl) bm40
    have ts41 := HT1.out.below (below2 HL3.out.bel kk4)
    have ts42 := HT2.out.below (below2 HL3.out.bel kk4)
    have hm4 := (call_at (nmx := nOr) (by decide) (Nat.le_refl _) (lies_two b40 ts42 ts41))
    have HM4 := toHid hm4
    have HKK4 := toHid kk4
    clear hm4 b40 ts41 ts42 bm40 kk4
    go_wp2_with fail
    refine (HC.out _ _ HL3.out HKK4.out _ _ _ _ _ _ _ _ _ _ _ _ _ HM4.out (call_inM (by unfold InMs; exact ⟨HI2.out, by unfold InMs; exact ⟨HI1.out, by unfold InMs; trivial⟩⟩))).mono ?_
    rintro e v4 ⟨⟨er4, rk4, rn4, rs4, ra4, rl4, rc4, rfl, her4, hva4⟩, bq4⟩
    have HV4 := toHid (vb_new her4 hva4)
    have HL4 := toHid (HL3.out.step (bel_al (below2 HKK4.out bq4) (.cells #[.int .i64 rk4, .int .i64 rn4, .string rs4, .slice ra4 rl4 rc4] 30)))
    replace HV1 := toHid (HV1.out.step (bel_al (below2 HKK4.out bq4) (.cells #[.int .i64 rk4, .int .i64 rn4, .string rs4, .slice ra4 rl4 rc4] 30)))
    replace HV2 := toHid (HV2.out.step (bel_al (below2 HKK4.out bq4) (.cells #[.int .i64 rk4, .int .i64 rn4, .string rs4, .slice ra4 rl4 rc4] 30)))
    replace HV3 := toHid (HV3.out.step (bel_al (below2 HKK4.out bq4) (.cells #[.int .i64 rk4, .int .i64 rn4, .string rs4, .slice ra4 rl4 rc4] 30)))
    clear bq4 her4 hva4 HM4 HKK4 HL3
    go_upto_region 8 with fail
    generalize v4.alloc (.cells #[.int .i64 rk4, .int .i64 rn4, .string rs4, .slice ra4 rl4 rc4] 30) = X4 at HV1 HV2 HV3 HV4 HL4 ⊢
    -- region 8
    have y10 : X4.cell? ⟨w.heap.size + 1 + 1 + 1, 0, none⟩ = some (.int .i64 k1) := cell_of HL4.out.s 0
    have y11 : X4.cell? ⟨w.heap.size + 1 + 1 + 1, 1, none⟩ = some (.int .i64 vk1) := cell_of HL4.out.s 1
    have y12 : X4.cell? ⟨w.heap.size + 1 + 1 + 1, 2, none⟩ = some (.int .i64 vn1) := cell_of HL4.out.s 2
    have y13 : X4.cell? ⟨w.heap.size + 1 + 1 + 1, 3, none⟩ = some (.string vs1) := cell_of HL4.out.s 3
    have y14 : X4.cell? ⟨w.heap.size + 1 + 1 + 1, 4, none⟩ = some (.slice va1 vl1 vc1) := cell_of HL4.out.s 4
    have y15 : X4.cell? ⟨w.heap.size + 1 + 1 + 1, 5, none⟩ = some (.string nm1) := cell_of HL4.out.s 5
    have y16 : X4.cell? ⟨w.heap.size + 1 + 1 + 1, 6, none⟩ = some (.slice a1 l1 c1) := cell_of HL4.out.s 6
    have y20 : X4.cell? ⟨w.heap.size + 1 + 1 + 1 + 1, 0, none⟩ = some (.int .i64 k2) := cell_of HL4.out.t 0
    have y21 : X4.cell? ⟨w.heap.size + 1 + 1 + 1 + 1, 1, none⟩ = some (.int .i64 vk2) := cell_of HL4.out.t 1
    have y22 : X4.cell? ⟨w.heap.size + 1 + 1 + 1 + 1, 2, none⟩ = some (.int .i64 vn2) := cell_of HL4.out.t 2
    have y23 : X4.cell? ⟨w.heap.size + 1 + 1 + 1 + 1, 3, none⟩ = some (.string vs2) := cell_of HL4.out.t 3
    have y24 : X4.cell? ⟨w.heap.size + 1 + 1 + 1 + 1, 4, none⟩ = some (.slice va2 vl2 vc2) := cell_of HL4.out.t 4
    have y25 : X4.cell? ⟨w.heap.size + 1 + 1 + 1 + 1, 5, none⟩ = some (.string nm2) := cell_of HL4.out.t 5
    have y26 : X4.cell? ⟨w.heap.size + 1 + 1 + 1 + 1, 6, none⟩ = some (.slice a2 l2 c2) := cell_of HL4.out.t 6
    have yl1 : w.heap.size + 1 + 1 + 1 < X4.heap.size := lt_block' HL4.out.s
    have yl2 : w.heap.size + 1 + 1 + 1 + 1 < X4.heap.size := lt_block' HL4.out.t
    go_wp2_with fail
    refine (call_made nCoal _ _ _ _).mono ?_
    rintro e u50 ⟨rfl, bm50⟩
    go_wp2_with fail
    refine (call_made nNull _ _ _ _).mono ?_
    rintro e u51 ⟨rfl, bm51⟩
    clear y10 y11 y12 y13 y14 y15 y16 y20 y21 y22 y23 y24 y25 y26 yl1 yl2
    have kk5 : Below X4.heap.size X4 u51 := below2 (bel_al (below2 (bel_al (Below.refl _ _) _) bm50) _) bm51
    have b50 : u51.heap[X4.heap.size]? = some (.cells #[.int .i64 k1, .int .i64 vk1, .int .i64 vn1, .string vs1, .slice va1 vl1 vc1, .string nm1, .slice a1 l1 c1, .int .i64 k2, .int .i64 vk2, .int .i64 vn2, .string vs2, .slice va2 vl2 vc2, .string nm2, .slice a2 l2 c2] 33 (0, 0)) := blk_cl (blk_al (blk_cl (blk_new rfl) bm50)) bm51
    have b51 : u51.heap[u50.heap.size]? = some (.cells #[.int .i64 4, .int .i64 0, .int .i64 0, .string ⟨#[]⟩, .slice none 0 0, .string nCoal, .slice (some ⟨X4.heap.size, 0, none⟩) 2 2] 33 (0, 0)) := blk_cl (blk_new rfl) bm51
    have ts51 := HT1.out.below (below2 HL4.out.bel kk5)
    have ts52 := HT2.out.below (below2 HL4.out.bel kk5)
    have hm5 := (call_at (nmx := nNull) (by decide) (Nat.le_refl _) (lies_one b51 (call_at (nmx := nCoal) (by decide) (Nat.le_refl _) (lies_two b50 ts51 ts52))))
    have HM5 := toHid hm5
    have HKK5 := toHid kk5
    clear hm5 b50 b51 ts51 ts52 bm50 bm51 kk5
    go_wp2_with fail
    refine (HC.out _ _ HL4.out HKK5.out _ _ _ _ _ _ _ _ _ _ _ _ _ HM5.out (call_inM (by unfold InMs; exact ⟨(call_inM (by unfold InMs; exact ⟨HI1.out, by unfold InMs; exact ⟨HI2.out, by unfold InMs; trivial⟩⟩)), by unfold InMs; trivial⟩))).mono ?_
    rintro e v5 ⟨⟨er5, rk5, rn5, rs5, ra5, rl5, rc5, rfl, her5, hva5⟩, bq5⟩
    have HV5 := toHid (vb_new her5 hva5)
    have HL5 := toHid (HL4.out.step (bel_al (below2 HKK5.out bq5) (.cells #[.int .i64 rk5, .int .i64 rn5, .string rs5, .slice ra5 rl5 rc5] 30)))
    replace HV1 := toHid (HV1.out.step (bel_al (below2 HKK5.out bq5) (.cells #[.int .i64 rk5, .int .i64 rn5, .string rs5, .slice ra5 rl5 rc5] 30)))
    replace HV2 := toHid (HV2.out.step (bel_al (below2 HKK5.out bq5) (.cells #[.int .i64 rk5, .int .i64 rn5, .string rs5, .slice ra5 rl5 rc5] 30)))
    replace HV3 := toHid (HV3.out.step (bel_al (below2 HKK5.out bq5) (.cells #[.int .i64 rk5, .int .i64 rn5, .string rs5, .slice ra5 rl5 rc5] 30)))
    replace HV4 := toHid (HV4.out.step (bel_al (below2 HKK5.out bq5) (.cells #[.int .i64 rk5, .int .i64 rn5, .string rs5, .slice ra5 rl5 rc5] 30)))
    clear bq5 her5 hva5 HM5 HKK5 HL4
    go_upto_region 9 with fail
    generalize v5.alloc (.cells #[.int .i64 rk5, .int .i64 rn5, .string rs5, .slice ra5 rl5 rc5] 30) = X5 at HV1 HV2 HV3 HV4 HV5 HL5 ⊢
    have HS6 : Hid (∀ W', Below X5.heap.size X5 W' → (W'.cell? ⟨w.heap.size + 1 + 1 + 1, 0, none⟩ = some (.int .i64 k1) ∧ W'.cell? ⟨w.heap.size + 1 + 1 + 1, 1, none⟩ = some (.int .i64 vk1) ∧ W'.cell? ⟨w.heap.size + 1 + 1 + 1, 2, none⟩ = some (.int .i64 vn1) ∧ W'.cell? ⟨w.heap.size + 1 + 1 + 1, 3, none⟩ = some (.string vs1) ∧ W'.cell? ⟨w.heap.size + 1 + 1 + 1, 4, none⟩ = some (.slice va1 vl1 vc1) ∧ W'.cell? ⟨w.heap.size + 1 + 1 + 1, 5, none⟩ = some (.string nm1) ∧ W'.cell? ⟨w.heap.size + 1 + 1 + 1, 6, none⟩ = some (.slice a1 l1 c1) ∧ W'.cell? ⟨w.heap.size + 1 + 1 + 1 + 1, 0, none⟩ = some (.int .i64 k2) ∧ W'.cell? ⟨w.heap.size + 1 + 1 + 1 + 1, 1, none⟩ = some (.int .i64 vk2) ∧ W'.cell? ⟨w.heap.size + 1 + 1 + 1 + 1, 2, none⟩ = some (.int .i64 vn2) ∧ W'.cell? ⟨w.heap.size + 1 + 1 + 1 + 1, 3, none⟩ = some (.string vs2) ∧ W'.cell? ⟨w.heap.size + 1 + 1 + 1 + 1, 4, none⟩ = some (.slice va2 vl2 vc2) ∧ W'.cell? ⟨w.heap.size + 1 + 1 + 1 + 1, 5, none⟩ = some (.string nm2) ∧ W'.cell? ⟨w.heap.size + 1 + 1 + 1 + 1, 6, none⟩ = some (.slice a2 l2 c2))) := fun W' kk => by
      have st := HL5.out.step kk
      exact ⟨cell_of st.s 0, cell_of st.s 1, cell_of st.s 2, cell_of st.s 3, cell_of st.s 4, cell_of st.s 5, cell_of st.s 6, cell_of st.t 0, cell_of st.t 1, cell_of st.t 2, cell_of st.t 3, cell_of st.t 4, cell_of st.t 5, cell_of st.t 6⟩
    have HE6 : Hid (∀ (W : World) (p0 p1 p2 : Nat), Below X5.heap.size X5 W → W.heap[p2]? = some (.cells #[.int .i64 4, .int .i64 0, .int .i64 0, .string ⟨#[]⟩, .slice none 0 0, .string nNull, .slice (some ⟨p0, 0, none⟩) 1 1, .int .i64 4, .int .i64 0, .int .i64 0, .string ⟨#[]⟩, .slice none 0 0, .string nNull, .slice (some ⟨p1, 0, none⟩) 1 1] 33 (0, 0)) → W.heap[p0]? = some (.cells #[.int .i64 k1, .int .i64 vk1, .int .i64 vn1, .string vs1, .slice va1 vl1 vc1, .string nm1, .slice a1 l1 c1] 33 (0, 0)) → W.heap[p1]? = some (.cells #[.int .i64 k2, .int .i64 vk2, .int .i64 vn2, .string vs2, .slice va2 vl2 vc2, .string nm2, .slice a2 l2 c2] 33 (0, 0)) → Calls Tryd.prog 6 #[.agg #[.int .i64 4, .int .i64 0, .int .i64 0, .string ⟨#[]⟩, .slice none 0 0, .string nAnd, .slice (some ⟨p2, 0, none⟩) 2 2], .pointer (some ⟨w.heap.size, 0, none⟩), .pointer (some ⟨w.heap.size + 1, 0, none⟩), .pointer (some ⟨w.heap.size + 1 + 1, 0, none⟩)] W fun e w' => EvEnd W (OKG ∧ RightP env 6 (callT nAnd [(callT nNull [(.node k1 (.node vk1 vn1 vs1 Lv1) nm1 A1)]), (callT nNull [(.node k2 (.node vk2 vn2 vs2 Lv2) nm2 A2)])])) (evalF env 6 (callT nAnd [(callT nNull [(.node k1 (.node vk1 vn1 vs1 Lv1) nm1 A1)]), (callT nNull [(.node k2 (.node vk2 vn2 vs2 Lv2) nm2 A2)])])) e w' ∧ Below W.heap.size W w') := fun W p0 p1 p2 kW b2 b0 b1 => by
      have ts1 := HT1.out.below (below2 HL5.out.bel kW)
      have ts2 := HT2.out.below (below2 HL5.out.bel kW)
      exact HC.out _ _ HL5.out kW _ _ _ _ _ _ _ _ _ _ _ _ _ (call_at (nmx := nAnd) (by decide) (Nat.le_refl _) (lies_two b2 (call_at (nmx := nNull) (by decide) (Nat.le_refl _) (lies_one b0 ts1)) (call_at (nmx := nNull) (by decide) (Nat.le_refl _) (lies_one b1 ts2)))) (call_inM (by unfold InMs; exact ⟨(call_inM (by unfold InMs; exact ⟨HI1.out, by unfold InMs; trivial⟩)), by unfold InMs; exact ⟨(call_inM (by unfold InMs; exact ⟨HI2.out, by unfold InMs; trivial⟩)), by unfold InMs; trivial⟩⟩))
    have D0 : Below X5.heap.size X5 X5.drew := (Below.refl _ _).drew
    obtain ⟨y10, y11, y12, y13, y14, y15, y16, y20, y21, y22, y23, y24, y25, y26⟩ := HS6.out X5 (Below.refl _ _)
    have yl1 : w.heap.size + 1 + 1 + 1 < X5.heap.size := lt_block' HL5.out.s
    have yl2 : w.heap.size + 1 + 1 + 1 + 1 < X5.heap.size := lt_block' HL5.out.t
    go_cut [20, 21] (fun sb se wx => EvOut X5 (OKG ∧ RightP env 6 (callT nAnd [(callT nNull [(.node k1 (.node vk1 vn1 vs1 Lv1) nm1 A1)]), (callT nNull [(.node k2 (.node vk2 vn2 vs2 Lv2) nm2 A2)])])) (evalF env 6 (callT nAnd [(callT nNull [(.node k1 (.node vk1 vn1 vs1 Lv1) nm1 A1)]), (callT nNull [(.node k2 (.node vk2 vn2 vs2 Lv2) nm2 A2)])])) sb se wx)
    case first =>
      rename_i J1 K1 hJ1 hK1
      exact kleene_r9 HC HT1 HT2 HI1 HI2 HL5 _ _ _ _ _ _ _ _ _ _ _ _ _ _ _ _ _ _ _ _ _ _ _ _ _ _ _ _ _ _ _ _ _ _ _ _ _ _ _ _ _ _ _ _ _ _ _ _ _ _ _ _ _ _ _ _ _ _ _ _ _ _ _ _ _ _ _ _ _ _ _ _ _ _ _ _ _ _ _ _ _ _ _ _ _ _ _ _ _ _ _ _ _ _ _ _ _ _ _ _ _ _ _ _ _ _ _ _ _ _ _ _ _ _ _ _ _ _ _ _ _ _ _ _ _ _ J1 K1 _ hJ1 hK1
    case rest =>
      obtain ⟨bx6, er6, rk6, rn6, rs6, ra6, rl6, rc6, rfl, rfl, _, hpb, her, hva, kx⟩ := hcut
      have HV6 : Hid (VB wc bx6 er6 rk6 rn6 rs6 ra6 rl6 rc6 (OKG ∧ RightP env 6 (callT nAnd [(callT nNull [(.node k1 (.node vk1 vn1 vs1 Lv1) nm1 A1)]), (callT nNull [(.node k2 (.node vk2 vn2 vs2 Lv2) nm2 A2)])])) (evalF env 6 (callT nAnd [(callT nNull [(.node k1 (.node vk1 vn1 vs1 Lv1) nm1 A1)]), (callT nNull [(.node k2 (.node vk2 vn2 vs2 Lv2) nm2 A2)])]))) := ⟨hpb, her, hva⟩
      have HL6 := toHid (HL5.out.step kx)
      replace HV1 := toHid (HV1.out.step kx)
      replace HV2 := toHid (HV2.out.step kx)
      replace HV3 := toHid (HV3.out.step kx)
      replace HV4 := toHid (HV4.out.step kx)
      replace HV5 := toHid (HV5.out.step kx)
      clear y10 y11 y12 y13 y14 y15 y16 y20 y21 y22 y23 y24 y25 y26 yl1 yl2 D0 HS6 HE6 hpb her hva kx HL5
      obtain ⟨X6, hXX⟩ : ∃ X, X = wc := ⟨_, rfl⟩
      subst hXX
      have e3 : er3 = 0 := HV3.out.err.2 ⟨OKK.out.1, KP.out.2.1.1⟩
      have e4 : er4 = 0 := HV4.out.err.2 ⟨OKK.out.1, KP.out.2.1.2.1⟩
      have e5 : er5 = 0 := HV5.out.err.2 ⟨OKK.out.1, KP.out.2.2.1⟩
      have e6 : er6 = 0 := HV6.out.err.2 ⟨OKK.out.1, KP.out.2.2.2.1⟩
      subst e3 e4 e5 e6
      have HQ1 : Hid (rk2 = rk1 ∧ rn2 = rn1 ∧ rs2 = rs1 ∧ ∃ L, wtL L ≤ 1099511627776 ∧ LiesS X6 L ra1 rl1 ∧ LiesS X6 L ra2 rl2) := by
        obtain ⟨La, g1, _, _, g2⟩ := HV1.out.val OKK.out
        obtain ⟨Lb, g3, _, _, g4⟩ := HV2.out.val OK2.out
        have hw := wt_of (cw_eval (HE.out OKK.out.1) 6 _ (And.right (show OKG ∧ _ from OKK.out))) _ _ _ _ g1
        have ee := g3.symm.trans ((KP.out.1).symm.trans g1)
        injection ee with q1 q2 q3 q4
        subst q4
        exact ⟨q1, q2, q3, Lb, hw, g2, g4⟩
      have HQ3 : Hid (rk4 = rk3 ∧ rn4 = rn3 ∧ rs4 = rs3 ∧ ∃ L, wtL L ≤ 1099511627776 ∧ LiesS X6 L ra3 rl3 ∧ LiesS X6 L ra4 rl4) := by
        obtain ⟨La, g1, _, _, g2⟩ := HV3.out.val ⟨OKK.out.1, KP.out.2.1.1⟩
        obtain ⟨Lb, g3, _, _, g4⟩ := HV4.out.val ⟨OKK.out.1, KP.out.2.1.2.1⟩
        have hw := wt_of (cw_eval (HE.out OKK.out.1) 6 _ (And.right (show OKG ∧ _ from ⟨OKK.out.1, KP.out.2.1.1⟩))) _ _ _ _ g1
        have ee := g3.symm.trans ((KP.out.2.1.2.2).symm.trans g1)
        injection ee with q1 q2 q3 q4
        subst q4
        exact ⟨q1, q2, q3, Lb, hw, g2, g4⟩
      have HQ5 : Hid (rk6 = rk5 ∧ rn6 = rn5 ∧ rs6 = rs5 ∧ ∃ L, wtL L ≤ 1099511627776 ∧ LiesS X6 L ra5 rl5 ∧ LiesS X6 L ra6 rl6) := by
        obtain ⟨La, g1, _, _, g2⟩ := HV5.out.val ⟨OKK.out.1, KP.out.2.2.1⟩
        obtain ⟨Lb, g3, _, _, g4⟩ := HV6.out.val ⟨OKK.out.1, KP.out.2.2.2.1⟩
        have hw := wt_of (cw_eval (HE.out OKK.out.1) 6 _ (And.right (show OKG ∧ _ from ⟨OKK.out.1, KP.out.2.2.1⟩))) _ _ _ _ g1
        have ee := g3.symm.trans ((KP.out.2.2.2.2).symm.trans g1)
        injection ee with q1 q2 q3 q4
        subst q4
        exact ⟨q1, q2, q3, Lb, hw, g2, g4⟩
      obtain ⟨q1, q2, q3, L1, hw1, hl1, hm1⟩ := HQ1.out
      obtain ⟨g1, g2, g3, L3, hw3, hl3, hm3⟩ := HQ3.out
      obtain ⟨d1, d2, d3, L5, hw5, hl5, hm5⟩ := HQ5.out
      subst q1 q2 q3 g1 g2 g3 d1 d2 d3
      have KA := toHid hl1
      have KB := toHid hm1
      have KC := toHid hl3
      have KD := toHid hm3
      have KE := toHid hl5
      have KF := toHid hm5
      clear hl1 hm1 hl3 hm3 hl5 hm5 HQ1 HQ3 HQ5
      have z10 := cell_of HV1.out.box 0
      have z11 := cell_of HV1.out.box 1
      have z12 := cell_of HV1.out.box 2
      have z13 := cell_of HV1.out.box 3
      have zl1 : v1.heap.size < X6.heap.size := lt_block' HV1.out.box
      have z20 := cell_of HV2.out.box 0
      have z21 := cell_of HV2.out.box 1
      have z22 := cell_of HV2.out.box 2
      have z23 := cell_of HV2.out.box 3
      have zl2 : bx2 < X6.heap.size := lt_block' HV2.out.box
      simp at z10 z11 z12 z13 z20 z21 z22 z23
      go_wp2_with fail
      refine (same_copy _ _ _ _ _ _ _ _ _ _ _ hw1 KA.out KB.out).mono ?_
      rintro e x10 ⟨rfl, bs0⟩
      clear z10 z11 z12 z13 z20 z21 z22 z23 zl1 zl2
      have kb1 : Below X6.heap.size X6 x10 := bs0
      have z30 := cell_of (HV3.out.step kb1).box 0
      have z31 := cell_of (HV3.out.step kb1).box 1
      have z32 := cell_of (HV3.out.step kb1).box 2
      have z33 := cell_of (HV3.out.step kb1).box 3
      have zl3 : v3.heap.size < x10.heap.size := lt_block' (HV3.out.step kb1).box
      have z40 := cell_of (HV4.out.step kb1).box 0
      have z41 := cell_of (HV4.out.step kb1).box 1
      have z42 := cell_of (HV4.out.step kb1).box 2
      have z43 := cell_of (HV4.out.step kb1).box 3
      have zl4 : v4.heap.size < x10.heap.size := lt_block' (HV4.out.step kb1).box
      simp at z30 z31 z32 z33 z40 z41 z42 z43
      go_wp2_with fail
      refine (same_copy _ _ _ _ _ _ _ _ _ _ _ hw3 (LiesS.below kb1 _ _ _ KC.out) (LiesS.below kb1 _ _ _ KD.out)).mono ?_
      rintro e x11 ⟨rfl, bs1⟩
      clear z30 z31 z32 z33 z40 z41 z42 z43 zl3 zl4
      have kb2 : Below X6.heap.size X6 x11 := below2 bs0 bs1
      have z50 := cell_of (HV5.out.step kb2).box 0
      have z51 := cell_of (HV5.out.step kb2).box 1
      have z52 := cell_of (HV5.out.step kb2).box 2
      have z53 := cell_of (HV5.out.step kb2).box 3
      have zl5 : v5.heap.size < x11.heap.size := lt_block' (HV5.out.step kb2).box
      have z60 := cell_of (HV6.out.step kb2).box 0
      have z61 := cell_of (HV6.out.step kb2).box 1
      have z62 := cell_of (HV6.out.step kb2).box 2
      have z63 := cell_of (HV6.out.step kb2).box 3
      have zl6 : bx6 < x11.heap.size := lt_block' (HV6.out.step kb2).box
      simp at z50 z51 z52 z53 z60 z61 z62 z63
      go_wp2_with fail
      refine (same_copy _ _ _ _ _ _ _ _ _ _ _ hw5 (LiesS.below kb2 _ _ _ KE.out) (LiesS.below kb2 _ _ _ KF.out)).mono ?_
      rintro e x12 ⟨rfl, bs2⟩
      clear z50 z51 z52 z53 z60 z61 z62 z63 zl5 zl6
      go_wp2_with fail
      go_ret
      exact ⟨rfl, below2 (below2 (below2 HL6.out.bel bs0) bs1) bs2⟩
end Go.Proofs.YtfjlpjemccllaaaDoor
