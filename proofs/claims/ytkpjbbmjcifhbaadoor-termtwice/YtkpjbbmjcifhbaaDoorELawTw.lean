/-
  What is proved here: the law TermTwice answers true of any graph, names and terms; what was there is as it was.
-/
import Derived.Test.YtkpjbbmjcifhbaaDoorQTBH
import Derived.Test.YtkpjbbmjcifhbaaDoorQTBG
namespace Go.Proofs.YtkpjbbmjcifhbaaDoor
open Go.RowKit
set_option linter.unusedVariables false
set_option linter.unusedSimpArgs false

theorem clo_twice_of {w : World} {OKG : Prop} {env : ByteArray → Option Th} {na : Option Addr} {nl nc : Nat} {ea : Option Addr} {el ec : Nat} {nx : Int} {sa : Option Addr} {sl sc : Nat} {ia : Option Addr} {il ic : Nat} {S1 T1 : Obj}
    (hev : ∀ (w1 : World), Below w.heap.size w w1 → ∀ (k vk vn : Int) (vs : ByteArray) (va : Option Addr) (vl vc : Nat) (nm : ByteArray) (a : Option Addr) (l c : Nat) (Lv : List T) (A : List Tm), TmAt w1 k vk vn vs va vl vc nm a l c Lv A → InM (.node k (.node vk vn vs Lv) nm A) → ∀ W, Below w1.heap.size w1 W →
      Calls Tryd.prog 7 #[.agg #[.slice na nl nc, .slice ea el ec, .int .i64 nx], .slice sa sl sc, .slice ia il ic, .agg #[.int .i64 k, .int .i64 vk, .int .i64 vn, .string vs, .slice va vl vc, .string nm, .slice a l c]] W fun e w' => EvEnd W (OKG ∧ RightP env 6 (.node k (.node vk vn vs Lv) nm A)) (evalF env 6 (.node k (.node vk vn vs Lv) nm A)) e w' ∧ Below W.heap.size W w')
    (X W : World) (h : LawSt w X (.cells #[.slice na nl nc, .slice ea el ec, .int .i64 nx] 25) (.cells #[.slice sa sl sc] 26) (.cells #[.slice ia il ic] 27) S1 T1) (kW : Below X.heap.size X W) (k vk vn : Int) (vs : ByteArray) (va : Option Addr) (vl vc : Nat) (nm : ByteArray) (a : Option Addr) (l c : Nat) (Lv : List T) (A : List Tm) (ht : TmAt W k vk vn vs va vl vc nm a l c Lv A) (hi : InM (.node k (.node vk vn vs Lv) nm A)) :
    Calls Tryd.prog 11 #[.agg #[.int .i64 k, .int .i64 vk, .int .i64 vn, .string vs, .slice va vl vc, .string nm, .slice a l c], .pointer (some ⟨w.heap.size, 0, none⟩), .pointer (some ⟨w.heap.size + 1, 0, none⟩), .pointer (some ⟨w.heap.size + 2, 0, none⟩)] W fun e w' => EvEnd W (OKG ∧ RightP env 6 (.node k (.node vk vn vs Lv) nm A)) (evalF env 6 (.node k (.node vk vn vs Lv) nm A)) e w' ∧ Below W.heap.size W w' :=
  clo_twice W W na nl nc ea el ec nx sa sl sc ia il ic k vk vn vs va vl vc nm a l c _ _ _ (Below.refl _ _) (h.step kW).g (h.step kW).n (h.step kW).i (fun W' k' => hev W (h.step kW).bel k vk vn vs va vl vc nm a l c Lv A ht hi W' k')

set_option maxHeartbeats 8000000 in
set_option maxRecDepth 100000 in
theorem law_twice (N : List Nd) (E : List Ed) (na : Option Addr) (nl nc : Nat) (ea : Option Addr) (el ec : Nat) (nx : Int) (S : List ByteArray) (sa : Option Addr) (sl sc : Nat) (I : List Int) (ia : Option Addr) (il ic : Nat) (k1 vk1 vn1 : Int) (vs1 : ByteArray) (va1 : Option Addr) (vl1 vc1 : Nat) (nm1 : ByteArray) (a1 : Option Addr) (l1 c1 : Nat) (Lv1 : List T) (A1 : List Tm) (k2 vk2 vn2 : Int) (vs2 : ByteArray) (va2 : Option Addr) (vl2 vc2 : Nat) (nm2 : ByteArray) (a2 : Option Addr) (l2 c2 : Nat) (Lv2 : List T) (A2 : List Tm) (w : World) (hG : GrOk w N E na nl ea el) (hS : StrsAt w S sa sl) (hII : IntsAt w I ia il) (hT1 : TmAt w k1 vk1 vn1 vs1 va1 vl1 vc1 nm1 a1 l1 c1 Lv1 A1) (hI1 : InM (.node k1 (.node vk1 vn1 vs1 Lv1) nm1 A1)) (hT2 : TmAt w k2 vk2 vn2 vs2 va2 vl2 vc2 nm2 a2 l2 c2 Lv2 A2) (hI2 : InM (.node k2 (.node vk2 vn2 vs2 Lv2) nm2 A2)) (hB : w.heap.size ≤ w.heap.size) (hT : Tabs w.heap.size w) :
    Calls Tryd.prog 5 #[.agg #[.slice na nl nc, .slice ea el ec, .int .i64 nx], .slice sa sl sc, .slice ia il ic, .agg #[.int .i64 k1, .int .i64 vk1, .int .i64 vn1, .string vs1, .slice va1 vl1 vc1, .string nm1, .slice a1 l1 c1], .agg #[.int .i64 k2, .int .i64 vk2, .int .i64 vn2, .string vs2, .slice va2 vl2 vc2, .string nm2, .slice a2 l2 c2]] w fun e w' => e = .returned (.bool true) ∧ Below w.heap.size w w' := by
  obtain ⟨env, OKG, henv, hev⟩ := eval_of (B := w.heap.size) hG nc ec nx sc ic hS hII hB hT
  have HE := toHid henv
  have HC := toHid (clo_twice_of hev (S1 := .cells #[.int .i64 k1, .int .i64 vk1, .int .i64 vn1, .string vs1, .slice va1 vl1 vc1, .string nm1, .slice a1 l1 c1] 33) (T1 := .cells #[.int .i64 k2, .int .i64 vk2, .int .i64 vn2, .string vs2, .slice va2 vl2 vc2, .string nm2, .slice a2 l2 c2] 33))
  have HT := toHid hT
  have HT1 := toHid hT1
  have HT2 := toHid hT2
  have HI1 := toHid hI1
  have HI2 := toHid hI2
  clear hev henv hT hT1 hT2 hI1 hI2 hG hS hII hB
  go_enter Tryd.func5, Tryd.ntmps5
  have HL0 : Hid (LawSt w (((((w.alloc (.cells #[.slice na nl nc, .slice ea el ec, .int .i64 nx] 25)).alloc (.cells #[.slice sa sl sc] 26)).alloc (.cells #[.slice ia il ic] 27)).alloc (.cells #[.int .i64 k1, .int .i64 vk1, .int .i64 vn1, .string vs1, .slice va1 vl1 vc1, .string nm1, .slice a1 l1 c1] 33)).alloc (.cells #[.int .i64 k2, .int .i64 vk2, .int .i64 vn2, .string vs2, .slice va2 vl2 vc2, .string nm2, .slice a2 l2 c2] 33)) (.cells #[.slice na nl nc, .slice ea el ec, .int .i64 nx] 25) (.cells #[.slice sa sl sc] 26) (.cells #[.slice ia il ic] 27) (.cells #[.int .i64 k1, .int .i64 vk1, .int .i64 vn1, .string vs1, .slice va1 vl1 vc1, .string nm1, .slice a1 l1 c1] 33) (.cells #[.int .i64 k2, .int .i64 vk2, .int .i64 vn2, .string vs2, .slice va2 vl2 vc2, .string nm2, .slice a2 l2 c2] 33)) := law_st0 w _ _ _ _ _
  go_upto_region 2 with fail
  generalize (((((w.alloc (.cells #[.slice na nl nc, .slice ea el ec, .int .i64 nx] 25)).alloc (.cells #[.slice sa sl sc] 26)).alloc (.cells #[.slice ia il ic] 27)).alloc (.cells #[.int .i64 k1, .int .i64 vk1, .int .i64 vn1, .string vs1, .slice va1 vl1 vc1, .string nm1, .slice a1 l1 c1] 33)).alloc (.cells #[.int .i64 k2, .int .i64 vk2, .int .i64 vn2, .string vs2, .slice va2 vl2 vc2, .string nm2, .slice a2 l2 c2] 33)) = X0 at HL0 ⊢
  -- region 2
  have y10 : X0.cell? ⟨w.heap.size + 1 + 1 + 1, 0, none⟩ = some (.int .i64 k1) := cell_of HL0.out.s 0
  have y11 : X0.cell? ⟨w.heap.size + 1 + 1 + 1, 1, none⟩ = some (.int .i64 vk1) := cell_of HL0.out.s 1
  have y12 : X0.cell? ⟨w.heap.size + 1 + 1 + 1, 2, none⟩ = some (.int .i64 vn1) := cell_of HL0.out.s 2
  have y13 : X0.cell? ⟨w.heap.size + 1 + 1 + 1, 3, none⟩ = some (.string vs1) := cell_of HL0.out.s 3
  have y14 : X0.cell? ⟨w.heap.size + 1 + 1 + 1, 4, none⟩ = some (.slice va1 vl1 vc1) := cell_of HL0.out.s 4
  have y15 : X0.cell? ⟨w.heap.size + 1 + 1 + 1, 5, none⟩ = some (.string nm1) := cell_of HL0.out.s 5
  have y16 : X0.cell? ⟨w.heap.size + 1 + 1 + 1, 6, none⟩ = some (.slice a1 l1 c1) := cell_of HL0.out.s 6
  have yl1 : w.heap.size + 1 + 1 + 1 < X0.heap.size := lt_block' HL0.out.s
  go_wp2_with fail
  refine (HC.out _ _ HL0.out (Below.refl _ _) _ _ _ _ _ _ _ _ _ _ _ _ _ (HT1.out.below HL0.out.bel) HI1.out).mono ?_
  rintro e v1 ⟨⟨er1, rk1, rn1, rs1, ra1, rl1, rc1, rfl, her1, hva1⟩, bq1⟩
  clear y10 y11 y12 y13 y14 y15 y16 yl1
  have HV1 := toHid (vb_new her1 hva1)
  have HL1 := toHid (HL0.out.step (bel_al bq1 (.cells #[.int .i64 rk1, .int .i64 rn1, .string rs1, .slice ra1 rl1 rc1] 30)))
  clear bq1 her1 hva1 HL0
  go_upto_region 3 with fail
  generalize v1.alloc (.cells #[.int .i64 rk1, .int .i64 rn1, .string rs1, .slice ra1 rl1 rc1] 30) = X1 at HV1 HL1 ⊢
  -- region 3
  have y10 : X1.cell? ⟨w.heap.size + 1 + 1 + 1, 0, none⟩ = some (.int .i64 k1) := cell_of HL1.out.s 0
  have y11 : X1.cell? ⟨w.heap.size + 1 + 1 + 1, 1, none⟩ = some (.int .i64 vk1) := cell_of HL1.out.s 1
  have y12 : X1.cell? ⟨w.heap.size + 1 + 1 + 1, 2, none⟩ = some (.int .i64 vn1) := cell_of HL1.out.s 2
  have y13 : X1.cell? ⟨w.heap.size + 1 + 1 + 1, 3, none⟩ = some (.string vs1) := cell_of HL1.out.s 3
  have y14 : X1.cell? ⟨w.heap.size + 1 + 1 + 1, 4, none⟩ = some (.slice va1 vl1 vc1) := cell_of HL1.out.s 4
  have y15 : X1.cell? ⟨w.heap.size + 1 + 1 + 1, 5, none⟩ = some (.string nm1) := cell_of HL1.out.s 5
  have y16 : X1.cell? ⟨w.heap.size + 1 + 1 + 1, 6, none⟩ = some (.slice a1 l1 c1) := cell_of HL1.out.s 6
  have yl1 : w.heap.size + 1 + 1 + 1 < X1.heap.size := lt_block' HL1.out.s
  go_wp2_with fail
  refine (call_made nNot _ _ _ _).mono ?_
  rintro e u20 ⟨rfl, bm20⟩
  go_wp2_with fail
  refine (call_made nNot _ _ _ _).mono ?_
  rintro e u21 ⟨rfl, bm21⟩
  clear y10 y11 y12 y13 y14 y15 y16 yl1
  have kk2 : Below X1.heap.size X1 u21 := below2 (bel_al (below2 (bel_al (Below.refl _ _) _) bm20) _) bm21
  have b20 : u21.heap[X1.heap.size]? = some (.cells #[.int .i64 k1, .int .i64 vk1, .int .i64 vn1, .string vs1, .slice va1 vl1 vc1, .string nm1, .slice a1 l1 c1] 33 (0, 0)) := blk_cl (blk_al (blk_cl (blk_new rfl) bm20)) bm21
  have b21 : u21.heap[u20.heap.size]? = some (.cells #[.int .i64 4, .int .i64 0, .int .i64 0, .string ⟨#[]⟩, .slice none 0 0, .string nNot, .slice (some ⟨X1.heap.size, 0, none⟩) 1 1] 33 (0, 0)) := blk_cl (blk_new rfl) bm21
  have ts21 := HT1.out.below (below2 HL1.out.bel kk2)
  have hm2 := (call_at (nmx := nNot) (by decide) (Nat.le_refl _) (lies_one b21 (call_at (nmx := nNot) (by decide) (Nat.le_refl _) (lies_one b20 ts21))))
  have HM2 := toHid hm2
  have HKK2 := toHid kk2
  clear hm2 b20 b21 ts21 bm20 bm21 kk2
  go_wp2_with fail
  refine (HC.out _ _ HL1.out HKK2.out _ _ _ _ _ _ _ _ _ _ _ _ _ HM2.out (call_inM (by unfold InMs; exact ⟨(call_inM (by unfold InMs; exact ⟨HI1.out, by unfold InMs; trivial⟩)), by unfold InMs; trivial⟩))).mono ?_
  rintro e v2 ⟨⟨er2, rk2, rn2, rs2, ra2, rl2, rc2, rfl, her2, hva2⟩, bq2⟩
  have HV2 := toHid (vb_new her2 hva2)
  have HL2 := toHid (HL1.out.step (bel_al (below2 HKK2.out bq2) (.cells #[.int .i64 rk2, .int .i64 rn2, .string rs2, .slice ra2 rl2 rc2] 30)))
  replace HV1 := toHid (HV1.out.step (bel_al (below2 HKK2.out bq2) (.cells #[.int .i64 rk2, .int .i64 rn2, .string rs2, .slice ra2 rl2 rc2] 30)))
  clear bq2 her2 hva2 HM2 HKK2 HL1
  go_upto_region 4 with fail
  generalize v2.alloc (.cells #[.int .i64 rk2, .int .i64 rn2, .string rs2, .slice ra2 rl2 rc2] 30) = X2 at HV1 HV2 HL2 ⊢
  go_wp2_with fail
  refine (termed_true (B := w.heap.size) _ HL2.out.bel.size (HT.out.below HL2.out.bel)).mono ?_
  rintro e x3 ⟨rfl, bx3⟩
  replace HL2 := toHid (HL2.out.step bx3)
  replace HV1 := toHid (HV1.out.step bx3)
  replace HV2 := toHid (HV2.out.step bx3)
  clear bx3
  by_cases he1 : er1 = 0
  case neg =>
    have hz1 : (er1 != 0) = true := by simp [he1]
    go_wp2_with fail
    refine (termed_true (B := w.heap.size) _ HL2.out.bel.size (HT.out.below HL2.out.bel)).mono ?_
    rintro e x4 ⟨rfl, bx4⟩
    go_wp2_with fail
    go_ret
    exact ⟨rfl, below2 HL2.out.bel bx4⟩
  by_cases he2 : er2 = 0
  case neg =>
    have hz1 : (er1 != 0) = false := by simp [he1]
    have hz2 : (er2 != 0) = true := by simp [he2]
    go_wp2_with fail
    refine (termed_true (B := w.heap.size) _ HL2.out.bel.size (HT.out.below HL2.out.bel)).mono ?_
    rintro e x4 ⟨rfl, bx4⟩
    go_wp2_with fail
    go_ret
    exact ⟨rfl, below2 HL2.out.bel bx4⟩
  have ok1 := HV1.out.err.1 he1
  have ok2 := HV2.out.err.1 he2
  have hwt := wt_of (cw_eval (HE.out ok1.1) 6 _ ok1.2)
  obtain ⟨Lx1, hv1, hlc1, hss1, hl1⟩ := HV1.out.val ok1
  obtain ⟨Lx2, hv2, hlc2, hss2, hl2⟩ := HV2.out.val ok2
  have tw := twice_pure (HE.out ok1.1) ok2.2 hv1
  have hww := hwt _ _ _ _ hv1
  have hz1 : (er1 != 0) = false := by simp [he1]
  have hz2 : (er2 != 0) = false := by simp [he2]
  have TW := toHid tw
  have HW1 := toHid hww
  have HP1 := toHid hv1
  have HP2 := toHid hv2
  have HS1 := toHid hl1
  have HS2 := toHid hl2
  clear tw hwt hww hv1 hv2 hl1 hl2 hlc1 hlc2 hss1 hss2 ok1 ok2 he1 he2
  go_upto_region 6 with fail
  go_cut [68] (fun s68 wx => s68 = .bool false ∧ Below x3.heap.size x3 wx)
  case first =>
    by_cases hk : rk1 = 1
    · have e2 := HP2.out.symm.trans (TW.out.1 hk)
      injection e2 with g1 g2 g3 g4
      subst hk
      subst g1 g2 g3 g4
      have z10 := cell_of HV1.out.box 0
      have z11 := cell_of HV1.out.box 1
      have z12 := cell_of HV1.out.box 2
      have z13 := cell_of HV1.out.box 3
      have z20 := cell_of HV2.out.box 0
      have z21 := cell_of HV2.out.box 1
      have z22 := cell_of HV2.out.box 2
      have z23 := cell_of HV2.out.box 3
      simp at z10 z11 z12 z13 z20 z21 z22 z23
      have zl1 : v1.heap.size < x3.heap.size := lt_block' HV1.out.box
      have zl2 : v2.heap.size < x3.heap.size := lt_block' HV2.out.box
      go_wp2_with fail
      refine (same_copy 1 _ _ _ _ _ _ _ _ _ _ HW1.out HS1.out HS2.out).mono ?_
      rintro e x4 ⟨rfl, bx4⟩
      have q10 := cell_of (HV1.out.step bx4).box 0
      have ql1 : v1.heap.size < x4.heap.size := lt_block' (HV1.out.step bx4).box
      simp at q10
      go_wp2_with fail
      go_meet
      exact ⟨rfl, bx4⟩
    · have e2 := HP2.out.symm.trans (TW.out.2 hk)
      unfold tNull at e2
      injection e2 with g1 g2 g3 g4
      subst g1
      have hk1 : (rk1 == 1) = false := by simp [hk]
      have hk2 : (rk1 != 1) = true := by simp [hk]
      have z10 := cell_of HV1.out.box 0
      have z11 := cell_of HV1.out.box 1
      have z12 := cell_of HV1.out.box 2
      have z13 := cell_of HV1.out.box 3
      have z20 := cell_of HV2.out.box 0
      have z21 := cell_of HV2.out.box 1
      have z22 := cell_of HV2.out.box 2
      have z23 := cell_of HV2.out.box 3
      simp at z10 z11 z12 z13 z20 z21 z22 z23
      have zl1 : v1.heap.size < x3.heap.size := lt_block' HV1.out.box
      have zl2 : v2.heap.size < x3.heap.size := lt_block' HV2.out.box
      go_wp2_with fail
      go_meet
      exact ⟨rfl, Below.refl _ _⟩
  case rest =>
    obtain ⟨rfl, kx⟩ := hcut
    replace HL2 := toHid (HL2.out.step kx)
    clear kx HV1 HV2 TW HW1 HP1 HP2 HS1 HS2 hz1 hz2
    go_upto_region 8 with fail
    -- region 8
    have y10 : wc.cell? ⟨w.heap.size + 1 + 1 + 1, 0, none⟩ = some (.int .i64 k1) := cell_of HL2.out.s 0
    have y11 : wc.cell? ⟨w.heap.size + 1 + 1 + 1, 1, none⟩ = some (.int .i64 vk1) := cell_of HL2.out.s 1
    have y12 : wc.cell? ⟨w.heap.size + 1 + 1 + 1, 2, none⟩ = some (.int .i64 vn1) := cell_of HL2.out.s 2
    have y13 : wc.cell? ⟨w.heap.size + 1 + 1 + 1, 3, none⟩ = some (.string vs1) := cell_of HL2.out.s 3
    have y14 : wc.cell? ⟨w.heap.size + 1 + 1 + 1, 4, none⟩ = some (.slice va1 vl1 vc1) := cell_of HL2.out.s 4
    have y15 : wc.cell? ⟨w.heap.size + 1 + 1 + 1, 5, none⟩ = some (.string nm1) := cell_of HL2.out.s 5
    have y16 : wc.cell? ⟨w.heap.size + 1 + 1 + 1, 6, none⟩ = some (.slice a1 l1 c1) := cell_of HL2.out.s 6
    have y20 : wc.cell? ⟨w.heap.size + 1 + 1 + 1 + 1, 0, none⟩ = some (.int .i64 k2) := cell_of HL2.out.t 0
    have y21 : wc.cell? ⟨w.heap.size + 1 + 1 + 1 + 1, 1, none⟩ = some (.int .i64 vk2) := cell_of HL2.out.t 1
    have y22 : wc.cell? ⟨w.heap.size + 1 + 1 + 1 + 1, 2, none⟩ = some (.int .i64 vn2) := cell_of HL2.out.t 2
    have y23 : wc.cell? ⟨w.heap.size + 1 + 1 + 1 + 1, 3, none⟩ = some (.string vs2) := cell_of HL2.out.t 3
    have y24 : wc.cell? ⟨w.heap.size + 1 + 1 + 1 + 1, 4, none⟩ = some (.slice va2 vl2 vc2) := cell_of HL2.out.t 4
    have y25 : wc.cell? ⟨w.heap.size + 1 + 1 + 1 + 1, 5, none⟩ = some (.string nm2) := cell_of HL2.out.t 5
    have y26 : wc.cell? ⟨w.heap.size + 1 + 1 + 1 + 1, 6, none⟩ = some (.slice a2 l2 c2) := cell_of HL2.out.t 6
    have yl1 : w.heap.size + 1 + 1 + 1 < wc.heap.size := lt_block' HL2.out.s
    have yl2 : w.heap.size + 1 + 1 + 1 + 1 < wc.heap.size := lt_block' HL2.out.t
    go_wp2_with fail
    refine (call_made nLess _ _ _ _).mono ?_
    rintro e u30 ⟨rfl, bm30⟩
    clear y10 y11 y12 y13 y14 y15 y16 y20 y21 y22 y23 y24 y25 y26 yl1 yl2
    have kk3 : Below wc.heap.size wc u30 := below2 (bel_al (Below.refl _ _) _) bm30
    have b30 : u30.heap[wc.heap.size]? = some (.cells #[.int .i64 k1, .int .i64 vk1, .int .i64 vn1, .string vs1, .slice va1 vl1 vc1, .string nm1, .slice a1 l1 c1, .int .i64 k2, .int .i64 vk2, .int .i64 vn2, .string vs2, .slice va2 vl2 vc2, .string nm2, .slice a2 l2 c2] 33 (0, 0)) := blk_cl (blk_new rfl) bm30
    have ts31 := HT1.out.below (below2 HL2.out.bel kk3)
    have ts32 := HT2.out.below (below2 HL2.out.bel kk3)
    have hm3 := (call_at (nmx := nLess) (by decide) (Nat.le_refl _) (lies_two b30 ts31 ts32))
    have HM3 := toHid hm3
    have HKK3 := toHid kk3
    clear hm3 b30 ts31 ts32 bm30 kk3
    go_wp2_with fail
    refine (HC.out _ _ HL2.out HKK3.out _ _ _ _ _ _ _ _ _ _ _ _ _ HM3.out (call_inM (by unfold InMs; exact ⟨HI1.out, by unfold InMs; exact ⟨HI2.out, by unfold InMs; trivial⟩⟩))).mono ?_
    rintro e v3 ⟨⟨er3, rk3, rn3, rs3, ra3, rl3, rc3, rfl, her3, hva3⟩, bq3⟩
    have HV3 := toHid (vb_new her3 hva3)
    have HL3 := toHid (HL2.out.step (bel_al (below2 HKK3.out bq3) (.cells #[.int .i64 rk3, .int .i64 rn3, .string rs3, .slice ra3 rl3 rc3] 30)))
    clear bq3 her3 hva3 HM3 HKK3 HL2
    go_upto_region 9 with fail
    generalize v3.alloc (.cells #[.int .i64 rk3, .int .i64 rn3, .string rs3, .slice ra3 rl3 rc3] 30) = X3 at HV3 HL3 ⊢
    -- region 9
    have y10 : X3.cell? ⟨w.heap.size + 1 + 1 + 1, 0, none⟩ = some (.int .i64 k1) := cell_of HL3.out.s 0
    have y11 : X3.cell? ⟨w.heap.size + 1 + 1 + 1, 1, none⟩ = some (.int .i64 vk1) := cell_of HL3.out.s 1
    have y12 : X3.cell? ⟨w.heap.size + 1 + 1 + 1, 2, none⟩ = some (.int .i64 vn1) := cell_of HL3.out.s 2
    have y13 : X3.cell? ⟨w.heap.size + 1 + 1 + 1, 3, none⟩ = some (.string vs1) := cell_of HL3.out.s 3
    have y14 : X3.cell? ⟨w.heap.size + 1 + 1 + 1, 4, none⟩ = some (.slice va1 vl1 vc1) := cell_of HL3.out.s 4
    have y15 : X3.cell? ⟨w.heap.size + 1 + 1 + 1, 5, none⟩ = some (.string nm1) := cell_of HL3.out.s 5
    have y16 : X3.cell? ⟨w.heap.size + 1 + 1 + 1, 6, none⟩ = some (.slice a1 l1 c1) := cell_of HL3.out.s 6
    have y20 : X3.cell? ⟨w.heap.size + 1 + 1 + 1 + 1, 0, none⟩ = some (.int .i64 k2) := cell_of HL3.out.t 0
    have y21 : X3.cell? ⟨w.heap.size + 1 + 1 + 1 + 1, 1, none⟩ = some (.int .i64 vk2) := cell_of HL3.out.t 1
    have y22 : X3.cell? ⟨w.heap.size + 1 + 1 + 1 + 1, 2, none⟩ = some (.int .i64 vn2) := cell_of HL3.out.t 2
    have y23 : X3.cell? ⟨w.heap.size + 1 + 1 + 1 + 1, 3, none⟩ = some (.string vs2) := cell_of HL3.out.t 3
    have y24 : X3.cell? ⟨w.heap.size + 1 + 1 + 1 + 1, 4, none⟩ = some (.slice va2 vl2 vc2) := cell_of HL3.out.t 4
    have y25 : X3.cell? ⟨w.heap.size + 1 + 1 + 1 + 1, 5, none⟩ = some (.string nm2) := cell_of HL3.out.t 5
    have y26 : X3.cell? ⟨w.heap.size + 1 + 1 + 1 + 1, 6, none⟩ = some (.slice a2 l2 c2) := cell_of HL3.out.t 6
    have yl1 : w.heap.size + 1 + 1 + 1 < X3.heap.size := lt_block' HL3.out.s
    have yl2 : w.heap.size + 1 + 1 + 1 + 1 < X3.heap.size := lt_block' HL3.out.t
    go_wp2_with fail
    refine (call_made nLess _ _ _ _).mono ?_
    rintro e u40 ⟨rfl, bm40⟩
    clear y10 y11 y12 y13 y14 y15 y16 y20 y21 y22 y23 y24 y25 y26 yl1 yl2
    have kk4 : Below X3.heap.size X3 u40 := below2 (bel_al (Below.refl _ _) _) bm40
    have b40 : u40.heap[X3.heap.size]? = some (.cells #[.int .i64 k2, .int .i64 vk2, .int .i64 vn2, .string vs2, .slice va2 vl2 vc2, .string nm2, .slice a2 l2 c2, .int .i64 k1, .int .i64 vk1, .int .i64 vn1, .string vs1, .slice va1 vl1 vc1, .string nm1, .slice a1 l1 c1] 33 (0, 0)) := blk_cl (blk_new rfl) bm40
    have ts41 := HT1.out.below (below2 HL3.out.bel kk4)
    have ts42 := HT2.out.below (below2 HL3.out.bel kk4)
    have hm4 := (call_at (nmx := nLess) (by decide) (Nat.le_refl _) (lies_two b40 ts42 ts41))
    have HM4 := toHid hm4
    have HKK4 := toHid kk4
    clear hm4 b40 ts41 ts42 bm40 kk4
    go_wp2_with fail
    refine (HC.out _ _ HL3.out HKK4.out _ _ _ _ _ _ _ _ _ _ _ _ _ HM4.out (call_inM (by unfold InMs; exact ⟨HI2.out, by unfold InMs; exact ⟨HI1.out, by unfold InMs; trivial⟩⟩))).mono ?_
    rintro e v4 ⟨⟨er4, rk4, rn4, rs4, ra4, rl4, rc4, rfl, her4, hva4⟩, bq4⟩
    have HV4 := toHid (vb_new her4 hva4)
    have HL4 := toHid (HL3.out.step (bel_al (below2 HKK4.out bq4) (.cells #[.int .i64 rk4, .int .i64 rn4, .string rs4, .slice ra4 rl4 rc4] 30)))
    replace HV3 := toHid (HV3.out.step (bel_al (below2 HKK4.out bq4) (.cells #[.int .i64 rk4, .int .i64 rn4, .string rs4, .slice ra4 rl4 rc4] 30)))
    clear bq4 her4 hva4 HM4 HKK4 HL3
    go_upto_region 10 with fail
    generalize v4.alloc (.cells #[.int .i64 rk4, .int .i64 rn4, .string rs4, .slice ra4 rl4 rc4] 30) = X4 at HV3 HV4 HL4 ⊢
    -- region 10
    have y10 : X4.cell? ⟨w.heap.size + 1 + 1 + 1, 0, none⟩ = some (.int .i64 k1) := cell_of HL4.out.s 0
    have y11 : X4.cell? ⟨w.heap.size + 1 + 1 + 1, 1, none⟩ = some (.int .i64 vk1) := cell_of HL4.out.s 1
    have y12 : X4.cell? ⟨w.heap.size + 1 + 1 + 1, 2, none⟩ = some (.int .i64 vn1) := cell_of HL4.out.s 2
    have y13 : X4.cell? ⟨w.heap.size + 1 + 1 + 1, 3, none⟩ = some (.string vs1) := cell_of HL4.out.s 3
    have y14 : X4.cell? ⟨w.heap.size + 1 + 1 + 1, 4, none⟩ = some (.slice va1 vl1 vc1) := cell_of HL4.out.s 4
    have y15 : X4.cell? ⟨w.heap.size + 1 + 1 + 1, 5, none⟩ = some (.string nm1) := cell_of HL4.out.s 5
    have y16 : X4.cell? ⟨w.heap.size + 1 + 1 + 1, 6, none⟩ = some (.slice a1 l1 c1) := cell_of HL4.out.s 6
    have y20 : X4.cell? ⟨w.heap.size + 1 + 1 + 1 + 1, 0, none⟩ = some (.int .i64 k2) := cell_of HL4.out.t 0
    have y21 : X4.cell? ⟨w.heap.size + 1 + 1 + 1 + 1, 1, none⟩ = some (.int .i64 vk2) := cell_of HL4.out.t 1
    have y22 : X4.cell? ⟨w.heap.size + 1 + 1 + 1 + 1, 2, none⟩ = some (.int .i64 vn2) := cell_of HL4.out.t 2
    have y23 : X4.cell? ⟨w.heap.size + 1 + 1 + 1 + 1, 3, none⟩ = some (.string vs2) := cell_of HL4.out.t 3
    have y24 : X4.cell? ⟨w.heap.size + 1 + 1 + 1 + 1, 4, none⟩ = some (.slice va2 vl2 vc2) := cell_of HL4.out.t 4
    have y25 : X4.cell? ⟨w.heap.size + 1 + 1 + 1 + 1, 5, none⟩ = some (.string nm2) := cell_of HL4.out.t 5
    have y26 : X4.cell? ⟨w.heap.size + 1 + 1 + 1 + 1, 6, none⟩ = some (.slice a2 l2 c2) := cell_of HL4.out.t 6
    have yl1 : w.heap.size + 1 + 1 + 1 < X4.heap.size := lt_block' HL4.out.s
    have yl2 : w.heap.size + 1 + 1 + 1 + 1 < X4.heap.size := lt_block' HL4.out.t
    go_wp2_with fail
    refine (call_made nSame _ _ _ _).mono ?_
    rintro e u50 ⟨rfl, bm50⟩
    clear y10 y11 y12 y13 y14 y15 y16 y20 y21 y22 y23 y24 y25 y26 yl1 yl2
    have kk5 : Below X4.heap.size X4 u50 := below2 (bel_al (Below.refl _ _) _) bm50
    have b50 : u50.heap[X4.heap.size]? = some (.cells #[.int .i64 k1, .int .i64 vk1, .int .i64 vn1, .string vs1, .slice va1 vl1 vc1, .string nm1, .slice a1 l1 c1, .int .i64 k2, .int .i64 vk2, .int .i64 vn2, .string vs2, .slice va2 vl2 vc2, .string nm2, .slice a2 l2 c2] 33 (0, 0)) := blk_cl (blk_new rfl) bm50
    have ts51 := HT1.out.below (below2 HL4.out.bel kk5)
    have ts52 := HT2.out.below (below2 HL4.out.bel kk5)
    have hm5 := (call_at (nmx := nSame) (by decide) (Nat.le_refl _) (lies_two b50 ts51 ts52))
    have HM5 := toHid hm5
    have HKK5 := toHid kk5
    clear hm5 b50 ts51 ts52 bm50 kk5
    go_wp2_with fail
    refine (HC.out _ _ HL4.out HKK5.out _ _ _ _ _ _ _ _ _ _ _ _ _ HM5.out (call_inM (by unfold InMs; exact ⟨HI1.out, by unfold InMs; exact ⟨HI2.out, by unfold InMs; trivial⟩⟩))).mono ?_
    rintro e v5 ⟨⟨er5, rk5, rn5, rs5, ra5, rl5, rc5, rfl, her5, hva5⟩, bq5⟩
    have HV5 := toHid (vb_new her5 hva5)
    have HL5 := toHid (HL4.out.step (bel_al (below2 HKK5.out bq5) (.cells #[.int .i64 rk5, .int .i64 rn5, .string rs5, .slice ra5 rl5 rc5] 30)))
    replace HV3 := toHid (HV3.out.step (bel_al (below2 HKK5.out bq5) (.cells #[.int .i64 rk5, .int .i64 rn5, .string rs5, .slice ra5 rl5 rc5] 30)))
    replace HV4 := toHid (HV4.out.step (bel_al (below2 HKK5.out bq5) (.cells #[.int .i64 rk5, .int .i64 rn5, .string rs5, .slice ra5 rl5 rc5] 30)))
    clear bq5 her5 hva5 HM5 HKK5 HL4
    go_upto_region 11 with fail
    generalize v5.alloc (.cells #[.int .i64 rk5, .int .i64 rn5, .string rs5, .slice ra5 rl5 rc5] 30) = X5 at HV3 HV4 HV5 HL5 ⊢
    -- region 11
    have y10 : X5.cell? ⟨w.heap.size + 1 + 1 + 1, 0, none⟩ = some (.int .i64 k1) := cell_of HL5.out.s 0
    have y11 : X5.cell? ⟨w.heap.size + 1 + 1 + 1, 1, none⟩ = some (.int .i64 vk1) := cell_of HL5.out.s 1
    have y12 : X5.cell? ⟨w.heap.size + 1 + 1 + 1, 2, none⟩ = some (.int .i64 vn1) := cell_of HL5.out.s 2
    have y13 : X5.cell? ⟨w.heap.size + 1 + 1 + 1, 3, none⟩ = some (.string vs1) := cell_of HL5.out.s 3
    have y14 : X5.cell? ⟨w.heap.size + 1 + 1 + 1, 4, none⟩ = some (.slice va1 vl1 vc1) := cell_of HL5.out.s 4
    have y15 : X5.cell? ⟨w.heap.size + 1 + 1 + 1, 5, none⟩ = some (.string nm1) := cell_of HL5.out.s 5
    have y16 : X5.cell? ⟨w.heap.size + 1 + 1 + 1, 6, none⟩ = some (.slice a1 l1 c1) := cell_of HL5.out.s 6
    have y20 : X5.cell? ⟨w.heap.size + 1 + 1 + 1 + 1, 0, none⟩ = some (.int .i64 k2) := cell_of HL5.out.t 0
    have y21 : X5.cell? ⟨w.heap.size + 1 + 1 + 1 + 1, 1, none⟩ = some (.int .i64 vk2) := cell_of HL5.out.t 1
    have y22 : X5.cell? ⟨w.heap.size + 1 + 1 + 1 + 1, 2, none⟩ = some (.int .i64 vn2) := cell_of HL5.out.t 2
    have y23 : X5.cell? ⟨w.heap.size + 1 + 1 + 1 + 1, 3, none⟩ = some (.string vs2) := cell_of HL5.out.t 3
    have y24 : X5.cell? ⟨w.heap.size + 1 + 1 + 1 + 1, 4, none⟩ = some (.slice va2 vl2 vc2) := cell_of HL5.out.t 4
    have y25 : X5.cell? ⟨w.heap.size + 1 + 1 + 1 + 1, 5, none⟩ = some (.string nm2) := cell_of HL5.out.t 5
    have y26 : X5.cell? ⟨w.heap.size + 1 + 1 + 1 + 1, 6, none⟩ = some (.slice a2 l2 c2) := cell_of HL5.out.t 6
    have yl1 : w.heap.size + 1 + 1 + 1 < X5.heap.size := lt_block' HL5.out.s
    have yl2 : w.heap.size + 1 + 1 + 1 + 1 < X5.heap.size := lt_block' HL5.out.t
    go_wp2_with fail
    refine (call_made nMost _ _ _ _).mono ?_
    rintro e u60 ⟨rfl, bm60⟩
    clear y10 y11 y12 y13 y14 y15 y16 y20 y21 y22 y23 y24 y25 y26 yl1 yl2
    have kk6 : Below X5.heap.size X5 u60 := below2 (bel_al (Below.refl _ _) _) bm60
    have b60 : u60.heap[X5.heap.size]? = some (.cells #[.int .i64 k1, .int .i64 vk1, .int .i64 vn1, .string vs1, .slice va1 vl1 vc1, .string nm1, .slice a1 l1 c1, .int .i64 k2, .int .i64 vk2, .int .i64 vn2, .string vs2, .slice va2 vl2 vc2, .string nm2, .slice a2 l2 c2] 33 (0, 0)) := blk_cl (blk_new rfl) bm60
    have ts61 := HT1.out.below (below2 HL5.out.bel kk6)
    have ts62 := HT2.out.below (below2 HL5.out.bel kk6)
    have hm6 := (call_at (nmx := nMost) (by decide) (Nat.le_refl _) (lies_two b60 ts61 ts62))
    have HM6 := toHid hm6
    have HKK6 := toHid kk6
    clear hm6 b60 ts61 ts62 bm60 kk6
    go_wp2_with fail
    refine (HC.out _ _ HL5.out HKK6.out _ _ _ _ _ _ _ _ _ _ _ _ _ HM6.out (call_inM (by unfold InMs; exact ⟨HI1.out, by unfold InMs; exact ⟨HI2.out, by unfold InMs; trivial⟩⟩))).mono ?_
    rintro e v6 ⟨⟨er6, rk6, rn6, rs6, ra6, rl6, rc6, rfl, her6, hva6⟩, bq6⟩
    have HV6 := toHid (vb_new her6 hva6)
    have HL6 := toHid (HL5.out.step (bel_al (below2 HKK6.out bq6) (.cells #[.int .i64 rk6, .int .i64 rn6, .string rs6, .slice ra6 rl6 rc6] 30)))
    replace HV3 := toHid (HV3.out.step (bel_al (below2 HKK6.out bq6) (.cells #[.int .i64 rk6, .int .i64 rn6, .string rs6, .slice ra6 rl6 rc6] 30)))
    replace HV4 := toHid (HV4.out.step (bel_al (below2 HKK6.out bq6) (.cells #[.int .i64 rk6, .int .i64 rn6, .string rs6, .slice ra6 rl6 rc6] 30)))
    replace HV5 := toHid (HV5.out.step (bel_al (below2 HKK6.out bq6) (.cells #[.int .i64 rk6, .int .i64 rn6, .string rs6, .slice ra6 rl6 rc6] 30)))
    clear bq6 her6 hva6 HM6 HKK6 HL5
    go_upto_region 12 with fail
    generalize v6.alloc (.cells #[.int .i64 rk6, .int .i64 rn6, .string rs6, .slice ra6 rl6 rc6] 30) = X6 at HV3 HV4 HV5 HV6 HL6 ⊢
    by_cases he3 : er3 = 0
    case neg =>
      have hz3 : (er3 != 0) = true := by simp [he3]
      go_wp2_with fail
      go_ret
      exact ⟨rfl, HL6.out.bel⟩
    by_cases he4 : er4 = 0
    case neg =>
      have hz3 : (er3 != 0) = false := by simp [he3]
      have hz4 : (er4 != 0) = true := by simp [he4]
      go_wp2_with fail
      go_ret
      exact ⟨rfl, HL6.out.bel⟩
    by_cases he5 : er5 = 0
    case neg =>
      have hz3 : (er3 != 0) = false := by simp [he3]
      have hz4 : (er4 != 0) = false := by simp [he4]
      have hz5 : (er5 != 0) = true := by simp [he5]
      go_wp2_with fail
      go_ret
      exact ⟨rfl, HL6.out.bel⟩
    by_cases he6 : er6 = 0
    case neg =>
      have hz3 : (er3 != 0) = false := by simp [he3]
      have hz4 : (er4 != 0) = false := by simp [he4]
      have hz5 : (er5 != 0) = false := by simp [he5]
      have hz6 : (er6 != 0) = true := by simp [he6]
      go_wp2_with fail
      go_ret
      exact ⟨rfl, HL6.out.bel⟩
    have hz3 : (er3 != 0) = false := by simp [he3]
    obtain ⟨Lx3, hv3, _, _, _⟩ := HV3.out.val (HV3.out.err.1 he3)
    have z30 := cell_of HV3.out.box 0
    have z31 := cell_of HV3.out.box 1
    have zl3 : v3.heap.size < X6.heap.size := lt_block' HV3.out.box
    have hz4 : (er4 != 0) = false := by simp [he4]
    obtain ⟨Lx4, hv4, _, _, _⟩ := HV4.out.val (HV4.out.err.1 he4)
    have z41 := cell_of HV4.out.box 1
    have zl4 : v4.heap.size < X6.heap.size := lt_block' HV4.out.box
    have hz5 : (er5 != 0) = false := by simp [he5]
    obtain ⟨Lx5, hv5, _, _, _⟩ := HV5.out.val (HV5.out.err.1 he5)
    have z51 := cell_of HV5.out.box 1
    have zl5 : v5.heap.size < X6.heap.size := lt_block' HV5.out.box
    have hz6 : (er6 != 0) = false := by simp [he6]
    obtain ⟨Lx6, hv6, _, _, _⟩ := HV6.out.val (HV6.out.err.1 he6)
    have z61 := cell_of HV6.out.box 1
    have zl6 : v6.heap.size < X6.heap.size := lt_block' HV6.out.box
    simp at z30 z31 z41 z51 z61
    by_cases hk : rk3 = 0
    case pos =>
      have hk1 : (rk3 == 0) = true := by simp [hk]
      clear hv3 hv4 hv5 hv6
      go_wp2_with fail
      go_ret
      exact ⟨rfl, HL6.out.bel⟩
    have h3 : evalF env 6 (callT nLess [(.node k1 (.node vk1 vn1 vs1 Lv1) nm1 A1), (.node k2 (.node vk2 vn2 vs2 Lv2) nm2 A2)]) = .node rk3 rn3 rs3 Lx3 := hv3
    have h4 : evalF env 6 (callT nLess [(.node k2 (.node vk2 vn2 vs2 Lv2) nm2 A2), (.node k1 (.node vk1 vn1 vs1 Lv1) nm1 A1)]) = .node rk4 rn4 rs4 Lx4 := hv4
    have h5 : evalF env 6 (callT nSame [(.node k1 (.node vk1 vn1 vs1 Lv1) nm1 A1), (.node k2 (.node vk2 vn2 vs2 Lv2) nm2 A2)]) = .node rk5 rn5 rs5 Lx5 := hv5
    have h6 : evalF env 6 (callT nMost [(.node k1 (.node vk1 vn1 vs1 Lv1) nm1 A1), (.node k2 (.node vk2 vn2 vs2 Lv2) nm2 A2)]) = .node rk6 rn6 rs6 Lx6 := hv6
    have th := three_pure (env := env) (s := (.node k1 (.node vk1 vn1 vs1 Lv1) nm1 A1)) (t := (.node k2 (.node vk2 vn2 vs2 Lv2) nm2 A2)) (by rw [h3]; exact hk)
    rw [h3, h4, h5, h6] at th
    simp only [numT] at th
    clear h3 h4 h5 h6 hv3 hv4 hv5 hv6
    obtain ⟨q1, q2, ⟨q3, q4⟩, ⟨q5, q6⟩, ⟨q7, q8⟩⟩ := th
    have hk1 : (rk3 == 0) = false := by simp [hk]
    have tri : (rn3 = 1 ∧ rn4 = 0 ∧ rn5 = 0 ∧ rn6 = 1) ∨ (rn3 = 0 ∧ rn4 = 1 ∧ rn5 = 0 ∧ rn6 = 0) ∨ (rn3 = 0 ∧ rn4 = 0 ∧ rn5 = 1 ∧ rn6 = 1) := by omega
    clear q1 q2 q3 q4 q5 q6 q7 q8
    rcases tri with ⟨rfl, rfl, rfl, rfl⟩ | ⟨rfl, rfl, rfl, rfl⟩ | ⟨rfl, rfl, rfl, rfl⟩
    all_goals
      go_wp2_with fail
      go_ret
      exact ⟨rfl, HL6.out.bel⟩
end Go.Proofs.YtkpjbbmjcifhbaaDoor
