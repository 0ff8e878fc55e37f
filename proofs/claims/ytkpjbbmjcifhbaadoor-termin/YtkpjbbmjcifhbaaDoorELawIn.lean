/-
  What is proved here: the law TermIn answers true of any graph, names and terms; what was there is as it was.
-/
import Derived.Test.YtkpjbbmjcifhbaaDoorQTBH
import Derived.Deep.RegionHeld3
import Derived.Deep.CutBlock
namespace Go.Proofs.YtkpjbbmjcifhbaaDoor
open Go.RowKit
set_option linter.unusedVariables false
set_option linter.unusedSimpArgs false

/-- The boxes of the law's arguments. -/
structure LawSi (w X : World) (G S T U : Obj) : Prop where
  bel : Below w.heap.size w X
  g : X.heap[w.heap.size]? = some G
  s : X.heap[w.heap.size + 1]? = some S
  t : X.heap[w.heap.size + 2]? = some T
  u : X.heap[w.heap.size + 3]? = some U

theorem LawSi.step {w X X' : World} {G S T U : Obj} (h : LawSi w X G S T U) (k : Below X.heap.size X X') : LawSi w X' G S T U := ⟨below2 h.bel k, blk_cl h.g k, blk_cl h.s k, blk_cl h.t k, blk_cl h.u k⟩

theorem law_si0 (w : World) (G S T U : Obj) : LawSi w ((((w.alloc G).alloc S).alloc T).alloc U) G S T U :=
  ⟨bel_al (bel_al (bel_al (bel_al (Below.refl _ _) _) _) _) _, blk_al (blk_al (blk_al (blk_new rfl))), blk_al (blk_al (blk_new (by simp))), blk_al (blk_new (by simp)), blk_new (by simp)⟩

set_option maxHeartbeats 40000000 in
set_option maxRecDepth 100000 in
theorem law_in (N : List Nd) (E : List Ed) (na : Option Addr) (nl nc : Nat) (ea : Option Addr) (el ec : Nat) (nx : Int) (S : List ByteArray) (sa : Option Addr) (sl sc : Nat) (I : List Int) (ia : Option Addr) (il ic : Nat) (k1 vk1 vn1 : Int) (vs1 : ByteArray) (va1 : Option Addr) (vl1 vc1 : Nat) (nm1 : ByteArray) (a1 : Option Addr) (l1 c1 : Nat) (Lv1 : List T) (A1 : List Tm) (k2 vk2 vn2 : Int) (vs2 : ByteArray) (va2 : Option Addr) (vl2 vc2 : Nat) (nm2 : ByteArray) (a2 : Option Addr) (l2 c2 : Nat) (Lv2 : List T) (A2 : List Tm) (k3 vk3 vn3 : Int) (vs3 : ByteArray) (va3 : Option Addr) (vl3 vc3 : Nat) (nm3 : ByteArray) (a3 : Option Addr) (l3 c3 : Nat) (Lv3 : List T) (A3 : List Tm) (w : World) (hG : GrOk w N E na nl ea el) (hS : StrsAt w S sa sl) (hII : IntsAt w I ia il) (hT1 : TmAt w k1 vk1 vn1 vs1 va1 vl1 vc1 nm1 a1 l1 c1 Lv1 A1) (hI1 : InM (.node k1 (.node vk1 vn1 vs1 Lv1) nm1 A1)) (hT2 : TmAt w k2 vk2 vn2 vs2 va2 vl2 vc2 nm2 a2 l2 c2 Lv2 A2) (hI2 : InM (.node k2 (.node vk2 vn2 vs2 Lv2) nm2 A2)) (hT3 : TmAt w k3 vk3 vn3 vs3 va3 vl3 vc3 nm3 a3 l3 c3 Lv3 A3) (hI3 : InM (.node k3 (.node vk3 vn3 vs3 Lv3) nm3 A3)) (hB : w.heap.size ≤ w.heap.size) (hT : Tabs w.heap.size w) :
    Calls Tryd.prog 4 #[.agg #[.slice na nl nc, .slice ea el ec, .int .i64 nx], .slice sa sl sc, .slice ia il ic, .agg #[.int .i64 k1, .int .i64 vk1, .int .i64 vn1, .string vs1, .slice va1 vl1 vc1, .string nm1, .slice a1 l1 c1], .agg #[.int .i64 k2, .int .i64 vk2, .int .i64 vn2, .string vs2, .slice va2 vl2 vc2, .string nm2, .slice a2 l2 c2], .agg #[.int .i64 k3, .int .i64 vk3, .int .i64 vn3, .string vs3, .slice va3 vl3 vc3, .string nm3, .slice a3 l3 c3]] w fun e w' => e = .returned (.bool true) ∧ Below w.heap.size w w' := by
  obtain ⟨env, OKG, henv, hev⟩ := eval_of (B := w.heap.size) hG nc ec nx sc ic hS hII hB hT
  have HE := toHid henv
  have HC : Hid (∀ (X W : World), LawSi w X (.cells #[.slice na nl nc, .slice ea el ec, .int .i64 nx] 25) (.cells #[.int .i64 k1, .int .i64 vk1, .int .i64 vn1, .string vs1, .slice va1 vl1 vc1, .string nm1, .slice a1 l1 c1] 33) (.cells #[.int .i64 k2, .int .i64 vk2, .int .i64 vn2, .string vs2, .slice va2 vl2 vc2, .string nm2, .slice a2 l2 c2] 33) (.cells #[.int .i64 k3, .int .i64 vk3, .int .i64 vn3, .string vs3, .slice va3 vl3 vc3, .string nm3, .slice a3 l3 c3] 33) → Below X.heap.size X W → ∀ (k vk vn : Int) (vs : ByteArray) (va : Option Addr) (vl vc : Nat) (nm : ByteArray) (a : Option Addr) (l c : Nat) (Lv : List T) (A : List Tm), TmAt W k vk vn vs va vl vc nm a l c Lv A → InM (.node k (.node vk vn vs Lv) nm A) →
      Calls Tryd.prog 7 #[.agg #[.slice na nl nc, .slice ea el ec, .int .i64 nx], .slice sa sl sc, .slice ia il ic, .agg #[.int .i64 k, .int .i64 vk, .int .i64 vn, .string vs, .slice va vl vc, .string nm, .slice a l c]] W fun e w' => EvEnd W (OKG ∧ RightP env 6 (.node k (.node vk vn vs Lv) nm A)) (evalF env 6 (.node k (.node vk vn vs Lv) nm A)) e w' ∧ Below W.heap.size W w') :=
    fun X W h kW k vk vn vs va vl vc nm a l c Lv A ht hi => hev W (h.step kW).bel k vk vn vs va vl vc nm a l c Lv A ht hi W (Below.refl _ _)
  have HT := toHid hT
  have HT1 := toHid hT1
  have HT2 := toHid hT2
  have HT3 := toHid hT3
  have HI1 := toHid hI1
  have HI2 := toHid hI2
  have HI3 := toHid hI3
  clear hev henv hT hT1 hT2 hT3 hI1 hI2 hI3 hG hS hII hB
  go_enter Tryd.func4, Tryd.ntmps4
  have HL0 : Hid (LawSi w ((((w.alloc (.cells #[.slice na nl nc, .slice ea el ec, .int .i64 nx] 25)).alloc (.cells #[.int .i64 k1, .int .i64 vk1, .int .i64 vn1, .string vs1, .slice va1 vl1 vc1, .string nm1, .slice a1 l1 c1] 33)).alloc (.cells #[.int .i64 k2, .int .i64 vk2, .int .i64 vn2, .string vs2, .slice va2 vl2 vc2, .string nm2, .slice a2 l2 c2] 33)).alloc (.cells #[.int .i64 k3, .int .i64 vk3, .int .i64 vn3, .string vs3, .slice va3 vl3 vc3, .string nm3, .slice a3 l3 c3] 33)) (.cells #[.slice na nl nc, .slice ea el ec, .int .i64 nx] 25) (.cells #[.int .i64 k1, .int .i64 vk1, .int .i64 vn1, .string vs1, .slice va1 vl1 vc1, .string nm1, .slice a1 l1 c1] 33) (.cells #[.int .i64 k2, .int .i64 vk2, .int .i64 vn2, .string vs2, .slice va2 vl2 vc2, .string nm2, .slice a2 l2 c2] 33) (.cells #[.int .i64 k3, .int .i64 vk3, .int .i64 vn3, .string vs3, .slice va3 vl3 vc3, .string nm3, .slice a3 l3 c3] 33)) := law_si0 w _ _ _ _
  go_upto_region 1 with fail
  generalize ((((w.alloc (.cells #[.slice na nl nc, .slice ea el ec, .int .i64 nx] 25)).alloc (.cells #[.int .i64 k1, .int .i64 vk1, .int .i64 vn1, .string vs1, .slice va1 vl1 vc1, .string nm1, .slice a1 l1 c1] 33)).alloc (.cells #[.int .i64 k2, .int .i64 vk2, .int .i64 vn2, .string vs2, .slice va2 vl2 vc2, .string nm2, .slice a2 l2 c2] 33)).alloc (.cells #[.int .i64 k3, .int .i64 vk3, .int .i64 vn3, .string vs3, .slice va3 vl3 vc3, .string nm3, .slice a3 l3 c3] 33)) = X0 at HL0 ⊢
  have HS1 : Hid (∀ W', Below X0.heap.size X0 W' → (W'.cell? ⟨w.heap.size, 0, none⟩ = some (.slice na nl nc) ∧ W'.cell? ⟨w.heap.size, 1, none⟩ = some (.slice ea el ec) ∧ W'.cell? ⟨w.heap.size, 2, none⟩ = some (.int .i64 nx) ∧ W'.cell? ⟨w.heap.size + 1, 0, none⟩ = some (.int .i64 k1) ∧ W'.cell? ⟨w.heap.size + 1, 1, none⟩ = some (.int .i64 vk1) ∧ W'.cell? ⟨w.heap.size + 1, 2, none⟩ = some (.int .i64 vn1) ∧ W'.cell? ⟨w.heap.size + 1, 3, none⟩ = some (.string vs1) ∧ W'.cell? ⟨w.heap.size + 1, 4, none⟩ = some (.slice va1 vl1 vc1) ∧ W'.cell? ⟨w.heap.size + 1, 5, none⟩ = some (.string nm1) ∧ W'.cell? ⟨w.heap.size + 1, 6, none⟩ = some (.slice a1 l1 c1) ∧ W'.cell? ⟨w.heap.size + 1 + 1, 0, none⟩ = some (.int .i64 k2) ∧ W'.cell? ⟨w.heap.size + 1 + 1, 1, none⟩ = some (.int .i64 vk2) ∧ W'.cell? ⟨w.heap.size + 1 + 1, 2, none⟩ = some (.int .i64 vn2) ∧ W'.cell? ⟨w.heap.size + 1 + 1, 3, none⟩ = some (.string vs2) ∧ W'.cell? ⟨w.heap.size + 1 + 1, 4, none⟩ = some (.slice va2 vl2 vc2) ∧ W'.cell? ⟨w.heap.size + 1 + 1, 5, none⟩ = some (.string nm2) ∧ W'.cell? ⟨w.heap.size + 1 + 1, 6, none⟩ = some (.slice a2 l2 c2) ∧ W'.cell? ⟨w.heap.size + 1 + 1 + 1, 0, none⟩ = some (.int .i64 k3) ∧ W'.cell? ⟨w.heap.size + 1 + 1 + 1, 1, none⟩ = some (.int .i64 vk3) ∧ W'.cell? ⟨w.heap.size + 1 + 1 + 1, 2, none⟩ = some (.int .i64 vn3) ∧ W'.cell? ⟨w.heap.size + 1 + 1 + 1, 3, none⟩ = some (.string vs3) ∧ W'.cell? ⟨w.heap.size + 1 + 1 + 1, 4, none⟩ = some (.slice va3 vl3 vc3) ∧ W'.cell? ⟨w.heap.size + 1 + 1 + 1, 5, none⟩ = some (.string nm3) ∧ W'.cell? ⟨w.heap.size + 1 + 1 + 1, 6, none⟩ = some (.slice a3 l3 c3))) := fun W' kk => by
    have st := HL0.out.step kk
    exact ⟨cell_of st.g 0, cell_of st.g 1, cell_of st.g 2, cell_of st.s 0, cell_of st.s 1, cell_of st.s 2, cell_of st.s 3, cell_of st.s 4, cell_of st.s 5, cell_of st.s 6, cell_of st.t 0, cell_of st.t 1, cell_of st.t 2, cell_of st.t 3, cell_of st.t 4, cell_of st.t 5, cell_of st.t 6, cell_of st.u 0, cell_of st.u 1, cell_of st.u 2, cell_of st.u 3, cell_of st.u 4, cell_of st.u 5, cell_of st.u 6⟩
  have HE1 : Hid (∀ (W : World) (p0 p1 : Nat), Below X0.heap.size X0 W → W.heap[p1]? = some (.cells #[.int .i64 k1, .int .i64 vk1, .int .i64 vn1, .string vs1, .slice va1 vl1 vc1, .string nm1, .slice a1 l1 c1, .int .i64 4, .int .i64 0, .int .i64 0, .string ⟨#[]⟩, .slice none 0 0, .string nList, .slice (some ⟨p0, 0, none⟩) 2 2] 33 (0, 0)) → W.heap[p0]? = some (.cells #[.int .i64 k2, .int .i64 vk2, .int .i64 vn2, .string vs2, .slice va2 vl2 vc2, .string nm2, .slice a2 l2 c2, .int .i64 k3, .int .i64 vk3, .int .i64 vn3, .string vs3, .slice va3 vl3 vc3, .string nm3, .slice a3 l3 c3] 33 (0, 0)) → Calls Tryd.prog 7 #[.agg #[.slice na nl nc, .slice ea el ec, .int .i64 nx], .slice sa sl sc, .slice ia il ic, .agg #[.int .i64 4, .int .i64 0, .int .i64 0, .string ⟨#[]⟩, .slice none 0 0, .string nIn, .slice (some ⟨p1, 0, none⟩) 2 2]] W fun e w' => EvEnd W (OKG ∧ RightP env 6 (callT nIn [(.node k1 (.node vk1 vn1 vs1 Lv1) nm1 A1), (callT nList [(.node k2 (.node vk2 vn2 vs2 Lv2) nm2 A2), (.node k3 (.node vk3 vn3 vs3 Lv3) nm3 A3)])])) (evalF env 6 (callT nIn [(.node k1 (.node vk1 vn1 vs1 Lv1) nm1 A1), (callT nList [(.node k2 (.node vk2 vn2 vs2 Lv2) nm2 A2), (.node k3 (.node vk3 vn3 vs3 Lv3) nm3 A3)])])) e w' ∧ Below W.heap.size W w') := fun W p0 p1 kW b1 b0 => by
    have ts1 := HT1.out.below (below2 HL0.out.bel kW)
    have ts2 := HT2.out.below (below2 HL0.out.bel kW)
    have ts3 := HT3.out.below (below2 HL0.out.bel kW)
    exact HC.out _ _ HL0.out kW _ _ _ _ _ _ _ _ _ _ _ _ _ (call_at (nmx := nIn) (by decide) (Nat.le_refl _) (lies_two b1 ts1 (call_at (nmx := nList) (by decide) (Nat.le_refl _) (lies_two b0 ts2 ts3)))) (call_inM (by unfold InMs; exact ⟨HI1.out, by unfold InMs; exact ⟨(call_inM (by unfold InMs; exact ⟨HI2.out, by unfold InMs; exact ⟨HI3.out, by unfold InMs; trivial⟩⟩)), by unfold InMs; trivial⟩⟩))
  have D0 : Below X0.heap.size X0 X0.drew := (Below.refl _ _).drew
  obtain ⟨yg0, yg1, yg2, y10, y11, y12, y13, y14, y15, y16, y20, y21, y22, y23, y24, y25, y26, y30, y31, y32, y33, y34, y35, y36⟩ := HS1.out X0 (Below.refl _ _)
  have ylg : w.heap.size < X0.heap.size := lt_block' HL0.out.g
  have yl1 : w.heap.size + 1 < X0.heap.size := lt_block' HL0.out.s
  have yl2 : w.heap.size + 1 + 1 < X0.heap.size := lt_block' HL0.out.t
  have yl3 : w.heap.size + 1 + 1 + 1 < X0.heap.size := lt_block' HL0.out.u
  go_cut [13, 14] (fun sb se wx => EvOut X0 (OKG ∧ RightP env 6 (callT nIn [(.node k1 (.node vk1 vn1 vs1 Lv1) nm1 A1), (callT nList [(.node k2 (.node vk2 vn2 vs2 Lv2) nm2 A2), (.node k3 (.node vk3 vn3 vs3 Lv3) nm3 A3)])])) (evalF env 6 (callT nIn [(.node k1 (.node vk1 vn1 vs1 Lv1) nm1 A1), (callT nList [(.node k2 (.node vk2 vn2 vs2 Lv2) nm2 A2), (.node k3 (.node vk3 vn3 vs3 Lv3) nm3 A3)])])) sb se wx)
  case first =>
    go_region_held3 (fun W' => (W'.cell? ⟨w.heap.size, 0, none⟩ = some (.slice na nl nc) ∧ W'.cell? ⟨w.heap.size, 1, none⟩ = some (.slice ea el ec) ∧ W'.cell? ⟨w.heap.size, 2, none⟩ = some (.int .i64 nx) ∧ W'.cell? ⟨w.heap.size + 1, 0, none⟩ = some (.int .i64 k1) ∧ W'.cell? ⟨w.heap.size + 1, 1, none⟩ = some (.int .i64 vk1) ∧ W'.cell? ⟨w.heap.size + 1, 2, none⟩ = some (.int .i64 vn1) ∧ W'.cell? ⟨w.heap.size + 1, 3, none⟩ = some (.string vs1) ∧ W'.cell? ⟨w.heap.size + 1, 4, none⟩ = some (.slice va1 vl1 vc1) ∧ W'.cell? ⟨w.heap.size + 1, 5, none⟩ = some (.string nm1) ∧ W'.cell? ⟨w.heap.size + 1, 6, none⟩ = some (.slice a1 l1 c1) ∧ W'.cell? ⟨w.heap.size + 1 + 1, 0, none⟩ = some (.int .i64 k2) ∧ W'.cell? ⟨w.heap.size + 1 + 1, 1, none⟩ = some (.int .i64 vk2) ∧ W'.cell? ⟨w.heap.size + 1 + 1, 2, none⟩ = some (.int .i64 vn2) ∧ W'.cell? ⟨w.heap.size + 1 + 1, 3, none⟩ = some (.string vs2) ∧ W'.cell? ⟨w.heap.size + 1 + 1, 4, none⟩ = some (.slice va2 vl2 vc2) ∧ W'.cell? ⟨w.heap.size + 1 + 1, 5, none⟩ = some (.string nm2) ∧ W'.cell? ⟨w.heap.size + 1 + 1, 6, none⟩ = some (.slice a2 l2 c2) ∧ W'.cell? ⟨w.heap.size + 1 + 1 + 1, 0, none⟩ = some (.int .i64 k3) ∧ W'.cell? ⟨w.heap.size + 1 + 1 + 1, 1, none⟩ = some (.int .i64 vk3) ∧ W'.cell? ⟨w.heap.size + 1 + 1 + 1, 2, none⟩ = some (.int .i64 vn3) ∧ W'.cell? ⟨w.heap.size + 1 + 1 + 1, 3, none⟩ = some (.string vs3) ∧ W'.cell? ⟨w.heap.size + 1 + 1 + 1, 4, none⟩ = some (.slice va3 vl3 vc3) ∧ W'.cell? ⟨w.heap.size + 1 + 1 + 1, 5, none⟩ = some (.string nm3) ∧ W'.cell? ⟨w.heap.size + 1 + 1 + 1, 6, none⟩ = some (.slice a3 l3 c3)))
      (first
        | (with_reducible refine HS1.out _ ?_; (repeat' (first | with_reducible exact D0 | with_reducible exact Below.refl _ _ | with_reducible assumption | with_reducible refine bel_al ?_ _ | with_reducible refine bel_dr ?_ | with_reducible refine bel_set ?_ (by first | omega | (simp only [World.size_alloc, World.size_drew]; omega)) | with_reducible refine below2 ?_ (by with_reducible assumption))); done)
        | exact ⟨yg0, yg1, yg2, y10, y11, y12, y13, y14, y15, y16, y20, y21, y22, y23, y24, y25, y26, y30, y31, y32, y33, y34, y35, y36⟩
        | go_keep)
      (first
        | (go_at_call 7; go_fit (HE1.out _ _ _ (by (repeat' (first | with_reducible exact D0 | with_reducible exact Below.refl _ _ | with_reducible assumption | with_reducible refine bel_al ?_ _ | with_reducible refine bel_dr ?_ | with_reducible refine bel_set ?_ (by first | omega | (simp only [World.size_alloc, World.size_drew]; omega)) | with_reducible refine below2 ?_ (by with_reducible assumption)))) (by (repeat' (first | with_reducible exact blk_new (by simp) | with_reducible refine blk_al ?_ | with_reducible refine blk_dr ?_ | with_reducible refine blk_cl ?_ (by with_reducible assumption)))) (by (repeat' (first | with_reducible exact blk_new (by simp) | with_reducible refine blk_al ?_ | with_reducible refine blk_dr ?_ | with_reducible refine blk_cl ?_ (by with_reducible assumption)))) ); rintro e u9 ⟨⟨er, rk, rn, rs, ra, rl, rc, rfl, her, hva⟩, bq⟩; have zu9 : X0.heap.size ≤ u9.heap.size := (show Below X0.heap.size X0 u9 by (repeat' (first | with_reducible exact D0 | with_reducible exact Below.refl _ _ | with_reducible assumption | with_reducible refine bel_al ?_ _ | with_reducible refine bel_dr ?_ | with_reducible refine bel_set ?_ (by first | omega | (simp only [World.size_alloc, World.size_drew]; omega)) | with_reducible refine below2 ?_ (by with_reducible assumption)))).size; try ((first | have hq9 := blk_fin (blk_new (o := .cells #[.int .i64 0, .int .i64 0, .string ⟨#[]⟩, .slice none 0 0] 30) rfl) bq | have hq9 := blk_fin (blk_cl (blk_new (o := .cells #[.int .i64 0, .int .i64 0, .string ⟨#[]⟩, .slice none 0 0] 30) rfl) bm2) bq | have hq9 := blk_fin (blk_cl (blk_al (blk_new (o := .cells #[.int .i64 0, .int .i64 0, .string ⟨#[]⟩, .slice none 0 0] 30) rfl)) bm2) bq | have hq9 := blk_fin (blk_cl (blk_al (blk_cl (blk_dr (blk_new (o := .cells #[.int .i64 0, .int .i64 0, .string ⟨#[]⟩, .slice none 0 0] 30) rfl)) bm1)) bm2) bq | have hq9 := blk_fin (blk_cl (blk_al (blk_cl (blk_dr (blk_al (blk_new (o := .cells #[.int .i64 0, .int .i64 0, .string ⟨#[]⟩, .slice none 0 0] 30) rfl))) bm1)) bm2) bq); (try simp only [World.size_alloc, World.size_drew] at hq9); have r0 := cell_of hq9.1 0; have r1 := cell_of hq9.1 1; have r2 := cell_of hq9.1 2; have r3 := cell_of hq9.1 3; have f0 := free_of hq9.1 0; have f1 := free_of hq9.1 1; have f2 := free_of hq9.1 2; have f3 := free_of hq9.1 3; simp at r0 r1 r2 r3; have hsz9 := lt_block' hq9.1))
        | (go_at_call 8; have _q := bm1; clear _q; go_fit (call_made _ _ _ _ _); rintro e u2 ⟨rfl, bm2⟩; have zu2 : X0.heap.size ≤ u2.heap.size := (show Below X0.heap.size X0 u2 by (repeat' (first | with_reducible exact D0 | with_reducible exact Below.refl _ _ | with_reducible assumption | with_reducible refine bel_al ?_ _ | with_reducible refine bel_dr ?_ | with_reducible refine bel_set ?_ (by first | omega | (simp only [World.size_alloc, World.size_drew]; omega)) | with_reducible refine below2 ?_ (by with_reducible assumption)))).size)
        | (go_at_call 8; go_fit (call_made _ _ _ _ _); rintro e u1 ⟨rfl, bm1⟩; have zu1 : X0.heap.size ≤ u1.heap.size := (show Below X0.heap.size X0 u1 by (repeat' (first | with_reducible exact D0 | with_reducible exact Below.refl _ _ | with_reducible assumption | with_reducible refine bel_al ?_ _ | with_reducible refine bel_dr ?_ | with_reducible refine bel_set ?_ (by first | omega | (simp only [World.size_alloc, World.size_drew]; omega)) | with_reducible refine below2 ?_ (by with_reducible assumption)))).size))
    all_goals
      go_wp2_with fail
      go_meet
    all_goals first
      | with_reducible exact evout_new (by (repeat' (first | with_reducible exact D0 | with_reducible exact Below.refl _ _ | with_reducible assumption | with_reducible refine bel_al ?_ _ | with_reducible refine bel_dr ?_ | with_reducible refine bel_set ?_ (by first | omega | (simp only [World.size_alloc, World.size_drew]; omega)) | with_reducible refine below2 ?_ (by with_reducible assumption)))) bq her hva
      | with_reducible exact evout_put bq (by first | omega | (simp only [World.size_alloc, World.size_drew]; omega)) hq9.1 (by have := hq9.2; first | omega | (simp only [World.size_alloc, World.size_drew]; omega)) (by (repeat' (first | with_reducible exact D0 | with_reducible exact Below.refl _ _ | with_reducible assumption | with_reducible refine bel_al ?_ _ | with_reducible refine bel_dr ?_ | with_reducible refine bel_set ?_ (by first | omega | (simp only [World.size_alloc, World.size_drew]; omega)) | with_reducible refine below2 ?_ (by with_reducible assumption)))) her hva
  case rest =>
    obtain ⟨bx1, er1, rk1, rn1, rs1, ra1, rl1, rc1, rfl, rfl, _, hpb, her, hva, kx⟩ := hcut
    have HV1 : Hid (VB wc bx1 er1 rk1 rn1 rs1 ra1 rl1 rc1 (OKG ∧ RightP env 6 (callT nIn [(.node k1 (.node vk1 vn1 vs1 Lv1) nm1 A1), (callT nList [(.node k2 (.node vk2 vn2 vs2 Lv2) nm2 A2), (.node k3 (.node vk3 vn3 vs3 Lv3) nm3 A3)])])) (evalF env 6 (callT nIn [(.node k1 (.node vk1 vn1 vs1 Lv1) nm1 A1), (callT nList [(.node k2 (.node vk2 vn2 vs2 Lv2) nm2 A2), (.node k3 (.node vk3 vn3 vs3 Lv3) nm3 A3)])]))) := ⟨hpb, her, hva⟩
    have HL1 := toHid (HL0.out.step kx)
    clear yg0 yg1 yg2 y10 y11 y12 y13 y14 y15 y16 y20 y21 y22 y23 y24 y25 y26 y30 y31 y32 y33 y34 y35 y36 ylg yl1 yl2 yl3 D0 HS1 HE1 hpb her hva kx HL0
    obtain ⟨X1, hXX⟩ : ∃ X, X = wc := ⟨_, rfl⟩
    subst hXX
    go_upto_region 2 with fail
    have HS2 : Hid (∀ W', Below X1.heap.size X1 W' → (W'.cell? ⟨w.heap.size, 0, none⟩ = some (.slice na nl nc) ∧ W'.cell? ⟨w.heap.size, 1, none⟩ = some (.slice ea el ec) ∧ W'.cell? ⟨w.heap.size, 2, none⟩ = some (.int .i64 nx) ∧ W'.cell? ⟨w.heap.size + 1, 0, none⟩ = some (.int .i64 k1) ∧ W'.cell? ⟨w.heap.size + 1, 1, none⟩ = some (.int .i64 vk1) ∧ W'.cell? ⟨w.heap.size + 1, 2, none⟩ = some (.int .i64 vn1) ∧ W'.cell? ⟨w.heap.size + 1, 3, none⟩ = some (.string vs1) ∧ W'.cell? ⟨w.heap.size + 1, 4, none⟩ = some (.slice va1 vl1 vc1) ∧ W'.cell? ⟨w.heap.size + 1, 5, none⟩ = some (.string nm1) ∧ W'.cell? ⟨w.heap.size + 1, 6, none⟩ = some (.slice a1 l1 c1) ∧ W'.cell? ⟨w.heap.size + 1 + 1, 0, none⟩ = some (.int .i64 k2) ∧ W'.cell? ⟨w.heap.size + 1 + 1, 1, none⟩ = some (.int .i64 vk2) ∧ W'.cell? ⟨w.heap.size + 1 + 1, 2, none⟩ = some (.int .i64 vn2) ∧ W'.cell? ⟨w.heap.size + 1 + 1, 3, none⟩ = some (.string vs2) ∧ W'.cell? ⟨w.heap.size + 1 + 1, 4, none⟩ = some (.slice va2 vl2 vc2) ∧ W'.cell? ⟨w.heap.size + 1 + 1, 5, none⟩ = some (.string nm2) ∧ W'.cell? ⟨w.heap.size + 1 + 1, 6, none⟩ = some (.slice a2 l2 c2) ∧ W'.cell? ⟨w.heap.size + 1 + 1 + 1, 0, none⟩ = some (.int .i64 k3) ∧ W'.cell? ⟨w.heap.size + 1 + 1 + 1, 1, none⟩ = some (.int .i64 vk3) ∧ W'.cell? ⟨w.heap.size + 1 + 1 + 1, 2, none⟩ = some (.int .i64 vn3) ∧ W'.cell? ⟨w.heap.size + 1 + 1 + 1, 3, none⟩ = some (.string vs3) ∧ W'.cell? ⟨w.heap.size + 1 + 1 + 1, 4, none⟩ = some (.slice va3 vl3 vc3) ∧ W'.cell? ⟨w.heap.size + 1 + 1 + 1, 5, none⟩ = some (.string nm3) ∧ W'.cell? ⟨w.heap.size + 1 + 1 + 1, 6, none⟩ = some (.slice a3 l3 c3))) := fun W' kk => by
      have st := HL1.out.step kk
      exact ⟨cell_of st.g 0, cell_of st.g 1, cell_of st.g 2, cell_of st.s 0, cell_of st.s 1, cell_of st.s 2, cell_of st.s 3, cell_of st.s 4, cell_of st.s 5, cell_of st.s 6, cell_of st.t 0, cell_of st.t 1, cell_of st.t 2, cell_of st.t 3, cell_of st.t 4, cell_of st.t 5, cell_of st.t 6, cell_of st.u 0, cell_of st.u 1, cell_of st.u 2, cell_of st.u 3, cell_of st.u 4, cell_of st.u 5, cell_of st.u 6⟩
    have HE2 : Hid (∀ (W : World) (p0 p1 p2 : Nat), Below X1.heap.size X1 W → W.heap[p2]? = some (.cells #[.int .i64 4, .int .i64 0, .int .i64 0, .string ⟨#[]⟩, .slice none 0 0, .string nSame, .slice (some ⟨p0, 0, none⟩) 2 2, .int .i64 4, .int .i64 0, .int .i64 0, .string ⟨#[]⟩, .slice none 0 0, .string nSame, .slice (some ⟨p1, 0, none⟩) 2 2] 33 (0, 0)) → W.heap[p0]? = some (.cells #[.int .i64 k1, .int .i64 vk1, .int .i64 vn1, .string vs1, .slice va1 vl1 vc1, .string nm1, .slice a1 l1 c1, .int .i64 k2, .int .i64 vk2, .int .i64 vn2, .string vs2, .slice va2 vl2 vc2, .string nm2, .slice a2 l2 c2] 33 (0, 0)) → W.heap[p1]? = some (.cells #[.int .i64 k1, .int .i64 vk1, .int .i64 vn1, .string vs1, .slice va1 vl1 vc1, .string nm1, .slice a1 l1 c1, .int .i64 k3, .int .i64 vk3, .int .i64 vn3, .string vs3, .slice va3 vl3 vc3, .string nm3, .slice a3 l3 c3] 33 (0, 0)) → Calls Tryd.prog 7 #[.agg #[.slice na nl nc, .slice ea el ec, .int .i64 nx], .slice sa sl sc, .slice ia il ic, .agg #[.int .i64 4, .int .i64 0, .int .i64 0, .string ⟨#[]⟩, .slice none 0 0, .string nOr, .slice (some ⟨p2, 0, none⟩) 2 2]] W fun e w' => EvEnd W (OKG ∧ RightP env 6 (callT nOr [(callT nSame [(.node k1 (.node vk1 vn1 vs1 Lv1) nm1 A1), (.node k2 (.node vk2 vn2 vs2 Lv2) nm2 A2)]), (callT nSame [(.node k1 (.node vk1 vn1 vs1 Lv1) nm1 A1), (.node k3 (.node vk3 vn3 vs3 Lv3) nm3 A3)])])) (evalF env 6 (callT nOr [(callT nSame [(.node k1 (.node vk1 vn1 vs1 Lv1) nm1 A1), (.node k2 (.node vk2 vn2 vs2 Lv2) nm2 A2)]), (callT nSame [(.node k1 (.node vk1 vn1 vs1 Lv1) nm1 A1), (.node k3 (.node vk3 vn3 vs3 Lv3) nm3 A3)])])) e w' ∧ Below W.heap.size W w') := fun W p0 p1 p2 kW b2 b0 b1 => by
      have ts1 := HT1.out.below (below2 HL1.out.bel kW)
      have ts2 := HT2.out.below (below2 HL1.out.bel kW)
      have ts3 := HT3.out.below (below2 HL1.out.bel kW)
      exact HC.out _ _ HL1.out kW _ _ _ _ _ _ _ _ _ _ _ _ _ (call_at (nmx := nOr) (by decide) (Nat.le_refl _) (lies_two b2 (call_at (nmx := nSame) (by decide) (Nat.le_refl _) (lies_two b0 ts1 ts2)) (call_at (nmx := nSame) (by decide) (Nat.le_refl _) (lies_two b1 ts1 ts3)))) (call_inM (by unfold InMs; exact ⟨(call_inM (by unfold InMs; exact ⟨HI1.out, by unfold InMs; exact ⟨HI2.out, by unfold InMs; trivial⟩⟩)), by unfold InMs; exact ⟨(call_inM (by unfold InMs; exact ⟨HI1.out, by unfold InMs; exact ⟨HI3.out, by unfold InMs; trivial⟩⟩)), by unfold InMs; trivial⟩⟩))
    have D0 : Below X1.heap.size X1 X1.drew := (Below.refl _ _).drew
    obtain ⟨yg0, yg1, yg2, y10, y11, y12, y13, y14, y15, y16, y20, y21, y22, y23, y24, y25, y26, y30, y31, y32, y33, y34, y35, y36⟩ := HS2.out X1 (Below.refl _ _)
    have ylg : w.heap.size < X1.heap.size := lt_block' HL1.out.g
    have yl1 : w.heap.size + 1 < X1.heap.size := lt_block' HL1.out.s
    have yl2 : w.heap.size + 1 + 1 < X1.heap.size := lt_block' HL1.out.t
    have yl3 : w.heap.size + 1 + 1 + 1 < X1.heap.size := lt_block' HL1.out.u
    go_cut [15, 16] (fun sb se wx => EvOut X1 (OKG ∧ RightP env 6 (callT nOr [(callT nSame [(.node k1 (.node vk1 vn1 vs1 Lv1) nm1 A1), (.node k2 (.node vk2 vn2 vs2 Lv2) nm2 A2)]), (callT nSame [(.node k1 (.node vk1 vn1 vs1 Lv1) nm1 A1), (.node k3 (.node vk3 vn3 vs3 Lv3) nm3 A3)])])) (evalF env 6 (callT nOr [(callT nSame [(.node k1 (.node vk1 vn1 vs1 Lv1) nm1 A1), (.node k2 (.node vk2 vn2 vs2 Lv2) nm2 A2)]), (callT nSame [(.node k1 (.node vk1 vn1 vs1 Lv1) nm1 A1), (.node k3 (.node vk3 vn3 vs3 Lv3) nm3 A3)])])) sb se wx)
    case first =>
      go_region_held3 (fun W' => (W'.cell? ⟨w.heap.size, 0, none⟩ = some (.slice na nl nc) ∧ W'.cell? ⟨w.heap.size, 1, none⟩ = some (.slice ea el ec) ∧ W'.cell? ⟨w.heap.size, 2, none⟩ = some (.int .i64 nx) ∧ W'.cell? ⟨w.heap.size + 1, 0, none⟩ = some (.int .i64 k1) ∧ W'.cell? ⟨w.heap.size + 1, 1, none⟩ = some (.int .i64 vk1) ∧ W'.cell? ⟨w.heap.size + 1, 2, none⟩ = some (.int .i64 vn1) ∧ W'.cell? ⟨w.heap.size + 1, 3, none⟩ = some (.string vs1) ∧ W'.cell? ⟨w.heap.size + 1, 4, none⟩ = some (.slice va1 vl1 vc1) ∧ W'.cell? ⟨w.heap.size + 1, 5, none⟩ = some (.string nm1) ∧ W'.cell? ⟨w.heap.size + 1, 6, none⟩ = some (.slice a1 l1 c1) ∧ W'.cell? ⟨w.heap.size + 1 + 1, 0, none⟩ = some (.int .i64 k2) ∧ W'.cell? ⟨w.heap.size + 1 + 1, 1, none⟩ = some (.int .i64 vk2) ∧ W'.cell? ⟨w.heap.size + 1 + 1, 2, none⟩ = some (.int .i64 vn2) ∧ W'.cell? ⟨w.heap.size + 1 + 1, 3, none⟩ = some (.string vs2) ∧ W'.cell? ⟨w.heap.size + 1 + 1, 4, none⟩ = some (.slice va2 vl2 vc2) ∧ W'.cell? ⟨w.heap.size + 1 + 1, 5, none⟩ = some (.string nm2) ∧ W'.cell? ⟨w.heap.size + 1 + 1, 6, none⟩ = some (.slice a2 l2 c2) ∧ W'.cell? ⟨w.heap.size + 1 + 1 + 1, 0, none⟩ = some (.int .i64 k3) ∧ W'.cell? ⟨w.heap.size + 1 + 1 + 1, 1, none⟩ = some (.int .i64 vk3) ∧ W'.cell? ⟨w.heap.size + 1 + 1 + 1, 2, none⟩ = some (.int .i64 vn3) ∧ W'.cell? ⟨w.heap.size + 1 + 1 + 1, 3, none⟩ = some (.string vs3) ∧ W'.cell? ⟨w.heap.size + 1 + 1 + 1, 4, none⟩ = some (.slice va3 vl3 vc3) ∧ W'.cell? ⟨w.heap.size + 1 + 1 + 1, 5, none⟩ = some (.string nm3) ∧ W'.cell? ⟨w.heap.size + 1 + 1 + 1, 6, none⟩ = some (.slice a3 l3 c3)))
        (first
          | (with_reducible refine HS2.out _ ?_; (repeat' (first | with_reducible exact D0 | with_reducible exact Below.refl _ _ | with_reducible assumption | with_reducible refine bel_al ?_ _ | with_reducible refine bel_dr ?_ | with_reducible refine bel_set ?_ (by first | omega | (simp only [World.size_alloc, World.size_drew]; omega)) | with_reducible refine below2 ?_ (by with_reducible assumption))); done)
          | exact ⟨yg0, yg1, yg2, y10, y11, y12, y13, y14, y15, y16, y20, y21, y22, y23, y24, y25, y26, y30, y31, y32, y33, y34, y35, y36⟩
          | go_keep)
        (first
          | (go_at_call 7; go_fit (HE2.out _ _ _ _ (by (repeat' (first | with_reducible exact D0 | with_reducible exact Below.refl _ _ | with_reducible assumption | with_reducible refine bel_al ?_ _ | with_reducible refine bel_dr ?_ | with_reducible refine bel_set ?_ (by first | omega | (simp only [World.size_alloc, World.size_drew]; omega)) | with_reducible refine below2 ?_ (by with_reducible assumption)))) (by (repeat' (first | with_reducible exact blk_new (by simp) | with_reducible refine blk_al ?_ | with_reducible refine blk_dr ?_ | with_reducible refine blk_cl ?_ (by with_reducible assumption)))) (by (repeat' (first | with_reducible exact blk_new (by simp) | with_reducible refine blk_al ?_ | with_reducible refine blk_dr ?_ | with_reducible refine blk_cl ?_ (by with_reducible assumption)))) (by (repeat' (first | with_reducible exact blk_new (by simp) | with_reducible refine blk_al ?_ | with_reducible refine blk_dr ?_ | with_reducible refine blk_cl ?_ (by with_reducible assumption)))) ); rintro e u9 ⟨⟨er, rk, rn, rs, ra, rl, rc, rfl, her, hva⟩, bq⟩; have zu9 : X1.heap.size ≤ u9.heap.size := (show Below X1.heap.size X1 u9 by (repeat' (first | with_reducible exact D0 | with_reducible exact Below.refl _ _ | with_reducible assumption | with_reducible refine bel_al ?_ _ | with_reducible refine bel_dr ?_ | with_reducible refine bel_set ?_ (by first | omega | (simp only [World.size_alloc, World.size_drew]; omega)) | with_reducible refine below2 ?_ (by with_reducible assumption)))).size; try ((first | have hq9 := blk_fin (blk_new (o := .cells #[.int .i64 0, .int .i64 0, .string ⟨#[]⟩, .slice none 0 0] 30) rfl) bq | have hq9 := blk_fin (blk_cl (blk_new (o := .cells #[.int .i64 0, .int .i64 0, .string ⟨#[]⟩, .slice none 0 0] 30) rfl) bm3) bq | have hq9 := blk_fin (blk_cl (blk_al (blk_new (o := .cells #[.int .i64 0, .int .i64 0, .string ⟨#[]⟩, .slice none 0 0] 30) rfl)) bm3) bq | have hq9 := blk_fin (blk_cl (blk_al (blk_cl (blk_new (o := .cells #[.int .i64 0, .int .i64 0, .string ⟨#[]⟩, .slice none 0 0] 30) rfl) bm2)) bm3) bq | have hq9 := blk_fin (blk_cl (blk_al (blk_cl (blk_al (blk_new (o := .cells #[.int .i64 0, .int .i64 0, .string ⟨#[]⟩, .slice none 0 0] 30) rfl)) bm2)) bm3) bq | have hq9 := blk_fin (blk_cl (blk_al (blk_cl (blk_cl (blk_dr (blk_new (o := .cells #[.int .i64 0, .int .i64 0, .string ⟨#[]⟩, .slice none 0 0] 30) rfl)) bm1) bm2)) bm3) bq | have hq9 := blk_fin (blk_cl (blk_al (blk_cl (blk_al (blk_cl (blk_dr (blk_new (o := .cells #[.int .i64 0, .int .i64 0, .string ⟨#[]⟩, .slice none 0 0] 30) rfl)) bm1)) bm2)) bm3) bq | have hq9 := blk_fin (blk_cl (blk_al (blk_cl (blk_cl (blk_dr (blk_al (blk_new (o := .cells #[.int .i64 0, .int .i64 0, .string ⟨#[]⟩, .slice none 0 0] 30) rfl))) bm1) bm2)) bm3) bq | have hq9 := blk_fin (blk_cl (blk_al (blk_cl (blk_al (blk_cl (blk_dr (blk_al (blk_new (o := .cells #[.int .i64 0, .int .i64 0, .string ⟨#[]⟩, .slice none 0 0] 30) rfl))) bm1)) bm2)) bm3) bq | have hq9 := blk_fin (blk_cl (blk_al (blk_cl (blk_cl (blk_dr (blk_al (blk_al (blk_new (o := .cells #[.int .i64 0, .int .i64 0, .string ⟨#[]⟩, .slice none 0 0] 30) rfl)))) bm1) bm2)) bm3) bq); (try simp only [World.size_alloc, World.size_drew] at hq9); have r0 := cell_of hq9.1 0; have r1 := cell_of hq9.1 1; have r2 := cell_of hq9.1 2; have r3 := cell_of hq9.1 3; have f0 := free_of hq9.1 0; have f1 := free_of hq9.1 1; have f2 := free_of hq9.1 2; have f3 := free_of hq9.1 3; simp at r0 r1 r2 r3; have hsz9 := lt_block' hq9.1))
          | (go_at_call 8; have _q := bm2; clear _q; go_fit (call_made _ _ _ _ _); rintro e u3 ⟨rfl, bm3⟩; have zu3 : X1.heap.size ≤ u3.heap.size := (show Below X1.heap.size X1 u3 by (repeat' (first | with_reducible exact D0 | with_reducible exact Below.refl _ _ | with_reducible assumption | with_reducible refine bel_al ?_ _ | with_reducible refine bel_dr ?_ | with_reducible refine bel_set ?_ (by first | omega | (simp only [World.size_alloc, World.size_drew]; omega)) | with_reducible refine below2 ?_ (by with_reducible assumption)))).size)
          | (go_at_call 8; have _q := bm1; clear _q; go_fit (call_made _ _ _ _ _); rintro e u2 ⟨rfl, bm2⟩; have zu2 : X1.heap.size ≤ u2.heap.size := (show Below X1.heap.size X1 u2 by (repeat' (first | with_reducible exact D0 | with_reducible exact Below.refl _ _ | with_reducible assumption | with_reducible refine bel_al ?_ _ | with_reducible refine bel_dr ?_ | with_reducible refine bel_set ?_ (by first | omega | (simp only [World.size_alloc, World.size_drew]; omega)) | with_reducible refine below2 ?_ (by with_reducible assumption)))).size)
          | (go_at_call 8; go_fit (call_made _ _ _ _ _); rintro e u1 ⟨rfl, bm1⟩; have zu1 : X1.heap.size ≤ u1.heap.size := (show Below X1.heap.size X1 u1 by (repeat' (first | with_reducible exact D0 | with_reducible exact Below.refl _ _ | with_reducible assumption | with_reducible refine bel_al ?_ _ | with_reducible refine bel_dr ?_ | with_reducible refine bel_set ?_ (by first | omega | (simp only [World.size_alloc, World.size_drew]; omega)) | with_reducible refine below2 ?_ (by with_reducible assumption)))).size))
      all_goals
        go_wp2_with fail
        go_meet
      all_goals first
        | with_reducible exact evout_new (by (repeat' (first | with_reducible exact D0 | with_reducible exact Below.refl _ _ | with_reducible assumption | with_reducible refine bel_al ?_ _ | with_reducible refine bel_dr ?_ | with_reducible refine bel_set ?_ (by first | omega | (simp only [World.size_alloc, World.size_drew]; omega)) | with_reducible refine below2 ?_ (by with_reducible assumption)))) bq her hva
        | with_reducible exact evout_put bq (by first | omega | (simp only [World.size_alloc, World.size_drew]; omega)) hq9.1 (by have := hq9.2; first | omega | (simp only [World.size_alloc, World.size_drew]; omega)) (by (repeat' (first | with_reducible exact D0 | with_reducible exact Below.refl _ _ | with_reducible assumption | with_reducible refine bel_al ?_ _ | with_reducible refine bel_dr ?_ | with_reducible refine bel_set ?_ (by first | omega | (simp only [World.size_alloc, World.size_drew]; omega)) | with_reducible refine below2 ?_ (by with_reducible assumption)))) her hva
    case rest =>
      obtain ⟨bx2, er2, rk2, rn2, rs2, ra2, rl2, rc2, rfl, rfl, _, hpb, her, hva, kx⟩ := hcut
      have HV2 : Hid (VB wc bx2 er2 rk2 rn2 rs2 ra2 rl2 rc2 (OKG ∧ RightP env 6 (callT nOr [(callT nSame [(.node k1 (.node vk1 vn1 vs1 Lv1) nm1 A1), (.node k2 (.node vk2 vn2 vs2 Lv2) nm2 A2)]), (callT nSame [(.node k1 (.node vk1 vn1 vs1 Lv1) nm1 A1), (.node k3 (.node vk3 vn3 vs3 Lv3) nm3 A3)])])) (evalF env 6 (callT nOr [(callT nSame [(.node k1 (.node vk1 vn1 vs1 Lv1) nm1 A1), (.node k2 (.node vk2 vn2 vs2 Lv2) nm2 A2)]), (callT nSame [(.node k1 (.node vk1 vn1 vs1 Lv1) nm1 A1), (.node k3 (.node vk3 vn3 vs3 Lv3) nm3 A3)])]))) := ⟨hpb, her, hva⟩
      have HL2 := toHid (HL1.out.step kx)
      replace HV1 := toHid (HV1.out.step kx)
      clear yg0 yg1 yg2 y10 y11 y12 y13 y14 y15 y16 y20 y21 y22 y23 y24 y25 y26 y30 y31 y32 y33 y34 y35 y36 ylg yl1 yl2 yl3 D0 HS2 HE2 hpb her hva kx HL1
      obtain ⟨X2, hXX⟩ : ∃ X, X = wc := ⟨_, rfl⟩
      subst hXX
      go_upto_region 3 with fail
      have HS3 : Hid (∀ W', Below X2.heap.size X2 W' → (W'.cell? ⟨w.heap.size, 0, none⟩ = some (.slice na nl nc) ∧ W'.cell? ⟨w.heap.size, 1, none⟩ = some (.slice ea el ec) ∧ W'.cell? ⟨w.heap.size, 2, none⟩ = some (.int .i64 nx) ∧ W'.cell? ⟨w.heap.size + 1 + 1, 0, none⟩ = some (.int .i64 k2) ∧ W'.cell? ⟨w.heap.size + 1 + 1, 1, none⟩ = some (.int .i64 vk2) ∧ W'.cell? ⟨w.heap.size + 1 + 1, 2, none⟩ = some (.int .i64 vn2) ∧ W'.cell? ⟨w.heap.size + 1 + 1, 3, none⟩ = some (.string vs2) ∧ W'.cell? ⟨w.heap.size + 1 + 1, 4, none⟩ = some (.slice va2 vl2 vc2) ∧ W'.cell? ⟨w.heap.size + 1 + 1, 5, none⟩ = some (.string nm2) ∧ W'.cell? ⟨w.heap.size + 1 + 1, 6, none⟩ = some (.slice a2 l2 c2) ∧ W'.cell? ⟨w.heap.size + 1 + 1 + 1, 0, none⟩ = some (.int .i64 k3) ∧ W'.cell? ⟨w.heap.size + 1 + 1 + 1, 1, none⟩ = some (.int .i64 vk3) ∧ W'.cell? ⟨w.heap.size + 1 + 1 + 1, 2, none⟩ = some (.int .i64 vn3) ∧ W'.cell? ⟨w.heap.size + 1 + 1 + 1, 3, none⟩ = some (.string vs3) ∧ W'.cell? ⟨w.heap.size + 1 + 1 + 1, 4, none⟩ = some (.slice va3 vl3 vc3) ∧ W'.cell? ⟨w.heap.size + 1 + 1 + 1, 5, none⟩ = some (.string nm3) ∧ W'.cell? ⟨w.heap.size + 1 + 1 + 1, 6, none⟩ = some (.slice a3 l3 c3))) := fun W' kk => by
        have st := HL2.out.step kk
        exact ⟨cell_of st.g 0, cell_of st.g 1, cell_of st.g 2, cell_of st.t 0, cell_of st.t 1, cell_of st.t 2, cell_of st.t 3, cell_of st.t 4, cell_of st.t 5, cell_of st.t 6, cell_of st.u 0, cell_of st.u 1, cell_of st.u 2, cell_of st.u 3, cell_of st.u 4, cell_of st.u 5, cell_of st.u 6⟩
      have HE3 : Hid (∀ (W : World) (p0 : Nat), Below X2.heap.size X2 W → W.heap[p0]? = some (.cells #[.int .i64 k2, .int .i64 vk2, .int .i64 vn2, .string vs2, .slice va2 vl2 vc2, .string nm2, .slice a2 l2 c2, .int .i64 k3, .int .i64 vk3, .int .i64 vn3, .string vs3, .slice va3 vl3 vc3, .string nm3, .slice a3 l3 c3] 33 (0, 0)) → Calls Tryd.prog 7 #[.agg #[.slice na nl nc, .slice ea el ec, .int .i64 nx], .slice sa sl sc, .slice ia il ic, .agg #[.int .i64 4, .int .i64 0, .int .i64 0, .string ⟨#[]⟩, .slice none 0 0, .string nList, .slice (some ⟨p0, 0, none⟩) 2 2]] W fun e w' => EvEnd W (OKG ∧ RightP env 6 (callT nList [(.node k2 (.node vk2 vn2 vs2 Lv2) nm2 A2), (.node k3 (.node vk3 vn3 vs3 Lv3) nm3 A3)])) (evalF env 6 (callT nList [(.node k2 (.node vk2 vn2 vs2 Lv2) nm2 A2), (.node k3 (.node vk3 vn3 vs3 Lv3) nm3 A3)])) e w' ∧ Below W.heap.size W w') := fun W p0 kW b0 => by
        have ts2 := HT2.out.below (below2 HL2.out.bel kW)
        have ts3 := HT3.out.below (below2 HL2.out.bel kW)
        exact HC.out _ _ HL2.out kW _ _ _ _ _ _ _ _ _ _ _ _ _ (call_at (nmx := nList) (by decide) (Nat.le_refl _) (lies_two b0 ts2 ts3)) (call_inM (by unfold InMs; exact ⟨HI2.out, by unfold InMs; exact ⟨HI3.out, by unfold InMs; trivial⟩⟩))
      have D0 : Below X2.heap.size X2 X2.drew := (Below.refl _ _).drew
      obtain ⟨yg0, yg1, yg2, y20, y21, y22, y23, y24, y25, y26, y30, y31, y32, y33, y34, y35, y36⟩ := HS3.out X2 (Below.refl _ _)
      have ylg : w.heap.size < X2.heap.size := lt_block' HL2.out.g
      have yl2 : w.heap.size + 1 + 1 < X2.heap.size := lt_block' HL2.out.t
      have yl3 : w.heap.size + 1 + 1 + 1 < X2.heap.size := lt_block' HL2.out.u
      go_cut [17, 18] (fun sb se wx => EvOut X2 (OKG ∧ RightP env 6 (callT nList [(.node k2 (.node vk2 vn2 vs2 Lv2) nm2 A2), (.node k3 (.node vk3 vn3 vs3 Lv3) nm3 A3)])) (evalF env 6 (callT nList [(.node k2 (.node vk2 vn2 vs2 Lv2) nm2 A2), (.node k3 (.node vk3 vn3 vs3 Lv3) nm3 A3)])) sb se wx)
      case first =>
        go_region_held3 (fun W' => (W'.cell? ⟨w.heap.size, 0, none⟩ = some (.slice na nl nc) ∧ W'.cell? ⟨w.heap.size, 1, none⟩ = some (.slice ea el ec) ∧ W'.cell? ⟨w.heap.size, 2, none⟩ = some (.int .i64 nx) ∧ W'.cell? ⟨w.heap.size + 1 + 1, 0, none⟩ = some (.int .i64 k2) ∧ W'.cell? ⟨w.heap.size + 1 + 1, 1, none⟩ = some (.int .i64 vk2) ∧ W'.cell? ⟨w.heap.size + 1 + 1, 2, none⟩ = some (.int .i64 vn2) ∧ W'.cell? ⟨w.heap.size + 1 + 1, 3, none⟩ = some (.string vs2) ∧ W'.cell? ⟨w.heap.size + 1 + 1, 4, none⟩ = some (.slice va2 vl2 vc2) ∧ W'.cell? ⟨w.heap.size + 1 + 1, 5, none⟩ = some (.string nm2) ∧ W'.cell? ⟨w.heap.size + 1 + 1, 6, none⟩ = some (.slice a2 l2 c2) ∧ W'.cell? ⟨w.heap.size + 1 + 1 + 1, 0, none⟩ = some (.int .i64 k3) ∧ W'.cell? ⟨w.heap.size + 1 + 1 + 1, 1, none⟩ = some (.int .i64 vk3) ∧ W'.cell? ⟨w.heap.size + 1 + 1 + 1, 2, none⟩ = some (.int .i64 vn3) ∧ W'.cell? ⟨w.heap.size + 1 + 1 + 1, 3, none⟩ = some (.string vs3) ∧ W'.cell? ⟨w.heap.size + 1 + 1 + 1, 4, none⟩ = some (.slice va3 vl3 vc3) ∧ W'.cell? ⟨w.heap.size + 1 + 1 + 1, 5, none⟩ = some (.string nm3) ∧ W'.cell? ⟨w.heap.size + 1 + 1 + 1, 6, none⟩ = some (.slice a3 l3 c3)))
          (first
            | (with_reducible refine HS3.out _ ?_; (repeat' (first | with_reducible exact D0 | with_reducible exact Below.refl _ _ | with_reducible assumption | with_reducible refine bel_al ?_ _ | with_reducible refine bel_dr ?_ | with_reducible refine bel_set ?_ (by first | omega | (simp only [World.size_alloc, World.size_drew]; omega)) | with_reducible refine below2 ?_ (by with_reducible assumption))); done)
            | exact ⟨yg0, yg1, yg2, y20, y21, y22, y23, y24, y25, y26, y30, y31, y32, y33, y34, y35, y36⟩
            | go_keep)
          (first
            | (go_at_call 7; go_fit (HE3.out _ _ (by (repeat' (first | with_reducible exact D0 | with_reducible exact Below.refl _ _ | with_reducible assumption | with_reducible refine bel_al ?_ _ | with_reducible refine bel_dr ?_ | with_reducible refine bel_set ?_ (by first | omega | (simp only [World.size_alloc, World.size_drew]; omega)) | with_reducible refine below2 ?_ (by with_reducible assumption)))) (by (repeat' (first | with_reducible exact blk_new (by simp) | with_reducible refine blk_al ?_ | with_reducible refine blk_dr ?_ | with_reducible refine blk_cl ?_ (by with_reducible assumption)))) ); rintro e u9 ⟨⟨er, rk, rn, rs, ra, rl, rc, rfl, her, hva⟩, bq⟩; have zu9 : X2.heap.size ≤ u9.heap.size := (show Below X2.heap.size X2 u9 by (repeat' (first | with_reducible exact D0 | with_reducible exact Below.refl _ _ | with_reducible assumption | with_reducible refine bel_al ?_ _ | with_reducible refine bel_dr ?_ | with_reducible refine bel_set ?_ (by first | omega | (simp only [World.size_alloc, World.size_drew]; omega)) | with_reducible refine below2 ?_ (by with_reducible assumption)))).size; try ((first | have hq9 := blk_fin (blk_new (o := .cells #[.int .i64 0, .int .i64 0, .string ⟨#[]⟩, .slice none 0 0] 30) rfl) bq | have hq9 := blk_fin (blk_cl (blk_dr (blk_new (o := .cells #[.int .i64 0, .int .i64 0, .string ⟨#[]⟩, .slice none 0 0] 30) rfl)) bm1) bq | have hq9 := blk_fin (blk_cl (blk_dr (blk_al (blk_new (o := .cells #[.int .i64 0, .int .i64 0, .string ⟨#[]⟩, .slice none 0 0] 30) rfl))) bm1) bq); (try simp only [World.size_alloc, World.size_drew] at hq9); have r0 := cell_of hq9.1 0; have r1 := cell_of hq9.1 1; have r2 := cell_of hq9.1 2; have r3 := cell_of hq9.1 3; have f0 := free_of hq9.1 0; have f1 := free_of hq9.1 1; have f2 := free_of hq9.1 2; have f3 := free_of hq9.1 3; simp at r0 r1 r2 r3; have hsz9 := lt_block' hq9.1))
            | (go_at_call 8; go_fit (call_made _ _ _ _ _); rintro e u1 ⟨rfl, bm1⟩; have zu1 : X2.heap.size ≤ u1.heap.size := (show Below X2.heap.size X2 u1 by (repeat' (first | with_reducible exact D0 | with_reducible exact Below.refl _ _ | with_reducible assumption | with_reducible refine bel_al ?_ _ | with_reducible refine bel_dr ?_ | with_reducible refine bel_set ?_ (by first | omega | (simp only [World.size_alloc, World.size_drew]; omega)) | with_reducible refine below2 ?_ (by with_reducible assumption)))).size))
        all_goals
          go_wp2_with fail
          go_meet
        all_goals first
          | with_reducible exact evout_new (by (repeat' (first | with_reducible exact D0 | with_reducible exact Below.refl _ _ | with_reducible assumption | with_reducible refine bel_al ?_ _ | with_reducible refine bel_dr ?_ | with_reducible refine bel_set ?_ (by first | omega | (simp only [World.size_alloc, World.size_drew]; omega)) | with_reducible refine below2 ?_ (by with_reducible assumption)))) bq her hva
          | with_reducible exact evout_put bq (by first | omega | (simp only [World.size_alloc, World.size_drew]; omega)) hq9.1 (by have := hq9.2; first | omega | (simp only [World.size_alloc, World.size_drew]; omega)) (by (repeat' (first | with_reducible exact D0 | with_reducible exact Below.refl _ _ | with_reducible assumption | with_reducible refine bel_al ?_ _ | with_reducible refine bel_dr ?_ | with_reducible refine bel_set ?_ (by first | omega | (simp only [World.size_alloc, World.size_drew]; omega)) | with_reducible refine below2 ?_ (by with_reducible assumption)))) her hva
      case rest =>
        obtain ⟨bx3, er3, rk3, rn3, rs3, ra3, rl3, rc3, rfl, rfl, _, hpb, her, hva, kx⟩ := hcut
        have HV3 : Hid (VB wc bx3 er3 rk3 rn3 rs3 ra3 rl3 rc3 (OKG ∧ RightP env 6 (callT nList [(.node k2 (.node vk2 vn2 vs2 Lv2) nm2 A2), (.node k3 (.node vk3 vn3 vs3 Lv3) nm3 A3)])) (evalF env 6 (callT nList [(.node k2 (.node vk2 vn2 vs2 Lv2) nm2 A2), (.node k3 (.node vk3 vn3 vs3 Lv3) nm3 A3)]))) := ⟨hpb, her, hva⟩
        have HL3 := toHid (HL2.out.step kx)
        replace HV1 := toHid (HV1.out.step kx)
        replace HV2 := toHid (HV2.out.step kx)
        clear yg0 yg1 yg2 y20 y21 y22 y23 y24 y25 y26 y30 y31 y32 y33 y34 y35 y36 ylg yl2 yl3 D0 HS3 HE3 hpb her hva kx HL2
        obtain ⟨X3, hXX⟩ : ∃ X, X = wc := ⟨_, rfl⟩
        subst hXX
        go_wp2_with fail
        refine (termed_true (B := w.heap.size) _ HL3.out.bel.size (HT.out.below HL3.out.bel)).mono ?_
        rintro e x3 ⟨rfl, bx3⟩
        replace HL3 := toHid (HL3.out.step bx3)
        replace HV1 := toHid (HV1.out.step bx3)
        replace HV2 := toHid (HV2.out.step bx3)
        replace HV3 := toHid (HV3.out.step bx3)
        clear bx3
        have z30 := cell_of HV3.out.box 0
        simp at z30
        have zl3 : bx3 < x3.heap.size := lt_block' HV3.out.box
        by_cases he1 : er1 = 0
        case neg =>
          have hz1 : (er1 != 0) = true := by simp [he1]
          go_wp2_with fail
          refine (termed_true (B := w.heap.size) _ HL3.out.bel.size (HT.out.below HL3.out.bel)).mono ?_
          rintro e x4 ⟨rfl, bx4⟩
          go_wp2_with fail
          go_ret
          exact ⟨rfl, below2 HL3.out.bel bx4⟩
        by_cases he2 : er2 = 0
        case neg =>
          have hz1 : (er1 != 0) = false := by simp [he1]
          have hz2 : (er2 != 0) = true := by simp [he2]
          go_wp2_with fail
          refine (termed_true (B := w.heap.size) _ HL3.out.bel.size (HT.out.below HL3.out.bel)).mono ?_
          rintro e x4 ⟨rfl, bx4⟩
          go_wp2_with fail
          go_ret
          exact ⟨rfl, below2 HL3.out.bel bx4⟩
        by_cases he3 : er3 = 0
        case neg =>
          have hz1 : (er1 != 0) = false := by simp [he1]
          have hz2 : (er2 != 0) = false := by simp [he2]
          have hz3 : (er3 != 0) = true := by simp [he3]
          go_wp2_with fail
          refine (termed_true (B := w.heap.size) _ HL3.out.bel.size (HT.out.below HL3.out.bel)).mono ?_
          rintro e x4 ⟨rfl, bx4⟩
          go_wp2_with fail
          go_ret
          exact ⟨rfl, below2 HL3.out.bel bx4⟩
        have hz1 : (er1 != 0) = false := by simp [he1]
        have hz2 : (er2 != 0) = false := by simp [he2]
        have hz3 : (er3 != 0) = false := by simp [he3]
        by_cases hk : rk3 = 0
        case pos =>
          have hk1 : (rk3 == 0) = true := by simp [hk]
          go_wp2_with fail
          refine (termed_true (B := w.heap.size) _ HL3.out.bel.size (HT.out.below HL3.out.bel)).mono ?_
          rintro e x4 ⟨rfl, bx4⟩
          go_wp2_with fail
          go_ret
          exact ⟨rfl, below2 HL3.out.bel bx4⟩
        have hk1 : (rk3 == 0) = false := by simp [hk]
        have ok1 := HV1.out.err.1 he1
        have ok2 := HV2.out.err.1 he2
        obtain ⟨La, g1, _, _, g2⟩ := HV1.out.val ok1
        obtain ⟨Lb, g3, _, _, g4⟩ := HV2.out.val ok2
        obtain ⟨Lc, g5, _, _, _⟩ := HV3.out.val (HV3.out.err.1 he3)
        have hw := wt_of (cw_eval (HE.out ok1.1) 6 _ ok1.2) _ _ _ _ g1
        have ee := g3.symm.trans ((in_pure ok1.2 ok2.2 (fun h => by
          have h6 := g5.symm.trans h
          unfold tNull at h6
          injection h6 with q1
          exact hk q1)).symm.trans g1)
        injection ee with q1 q2 q3 q4
        subst q4
        subst q1 q2 q3
        have KA := toHid g2
        have KB := toHid g4
        clear g1 g2 g3 g4 g5 ok1 ok2
        have z10 := cell_of HV1.out.box 0
        have z11 := cell_of HV1.out.box 1
        have z12 := cell_of HV1.out.box 2
        have z13 := cell_of HV1.out.box 3
        have zl1 : bx1 < x3.heap.size := lt_block' HV1.out.box
        have z20 := cell_of HV2.out.box 0
        have z21 := cell_of HV2.out.box 1
        have z22 := cell_of HV2.out.box 2
        have z23 := cell_of HV2.out.box 3
        have zl2 : bx2 < x3.heap.size := lt_block' HV2.out.box
        simp at z10 z11 z12 z13 z20 z21 z22 z23
        go_wp2_with fail
        refine (same_copy _ _ _ _ _ _ _ _ _ _ _ hw KA.out KB.out).mono ?_
        rintro e x4 ⟨rfl, bx4⟩
        go_wp2_with fail
        go_ret
        exact ⟨rfl, below2 HL3.out.bel bx4⟩
end Go.Proofs.YtkpjbbmjcifhbaaDoor
