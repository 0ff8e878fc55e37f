/-
  What is proved here: what the texts EEval, EEnv, EEv, EIn prove, in one text.
-/
import Derived.Test.YtbfhapmnnckkaaaGreatDoorQNAY
import Derived.Test.YtbfhapmnnckkaaaGreatDoorQNAL
import Derived.Test.YtbfhapmnnckkaaaGreatDoorQNAM
import Derived.Test.YtbfhapmnnckkaaaGreatDoorQNAF
namespace Go.Proofs.YtbfhapmnnckkaaaGreatDoor
open Go.RowKit
set_option linter.unusedVariables false

/-- What Eval hands back: an error just if it is not so; else the value. -/
def EvEnd (W : World) (OKP : Prop) (t : T) (e : Ending) (w' : World) : Prop := ∃ er k n s a l c, e = .returned (.tuple #[vC k n s a l c, .int .i64 er]) ∧ (er = 0 ↔ OKP) ∧ (OKP → ∃ L, t = .node k n s L ∧ l ≤ c ∧ s.size ≤ 9223372036854775807 ∧ LieA (fun i => W.heap.size ≤ i) w' L a l)

set_option maxHeartbeats 4000000 in
set_option maxRecDepth 100000 in
theorem eval_any {B : Nat} (w0 w : World) (na : Option Addr) (nl nc : Nat) (ea : Option Addr) (el ec : Nat) (next : Int) (sa : Option Addr) (sl sc : Nat) (ia : Option Addr) (il ic : Nat) (k vk vn : Int) (vs : ByteArray) (va : Option Addr) (vl vc : Nat) (nm : ByteArray) (a : Option Addr) (l c : Nat) (Lv : List T) (A : List Tm) (ge : Int) (BR : Int × List (ByteArray × ThR)) (q : List (ByteArray × Th)) (hw : Below w0.heap.size w0 w) (hB : B ≤ w0.heap.size) (hT : Tabs B w0) (ht : TmAt w0 k vk vn vs va vl vc nm a l c Lv A) (hI : InM (.node k (.node vk vn vs Lv) nm A))
    (hck : ∀ W, Below w0.heap.size w0 W → Calls Tryz.prog 26 #[.agg #[.slice na nl nc, .slice ea el ec, .int .i64 next]] W fun e w' => e = .returned (.int .i64 ge) ∧ Below W.heap.size W w')
    (hbd : ge = 0 → il = sl → sl ≤ 30 → ∀ W, Below w0.heap.size w0 W → Calls Tryz.prog 27 #[.agg #[.slice na nl nc, .slice ea el ec, .int .i64 next], .slice sa sl sc, .slice ia il ic] W fun e w' => BindEnd BR e w' ∧ Below W.heap.size W w')
    (hq : ge = 0 → BR.1 = 0 → Pair2 (BdIn w0) BR.2 q) (he : ge = 0 → BR.1 = 0 → EnvOk (envOf q)) (hss : sl ≤ 9223372036854775807) :
    Calls Tryz.prog 13 #[.agg #[.slice na nl nc, .slice ea el ec, .int .i64 next], .slice sa sl sc, .slice ia il ic, .agg #[.int .i64 k, .int .i64 vk, .int .i64 vn, .string vs, .slice va vl vc, .string nm, .slice a l c]] w fun e w' => EvEnd w (ge = 0 ∧ il = sl ∧ sl ≤ 30 ∧ BR.1 = 0 ∧ RightP (envOf q) 6 (.node k (.node vk vn vs Lv) nm A)) (evalF (envOf q) 6 (.node k (.node vk vn vs Lv) nm A)) e w' ∧ Below w.heap.size w w' := by
  obtain ⟨OKP, HOK⟩ : ∃ z : Prop, Hid (z ↔ (ge = 0 ∧ il = sl ∧ sl ≤ 30 ∧ BR.1 = 0 ∧ RightP (envOf q) 6 (.node k (.node vk vn vs Lv) nm A))) := ⟨_, Iff.rfl⟩
  obtain ⟨TV, hTV⟩ : ∃ z, z = evalF (envOf q) 6 (.node k (.node vk vn vs Lv) nm A) := ⟨_, rfl⟩
  suffices hmain : Calls Tryz.prog 13 #[.agg #[.slice na nl nc, .slice ea el ec, .int .i64 next], .slice sa sl sc, .slice ia il ic, .agg #[.int .i64 k, .int .i64 vk, .int .i64 vn, .string vs, .slice va vl vc, .string nm, .slice a l c]] w fun e w' => EvEnd w OKP TV e w' ∧ Below w.heap.size w w' from callsUp hmain fun e w' h => by
    obtain ⟨⟨er, k, n, s, a, l, c, h1, h2, h3⟩, h4⟩ := h
    exact ⟨⟨er, k, n, s, a, l, c, h1, h2.trans HOK.out, fun hh => by rw [← hTV]; exact h3 (HOK.out.2 hh)⟩, h4⟩
  have HTV := toHid hTV
  have hb3 : Below w.heap.size w (((w.alloc (.cells #[.slice na nl nc, .slice ea el ec, .int .i64 next] 41)).alloc (.cells #[.int .i64 k, .int .i64 vk, .int .i64 vn, .string vs, .slice va vl vc, .string nm, .slice a l c] 27)).alloc (.cells #[.int .i64 0, .int .i64 0, .string ⟨#[]⟩, .slice none 0 0] 24)) := (((Below.refl _ _).alloc (Nat.le_refl _) _).alloc (by simp) _).alloc (by simp; omega) _
  have hz : (((w.alloc (.cells #[.slice na nl nc, .slice ea el ec, .int .i64 next] 41)).alloc (.cells #[.int .i64 k, .int .i64 vk, .int .i64 vn, .string vs, .slice va vl vc, .string nm, .slice a l c] 27)).alloc (.cells #[.int .i64 0, .int .i64 0, .string ⟨#[]⟩, .slice none 0 0] 24)).heap.size = w.heap.size + 3 := by simp
  have h0 : (((w.alloc (.cells #[.slice na nl nc, .slice ea el ec, .int .i64 next] 41)).alloc (.cells #[.int .i64 k, .int .i64 vk, .int .i64 vn, .string vs, .slice va vl vc, .string nm, .slice a l c] 27)).alloc (.cells #[.int .i64 0, .int .i64 0, .string ⟨#[]⟩, .slice none 0 0] 24)).heap[w.heap.size]? = some (.cells #[.slice na nl nc, .slice ea el ec, .int .i64 next] 41 (0, 0)) := by
    have hb : Below (w.heap.size + 1) (w.alloc (.cells #[.slice na nl nc, .slice ea el ec, .int .i64 next] 41)) (((w.alloc (.cells #[.slice na nl nc, .slice ea el ec, .int .i64 next] 41)).alloc (.cells #[.int .i64 k, .int .i64 vk, .int .i64 vn, .string vs, .slice va vl vc, .string nm, .slice a l c] 27)).alloc (.cells #[.int .i64 0, .int .i64 0, .string ⟨#[]⟩, .slice none 0 0] 24)) := ((Below.refl _ _).alloc (by simp) _).alloc (by simp) _
    exact (hb.block w.heap.size (by omega)).trans (alloc_new w (.cells #[.slice na nl nc, .slice ea el ec, .int .i64 next] 41))
  have h1 : (((w.alloc (.cells #[.slice na nl nc, .slice ea el ec, .int .i64 next] 41)).alloc (.cells #[.int .i64 k, .int .i64 vk, .int .i64 vn, .string vs, .slice va vl vc, .string nm, .slice a l c] 27)).alloc (.cells #[.int .i64 0, .int .i64 0, .string ⟨#[]⟩, .slice none 0 0] 24)).heap[w.heap.size + 1]? = some (.cells #[.int .i64 k, .int .i64 vk, .int .i64 vn, .string vs, .slice va vl vc, .string nm, .slice a l c] 27 (0, 0)) := by
    have hb : Below (w.heap.size + 2) ((w.alloc (.cells #[.slice na nl nc, .slice ea el ec, .int .i64 next] 41)).alloc (.cells #[.int .i64 k, .int .i64 vk, .int .i64 vn, .string vs, .slice va vl vc, .string nm, .slice a l c] 27)) (((w.alloc (.cells #[.slice na nl nc, .slice ea el ec, .int .i64 next] 41)).alloc (.cells #[.int .i64 k, .int .i64 vk, .int .i64 vn, .string vs, .slice va vl vc, .string nm, .slice a l c] 27)).alloc (.cells #[.int .i64 0, .int .i64 0, .string ⟨#[]⟩, .slice none 0 0] 24)) := (Below.refl _ _).alloc (by simp) _
    exact (hb.block (w.heap.size + 1) (by omega)).trans (alloc_two w (.cells #[.slice na nl nc, .slice ea el ec, .int .i64 next] 41) (.cells #[.int .i64 k, .int .i64 vk, .int .i64 vn, .string vs, .slice va vl vc, .string nm, .slice a l c] 27))
  have h2 : (((w.alloc (.cells #[.slice na nl nc, .slice ea el ec, .int .i64 next] 41)).alloc (.cells #[.int .i64 k, .int .i64 vk, .int .i64 vn, .string vs, .slice va vl vc, .string nm, .slice a l c] 27)).alloc (.cells #[.int .i64 0, .int .i64 0, .string ⟨#[]⟩, .slice none 0 0] 24)).heap[w.heap.size + 2]? = some (.cells #[.int .i64 0, .int .i64 0, .string ⟨#[]⟩, .slice none 0 0] 24 (0, 0)) := by
    have e : ((w.alloc (.cells #[.slice na nl nc, .slice ea el ec, .int .i64 next] 41)).alloc (.cells #[.int .i64 k, .int .i64 vk, .int .i64 vn, .string vs, .slice va vl vc, .string nm, .slice a l c] 27)).heap.size = w.heap.size + 2 := by simp
    have := alloc_new ((w.alloc (.cells #[.slice na nl nc, .slice ea el ec, .int .i64 next] 41)).alloc (.cells #[.int .i64 k, .int .i64 vk, .int .i64 vn, .string vs, .slice va vl vc, .string nm, .slice a l c] 27)) (.cells #[.int .i64 0, .int .i64 0, .string ⟨#[]⟩, .slice none 0 0] 24)
    rw [e] at this
    exact this
  have HB := toHid hb3
  have HZ := toHid hz
  have H0 := toHid h0
  have H1 := toHid h1
  have H2 := toHid h2
  have HW := toHid hw
  have HCK := toHid hck
  have HBD := toHid hbd
  have HTM := toHid ht
  have HIN := toHid hI
  have HTT := toHid hT
  have HQQ := toHid hq
  have HEE := toHid he
  have HBB := toHid hB
  clear hb3 hz h0 h1 h2 hw hck hbd ht hI hT hq he hTV hB
  go_enter Tryz.func13, Tryz.ntmps13
  go_wp2_with fail
  refine (HCK.out _ (HW.out.trans (HB.out.mono HW.out.size))).mono ?_
  generalize ((w.alloc (.cells #[.slice na nl nc, .slice ea el ec, .int .i64 next] 41)).alloc (.cells #[.int .i64 k, .int .i64 vk, .int .i64 vn, .string vs, .slice va vl vc, .string nm, .slice a l c] 27)).alloc (.cells #[.int .i64 0, .int .i64 0, .string ⟨#[]⟩, .slice none 0 0] 24) = W at HB H0 H1 H2 HZ ⊢
  rintro e u1 ⟨rfl, k1⟩
  have HK1 := toHid (below2 HB.out k1)
  have HW1 : Hid (Below w0.heap.size w0 u1) := HW.out.trans (HK1.out.mono HW.out.size)
  have HX1 : Hid (Below (w.heap.size + 3) W u1) := k1.mono (by rw [HZ.out]; exact Nat.le_refl _)
  clear k1
  by_cases hge : ge = 0
  · subst hge
    by_cases hil : il = sl
    · subst hil
      by_cases h30 : il ≤ 30
      · have hl30 : ¬ (30 : Int) < il := by omega
        have hg0 := (HX1.out.block w.heap.size (by omega)).trans H0.out
        have q0 := cell_of hg0 0
        have q1 := cell_of hg0 1
        have q2 := cell_of hg0 2
        simp at q0 q1 q2
        have hsz0 : w.heap.size < u1.heap.size := lt_block' hg0
        clear hg0
        go_wp2_with fail
        refine (HBD.out (by first | rfl | trivial) (by first | rfl | trivial) h30 _ HW1.out).mono ?_
        clear q0 q1 q2
        rintro e u2 ⟨hbe, k2⟩
        have HK2 := toHid (below2 HK1.out k2)
        have HW2 : Hid (Below w0.heap.size w0 u2) := HW.out.trans (HK2.out.mono HW.out.size)
        have HX2 : Hid (Below (w.heap.size + 3) W u2) := HX1.out.trans (k2.mono (by have := HX1.out.size; rw [HZ.out] at this; exact this))
        rcases hbe with ⟨hb0, rfl⟩ | ⟨hb0, m, rfl, hmap⟩
        · have HB0 := toHid hb0
          have hb' : (BR.fst != 0) = true := by simp [hb0]
          have hbx := (HX2.out.block (w.heap.size + 2) (by omega)).trans H2.out
          clear k2 hb0
          have r0 := cell_of hbx 0
          have r1 := cell_of hbx 1
          have r2 := cell_of hbx 2
          have r3 := cell_of hbx 3
          have f0 := free_of hbx 0
          have f1 := free_of hbx 1
          have f2 := free_of hbx 2
          have f3 := free_of hbx 3
          simp at r0 r1 r2 r3
          have HQ := toHid hbx
          have hsq : w.heap.size + 2 < u2.heap.size := lt_block' hbx
          clear hbx
          go_wp2_with fail
          have eP : ∀ X : World, (((X.setCell ⟨w.heap.size + 2, 0, none⟩ (.int .i64 0)).setCell ⟨w.heap.size + 2, 1, none⟩ (.int .i64 0)).setCell ⟨w.heap.size + 2, 2, none⟩ (.string ⟨#[]⟩)).setCell ⟨w.heap.size + 2, 3, none⟩ (.slice none 0 0) = putL X (w.heap.size + 2) 0 [.int .i64 0, .int .i64 0, .string ⟨#[]⟩, .slice none 0 0] := fun _ => rfl
          rw [eP]
          have E4 := box4 HQ.out rfl (.int .i64 0) (.int .i64 0) (.string ⟨#[]⟩) (.slice none 0 0)
          have hbb : Below w.heap.size w (putL u2 (w.heap.size + 2) 0 [.int .i64 0, .int .i64 0, .string ⟨#[]⟩, .slice none 0 0]) := HK2.out.trans ((putL_bel (w.heap.size + 2) _ _ u2).mono (by omega))
          have hoth : ∀ j, j ≠ w.heap.size + 2 → (putL u2 (w.heap.size + 2) 0 [.int .i64 0, .int .i64 0, .string ⟨#[]⟩, .slice none 0 0]).heap[j]? = u2.heap[j]? := fun j hj => putL_other _ _ _ _ j hj
          have hsz : (putL u2 (w.heap.size + 2) 0 [.int .i64 0, .int .i64 0, .string ⟨#[]⟩, .slice none 0 0]).heap.size = u2.heap.size := putL_size _ _ _ _
          generalize putL u2 (w.heap.size + 2) 0 [.int .i64 0, .int .i64 0, .string ⟨#[]⟩, .slice none 0 0] = Y at E4 hbb hoth hsz ⊢
          have t0 := cell_of E4 0
          have t1 := cell_of E4 1
          have t2 := cell_of E4 2
          have t3 := cell_of E4 3
          simp at t0 t1 t2 t3
          exact bodyPost_ret (v := .tuple #[.agg #[.int .i64 0, .int .i64 0, .string ⟨#[]⟩, .slice none 0 0], .int .i64 BR.fst]) (by simp [results, Tryz.results13, go_sem, t0, t1, t2, t3]) rfl ⟨⟨BR.fst, 0, 0, ⟨#[]⟩, none, 0, 0, rfl, ⟨fun h => absurd h (HB0.out), fun h => absurd (HOK.out.1 h) (fun h => HB0.out h.2.2.2.1)⟩, fun h => absurd (HOK.out.1 h) (fun h => HB0.out h.2.2.2.1)⟩, hbb⟩
        · have HB0 := toHid hb0
          have hq2 : Pair2 (BdIn u2) BR.2 q := (HQQ.out (by first | rfl | trivial) hb0).mono fun p x _ _ hp => ⟨hp.1, hp.2.below HW2.out⟩
          have HNA := toHid (names_at hmap hq2)
          have HEV := toHid (HEE.out (by first | rfl | trivial) hb0)
          clear k2 hb0 hmap hq2
          go_wp2_with fail
          refine (calls_any u2).mono ?_
          rintro e u3 ⟨rfl, hbk⟩
          have HBK : Hid (BookAt u3 u2.heap.size (u2.heap.size + 1)) := ⟨hbk.blk, hbk.box⟩
          have k3 := hbk.bel
          have HK3 := toHid (below2 HK2.out k3)
          have HW3 : Hid (Below w0.heap.size w0 u3) := HW.out.trans (HK3.out.mono HW.out.size)
          have HX3 : Hid (Below (w.heap.size + 3) W u3) := HX2.out.trans (k3.mono (by have := HX2.out.size; rw [HZ.out] at this; exact this))
          have HN3 := toHid (HNA.out.below k3)
          have hs3 : w.heap.size + 3 ≤ u3.heap.size := by have := HX3.out.size; rw [HZ.out] at this; exact this
          have HT3 := toHid (HTM.out.below HW3.out)
          have hg1 := (HX3.out.block (w.heap.size + 1) (by omega)).trans H1.out
          have c0 := cell_of hg1 0 ; have c1 := cell_of hg1 1 ; have c2 := cell_of hg1 2 ; have c3 := cell_of hg1 3 ; have c4 := cell_of hg1 4 ; have c5 := cell_of hg1 5 ; have c6 := cell_of hg1 6
          simp at c0 c1 c2 c3 c4 c5 c6
          clear hbk k3 hg1
          have HRT := toHid (right_any (B := B) u3 u3 k vk vn vs va vl vc nm a l c Lv A u2.heap.size m (u2.heap.size + 1) (Below.refl _ _) (Nat.le_trans HBB.out HW3.out.size) (HTT.out.below (HW3.out.mono HBB.out)) HT3.out HN3.out HBK.out HIN.out)
          go_wp2_with fail
          refine HRT.out.mono ?_
          clear c0 c1 c2 c3 c4 c5 c6
          rintro e u4 ⟨⟨r, rfl, hr⟩, k4⟩
          have HR := toHid hr
          have HK4 := toHid (below2 HK3.out k4)
          have HX4 : Hid (Below (w.heap.size + 3) W u4) := HX3.out.trans (k4.mono hs3)
          have HU4 := toHid k4
          have hs4 : w.heap.size + 3 ≤ u4.heap.size := Nat.le_trans hs3 k4.size
          clear k4 hr
          by_cases hr0 : r = 0
          · subst hr0
            have hrp := HR.out.1 (by first | rfl | trivial)
            have HOO : Hid OKP := HOK.out.2 ⟨by first | rfl | trivial, by first | rfl | trivial, h30, HB0.out, hrp⟩
            have hg1 := (HX4.out.block (w.heap.size + 1) (by omega)).trans H1.out
            have c0 := cell_of hg1 0 ; have c1 := cell_of hg1 1 ; have c2 := cell_of hg1 2 ; have c3 := cell_of hg1 3 ; have c4 := cell_of hg1 4 ; have c5 := cell_of hg1 5 ; have c6 := cell_of hg1 6
            simp at c0 c1 c2 c3 c4 c5 c6
            clear hg1
            have HVL := toHid (value_any (B := B) HEV.out 6 u3 u4 k vk vn vs va vl vc nm a l c Lv A u2.heap.size m (u2.heap.size + 1) HU4.out (Nat.le_trans HBB.out HW3.out.size) (HTT.out.below (HW3.out.mono HBB.out)) HT3.out HN3.out HBK.out hrp)
            have HCW := toHid (cw_eval HEV.out 6 _ hrp)
            clear hrp
            go_wp2_with fail
            refine HVL.out.mono ?_
            clear c0 c1 c2 c3 c4 c5 c6
            rintro e u5 ⟨⟨rk, rn, rs, ra, rl, rc, Lr, rfl, hre, hrlc, hrs, hrL⟩, k5⟩
            have hwt : wtL Lr ≤ 1099511627776 := by
              have := HCW.out.wt6
              rw [hre] at this
              unfold wtT at this
              omega
            have HFR := toHid (fresh_any rk rn rs ra rl rc Lr u5 (LieA.lies _ _ _ hrL) hwt)
            have HRE := toHid hre
            have HRS := toHid hrs
            have HK5 := toHid (below2 HK4.out k5)
            have HX5 : Hid (Below (w.heap.size + 3) W u5) := HX4.out.trans (k5.mono hs4)
            have hs5 : w.heap.size + 3 ≤ u5.heap.size := Nat.le_trans hs4 k5.size
            clear hre hrlc hrs hrL k5 hwt
            go_wp2_with fail
            refine HFR.out.mono ?_
            rintro e u6 ⟨⟨fa, fc, rfl, hfc, hfL⟩, k6⟩
            have HK6 := toHid (below2 HK5.out k6)
            have HFC := toHid hfc
            have HFL := toHid hfL
            have hbx := ((k6.block (w.heap.size + 2) (by omega)).trans (HX5.out.block (w.heap.size + 2) (by omega))).trans H2.out
            clear k6 hfc hfL
            have r0 := cell_of hbx 0
            have r1 := cell_of hbx 1
            have r2 := cell_of hbx 2
            have r3 := cell_of hbx 3
            have f0 := free_of hbx 0
            have f1 := free_of hbx 1
            have f2 := free_of hbx 2
            have f3 := free_of hbx 3
            simp at r0 r1 r2 r3
            have HQ := toHid hbx
            have hsq : w.heap.size + 2 < u6.heap.size := lt_block' hbx
            clear hbx
            go_wp2_with fail
            have eP : ∀ X : World, (((X.setCell ⟨w.heap.size + 2, 0, none⟩ (.int .i64 rk)).setCell ⟨w.heap.size + 2, 1, none⟩ (.int .i64 rn)).setCell ⟨w.heap.size + 2, 2, none⟩ (.string rs)).setCell ⟨w.heap.size + 2, 3, none⟩ (.slice fa rl fc) = putL X (w.heap.size + 2) 0 [.int .i64 rk, .int .i64 rn, .string rs, .slice fa rl fc] := fun _ => rfl
            rw [eP]
            have E4 := box4 HQ.out rfl (.int .i64 rk) (.int .i64 rn) (.string rs) (.slice fa rl fc)
            have hbb : Below w.heap.size w (putL u6 (w.heap.size + 2) 0 [.int .i64 rk, .int .i64 rn, .string rs, .slice fa rl fc]) := HK6.out.trans ((putL_bel (w.heap.size + 2) _ _ u6).mono (by omega))
            have hoth : ∀ j, j ≠ w.heap.size + 2 → (putL u6 (w.heap.size + 2) 0 [.int .i64 rk, .int .i64 rn, .string rs, .slice fa rl fc]).heap[j]? = u6.heap[j]? := fun j hj => putL_other _ _ _ _ j hj
            have hsz : (putL u6 (w.heap.size + 2) 0 [.int .i64 rk, .int .i64 rn, .string rs, .slice fa rl fc]).heap.size = u6.heap.size := putL_size _ _ _ _
            generalize putL u6 (w.heap.size + 2) 0 [.int .i64 rk, .int .i64 rn, .string rs, .slice fa rl fc] = Y at E4 hbb hoth hsz ⊢
            have t0 := cell_of E4 0
            have t1 := cell_of E4 1
            have t2 := cell_of E4 2
            have t3 := cell_of E4 3
            simp at t0 t1 t2 t3
            exact bodyPost_ret (v := .tuple #[.agg #[.int .i64 rk, .int .i64 rn, .string rs, .slice fa rl fc], .int .i64 0]) (by simp [results, Tryz.results13, go_sem, t0, t1, t2, t3]) rfl ⟨⟨0, rk, rn, rs, fa, rl, fc, rfl, ⟨fun _ => HOO.out, fun _ => rfl⟩, fun _ => ⟨Lr, by rw [HTV.out]; exact HRE.out, HFC.out, HRS.out, LieA.kept (A' := fun i => w.heap.size ≤ i) (Nat.le_of_eq hsz.symm) (fun j hj hl => ⟨by omega, hoth j (by omega)⟩) _ _ _ HFL.out⟩⟩, hbb⟩
          · have hr' : (r != 0) = true := by simp [hr0]
            have hbx := (HX4.out.block (w.heap.size + 2) (by omega)).trans H2.out
            have r0 := cell_of hbx 0
            have r1 := cell_of hbx 1
            have r2 := cell_of hbx 2
            have r3 := cell_of hbx 3
            have f0 := free_of hbx 0
            have f1 := free_of hbx 1
            have f2 := free_of hbx 2
            have f3 := free_of hbx 3
            simp at r0 r1 r2 r3
            have HQ := toHid hbx
            have hsq : w.heap.size + 2 < u4.heap.size := lt_block' hbx
            clear hbx
            go_wp2_with fail
            have eP : ∀ X : World, (((X.setCell ⟨w.heap.size + 2, 0, none⟩ (.int .i64 0)).setCell ⟨w.heap.size + 2, 1, none⟩ (.int .i64 0)).setCell ⟨w.heap.size + 2, 2, none⟩ (.string ⟨#[]⟩)).setCell ⟨w.heap.size + 2, 3, none⟩ (.slice none 0 0) = putL X (w.heap.size + 2) 0 [.int .i64 0, .int .i64 0, .string ⟨#[]⟩, .slice none 0 0] := fun _ => rfl
            rw [eP]
            have E4 := box4 HQ.out rfl (.int .i64 0) (.int .i64 0) (.string ⟨#[]⟩) (.slice none 0 0)
            have hbb : Below w.heap.size w (putL u4 (w.heap.size + 2) 0 [.int .i64 0, .int .i64 0, .string ⟨#[]⟩, .slice none 0 0]) := HK4.out.trans ((putL_bel (w.heap.size + 2) _ _ u4).mono (by omega))
            have hoth : ∀ j, j ≠ w.heap.size + 2 → (putL u4 (w.heap.size + 2) 0 [.int .i64 0, .int .i64 0, .string ⟨#[]⟩, .slice none 0 0]).heap[j]? = u4.heap[j]? := fun j hj => putL_other _ _ _ _ j hj
            have hsz : (putL u4 (w.heap.size + 2) 0 [.int .i64 0, .int .i64 0, .string ⟨#[]⟩, .slice none 0 0]).heap.size = u4.heap.size := putL_size _ _ _ _
            generalize putL u4 (w.heap.size + 2) 0 [.int .i64 0, .int .i64 0, .string ⟨#[]⟩, .slice none 0 0] = Y at E4 hbb hoth hsz ⊢
            have t0 := cell_of E4 0
            have t1 := cell_of E4 1
            have t2 := cell_of E4 2
            have t3 := cell_of E4 3
            simp at t0 t1 t2 t3
            exact bodyPost_ret (v := .tuple #[.agg #[.int .i64 0, .int .i64 0, .string ⟨#[]⟩, .slice none 0 0], .int .i64 r]) (by simp [results, Tryz.results13, go_sem, t0, t1, t2, t3]) rfl ⟨⟨r, 0, 0, ⟨#[]⟩, none, 0, 0, rfl, ⟨fun h => absurd h (hr0), fun h => absurd (HOK.out.1 h) (fun h => hr0 (HR.out.2 h.2.2.2.2))⟩, fun h => absurd (HOK.out.1 h) (fun h => hr0 (HR.out.2 h.2.2.2.2))⟩, hbb⟩
      · have hl30 : (30 : Int) < il := by omega
        have hbx := (HX1.out.block (w.heap.size + 2) (by omega)).trans H2.out
        have r0 := cell_of hbx 0
        have r1 := cell_of hbx 1
        have r2 := cell_of hbx 2
        have r3 := cell_of hbx 3
        have f0 := free_of hbx 0
        have f1 := free_of hbx 1
        have f2 := free_of hbx 2
        have f3 := free_of hbx 3
        simp at r0 r1 r2 r3
        have HQ := toHid hbx
        have hsq : w.heap.size + 2 < u1.heap.size := lt_block' hbx
        clear hbx
        go_wp2_with fail
        have eP : ∀ X : World, (((X.setCell ⟨w.heap.size + 2, 0, none⟩ (.int .i64 0)).setCell ⟨w.heap.size + 2, 1, none⟩ (.int .i64 0)).setCell ⟨w.heap.size + 2, 2, none⟩ (.string ⟨#[]⟩)).setCell ⟨w.heap.size + 2, 3, none⟩ (.slice none 0 0) = putL X (w.heap.size + 2) 0 [.int .i64 0, .int .i64 0, .string ⟨#[]⟩, .slice none 0 0] := fun _ => rfl
        rw [eP]
        have E4 := box4 HQ.out rfl (.int .i64 0) (.int .i64 0) (.string ⟨#[]⟩) (.slice none 0 0)
        have hbb : Below w.heap.size w (putL u1 (w.heap.size + 2) 0 [.int .i64 0, .int .i64 0, .string ⟨#[]⟩, .slice none 0 0]) := HK1.out.trans ((putL_bel (w.heap.size + 2) _ _ u1).mono (by omega))
        have hoth : ∀ j, j ≠ w.heap.size + 2 → (putL u1 (w.heap.size + 2) 0 [.int .i64 0, .int .i64 0, .string ⟨#[]⟩, .slice none 0 0]).heap[j]? = u1.heap[j]? := fun j hj => putL_other _ _ _ _ j hj
        have hsz : (putL u1 (w.heap.size + 2) 0 [.int .i64 0, .int .i64 0, .string ⟨#[]⟩, .slice none 0 0]).heap.size = u1.heap.size := putL_size _ _ _ _
        generalize putL u1 (w.heap.size + 2) 0 [.int .i64 0, .int .i64 0, .string ⟨#[]⟩, .slice none 0 0] = Y at E4 hbb hoth hsz ⊢
        have t0 := cell_of E4 0
        have t1 := cell_of E4 1
        have t2 := cell_of E4 2
        have t3 := cell_of E4 3
        simp at t0 t1 t2 t3
        exact bodyPost_ret (v := .tuple #[.agg #[.int .i64 0, .int .i64 0, .string ⟨#[]⟩, .slice none 0 0], .int .i64 2]) (by simp [results, Tryz.results13, go_sem, t0, t1, t2, t3]) rfl ⟨⟨2, 0, 0, ⟨#[]⟩, none, 0, 0, rfl, ⟨fun h => absurd h (by decide), fun h => absurd (HOK.out.1 h) (fun h => h30 h.2.2.1)⟩, fun h => absurd (HOK.out.1 h) (fun h => h30 h.2.2.1)⟩, hbb⟩
    · have hne : ((il : Int) != (sl : Int)) = true := by simp; omega
      have hbx := (HX1.out.block (w.heap.size + 2) (by omega)).trans H2.out
      have r0 := cell_of hbx 0
      have r1 := cell_of hbx 1
      have r2 := cell_of hbx 2
      have r3 := cell_of hbx 3
      have f0 := free_of hbx 0
      have f1 := free_of hbx 1
      have f2 := free_of hbx 2
      have f3 := free_of hbx 3
      simp at r0 r1 r2 r3
      have HQ := toHid hbx
      have hsq : w.heap.size + 2 < u1.heap.size := lt_block' hbx
      clear hbx
      go_wp2_with fail
      have eP : ∀ X : World, (((X.setCell ⟨w.heap.size + 2, 0, none⟩ (.int .i64 0)).setCell ⟨w.heap.size + 2, 1, none⟩ (.int .i64 0)).setCell ⟨w.heap.size + 2, 2, none⟩ (.string ⟨#[]⟩)).setCell ⟨w.heap.size + 2, 3, none⟩ (.slice none 0 0) = putL X (w.heap.size + 2) 0 [.int .i64 0, .int .i64 0, .string ⟨#[]⟩, .slice none 0 0] := fun _ => rfl
      rw [eP]
      have E4 := box4 HQ.out rfl (.int .i64 0) (.int .i64 0) (.string ⟨#[]⟩) (.slice none 0 0)
      have hbb : Below w.heap.size w (putL u1 (w.heap.size + 2) 0 [.int .i64 0, .int .i64 0, .string ⟨#[]⟩, .slice none 0 0]) := HK1.out.trans ((putL_bel (w.heap.size + 2) _ _ u1).mono (by omega))
      have hoth : ∀ j, j ≠ w.heap.size + 2 → (putL u1 (w.heap.size + 2) 0 [.int .i64 0, .int .i64 0, .string ⟨#[]⟩, .slice none 0 0]).heap[j]? = u1.heap[j]? := fun j hj => putL_other _ _ _ _ j hj
      have hsz : (putL u1 (w.heap.size + 2) 0 [.int .i64 0, .int .i64 0, .string ⟨#[]⟩, .slice none 0 0]).heap.size = u1.heap.size := putL_size _ _ _ _
      generalize putL u1 (w.heap.size + 2) 0 [.int .i64 0, .int .i64 0, .string ⟨#[]⟩, .slice none 0 0] = Y at E4 hbb hoth hsz ⊢
      have t0 := cell_of E4 0
      have t1 := cell_of E4 1
      have t2 := cell_of E4 2
      have t3 := cell_of E4 3
      simp at t0 t1 t2 t3
      exact bodyPost_ret (v := .tuple #[.agg #[.int .i64 0, .int .i64 0, .string ⟨#[]⟩, .slice none 0 0], .int .i64 2]) (by simp [results, Tryz.results13, go_sem, t0, t1, t2, t3]) rfl ⟨⟨2, 0, 0, ⟨#[]⟩, none, 0, 0, rfl, ⟨fun h => absurd h (by decide), fun h => absurd (HOK.out.1 h) (fun h => hil h.2.1)⟩, fun h => absurd (HOK.out.1 h) (fun h => hil h.2.1)⟩, hbb⟩
  · have hge' : (ge != 0) = true := by simp [hge]
    have hbx := (HX1.out.block (w.heap.size + 2) (by omega)).trans H2.out
    have r0 := cell_of hbx 0
    have r1 := cell_of hbx 1
    have r2 := cell_of hbx 2
    have r3 := cell_of hbx 3
    have f0 := free_of hbx 0
    have f1 := free_of hbx 1
    have f2 := free_of hbx 2
    have f3 := free_of hbx 3
    simp at r0 r1 r2 r3
    have HQ := toHid hbx
    have hsq : w.heap.size + 2 < u1.heap.size := lt_block' hbx
    clear hbx
    go_wp2_with fail
    have eP : ∀ X : World, (((X.setCell ⟨w.heap.size + 2, 0, none⟩ (.int .i64 0)).setCell ⟨w.heap.size + 2, 1, none⟩ (.int .i64 0)).setCell ⟨w.heap.size + 2, 2, none⟩ (.string ⟨#[]⟩)).setCell ⟨w.heap.size + 2, 3, none⟩ (.slice none 0 0) = putL X (w.heap.size + 2) 0 [.int .i64 0, .int .i64 0, .string ⟨#[]⟩, .slice none 0 0] := fun _ => rfl
    rw [eP]
    have E4 := box4 HQ.out rfl (.int .i64 0) (.int .i64 0) (.string ⟨#[]⟩) (.slice none 0 0)
    have hbb : Below w.heap.size w (putL u1 (w.heap.size + 2) 0 [.int .i64 0, .int .i64 0, .string ⟨#[]⟩, .slice none 0 0]) := HK1.out.trans ((putL_bel (w.heap.size + 2) _ _ u1).mono (by omega))
    have hoth : ∀ j, j ≠ w.heap.size + 2 → (putL u1 (w.heap.size + 2) 0 [.int .i64 0, .int .i64 0, .string ⟨#[]⟩, .slice none 0 0]).heap[j]? = u1.heap[j]? := fun j hj => putL_other _ _ _ _ j hj
    have hsz : (putL u1 (w.heap.size + 2) 0 [.int .i64 0, .int .i64 0, .string ⟨#[]⟩, .slice none 0 0]).heap.size = u1.heap.size := putL_size _ _ _ _
    generalize putL u1 (w.heap.size + 2) 0 [.int .i64 0, .int .i64 0, .string ⟨#[]⟩, .slice none 0 0] = Y at E4 hbb hoth hsz ⊢
    have t0 := cell_of E4 0
    have t1 := cell_of E4 1
    have t2 := cell_of E4 2
    have t3 := cell_of E4 3
    simp at t0 t1 t2 t3
    exact bodyPost_ret (v := .tuple #[.agg #[.int .i64 0, .int .i64 0, .string ⟨#[]⟩, .slice none 0 0], .int .i64 ge]) (by simp [results, Tryz.results13, go_sem, t0, t1, t2, t3]) rfl ⟨⟨ge, 0, 0, ⟨#[]⟩, none, 0, 0, rfl, ⟨fun h => absurd h (hge), fun h => absurd (HOK.out.1 h) (fun h => hge h.1)⟩, fun h => absurd (HOK.out.1 h) (fun h => hge h.1)⟩, hbb⟩

theorem last_ge : ∀ (l : List Int) (ah : Int), (∀ y ∈ l, ah ≤ y) → Rise l → ah ≤ lastI ah l ∧ ∀ y ∈ l, y ≤ lastI ah l
  | [], ah, _, _ => ⟨Int.le_refl _, fun y h => by cases h⟩
  | x :: r, ah, ha, hr => by
    have hx := ha x (List.mem_cons_self ..)
    have hr' : Rise r := fun i j a b hij hi hj => hr (i + 1) (j + 1) a b (by omega) (by simpa using hi) (by simpa using hj)
    have hxr : ∀ y ∈ r, x ≤ y := fun y hy => by
      obtain ⟨j, hj⟩ := List.getElem?_of_mem hy
      have := hr 0 (j + 1) x y (by omega) rfl (by simpa using hj)
      omega
    obtain ⟨h1, h2⟩ := last_ge r x hxr hr'
    show ah ≤ lastI x r ∧ ∀ y ∈ x :: r, y ≤ lastI x r
    refine ⟨by omega, fun y hy => ?_⟩
    rcases List.mem_cons.1 hy with rfl | hy
    · exact h1
    · exact h2 y hy

/-- The numbers of a right graph. -/
theorem gE_ids {N : List Nd} {E : List Ed} {next : Int} (h : gE N E next = 0) : (∀ x ∈ N, 0 < x.id ∧ x.id < 1099511627776) ∧ (∀ x ∈ E, 0 < x.id ∧ x.id < 1099511627776 ∧ nm x.typ = true) := by
  unfold gE at h
  split at h
  · exact absurd h (by decide)
  · split at h
    · rename_i h2
      split at h
      · rename_i h3
        split at h
        · exact absurd h (by decide)
        · rename_i h4
          obtain ⟨r1, a1⟩ := ndE_ok N 0 h2
          obtain ⟨r2, a2⟩ := edE_ok N E 0 h3
          have l1 := (last_ge (N.map Nd.id) 0 (fun y hy => by obtain ⟨x, hx, rfl⟩ := List.mem_map.1 hy; have := (a1 x hx).1; omega) r1).2
          have l2 := (last_ge (E.map Ed.id) 0 (fun y hy => by obtain ⟨x, hx, rfl⟩ := List.mem_map.1 hy; have := (a2 x hx).1; omega) r2).2
          refine ⟨fun x hx => ⟨(a1 x hx).1, ?_⟩, fun x hx => ⟨(a2 x hx).1, ?_, (a2 x hx).2.2.1⟩⟩
          · have := l1 x.id (List.mem_map.2 ⟨x, hx, rfl⟩); omega
          · have := l2 x.id (List.mem_map.2 ⟨x, hx, rfl⟩); omega
      · rename_i h3
        exact absurd h h3
    · rename_i h2
      exact absurd h h2

theorem prE_zeroE : ∀ (P : List Pr) (ah : ByteArray), prE ah P = 0 → ∀ p ∈ P, p.e = 0
  | [], _, _ => fun p hp => by cases hp
  | q :: P, ah, h => by
    unfold prE at h
    split at h
    · split at h
      · rename_i h1 h2
        intro p hp
        rcases List.mem_cons.1 hp with rfl | hp
        · exact h2
        · exact prE_zeroE P _ h p hp
      · rename_i h1 h2
        exact absurd h h2
    · exact absurd h (by decide)

theorem prsE_zeroE {P : List Pr} (h : prsE P = 0) : ∀ p ∈ P, p.e = 0 := by
  unfold prsE at h
  split at h
  · exact absurd h (by decide)
  · exact prE_zeroE P _ h

theorem props_ck {w : World} {P : List Pr} {pa : Option Addr} {pl : Nat} (hP : PropsAt w P pa pl) (hO : ∀ p ∈ P, PrOk w p) (h0 : prsE P = 0) : ∃ X : List AP, Pair2 (PrIn AnyB w) P X ∧ ∀ x ∈ X, Ck 6 x.t := by
  obtain ⟨X, hX⟩ := pair_choose (R := fun p x => PrIn AnyB w p x ∧ Ck 6 x.t) P (fun p hp => by
    obtain ⟨⟨h1, h2⟩, L, _, h3, _, h4⟩ := hO p hp
    have hck := h4 (prsE_zeroE h0 p hp)
    obtain ⟨i, hi⟩ := List.getElem?_of_mem hp
    have hil := (List.getElem?_eq_some_iff.1 hi).1
    obtain ⟨b, off, _, _, hc⟩ := hP.2.2 (by rw [hP.1]; omega)
    exact ⟨⟨p.name, .node p.k p.n p.s L⟩, ⟨rfl, (hc i p hi).1, h1, h2, L, rfl, LiesS.lie _ _ _ h3⟩, hck⟩)
  refine ⟨X, hX.mono fun _ _ _ _ h => h.1, fun x hx => ?_⟩
  obtain ⟨i, hi⟩ := List.getElem?_of_mem hx
  obtain ⟨p, _, h⟩ := hX.right hi
  exact h.2

/-- A thing that is right. -/
def Th.ok (x : Th) : Prop := (-9223372036854775808 ≤ x.id ∧ x.id ≤ 9223372036854775807) ∧ x.typ.size ≤ 4000 ∧ ∀ p ∈ x.props, Ck 6 p.t

theorem thing_mem {N : List Nd} {E : List Ed} {id : Int} {x : ThR} (h : thingF N E id = some x) : (∃ y ∈ N, x = y.tr) ∨ ∃ y ∈ E, x = y.tr := by
  unfold thingF at h
  cases hn : N.find? (fun x => x.id == id) with
  | some y =>
    rw [hn] at h
    injection h with h
    exact .inl ⟨y, List.mem_of_find?_eq_some hn, h.symm⟩
  | none =>
    rw [hn] at h
    cases he : E.find? (fun x => x.id == id) with
    | none => rw [he] at h; cases h
    | some y =>
      rw [he] at h
      injection h with h
      exact .inr ⟨y, List.mem_of_find?_eq_some he, h.symm⟩

theorem bind_mem {N : List Nd} {E : List Ed} : ∀ (S : List ByteArray) (I : List Int) (l : List (ByteArray × ThR)) (p : ByteArray × ThR), p ∈ (bindF N E S I l).2 → p ∈ l ∨ ∃ id, thingF N E id = some p.2
  | [], I, l, p, h => .inl h
  | s :: S, I, l, p, h => by
    unfold bindF at h
    split at h
    · cases h
    · split at h
      · cases h
      · rename_i x hx
        rcases bind_mem S I.tail (l ++ [(s, x)]) p h with h | h
        · rcases List.mem_append.1 h with h | h
          · exact .inl h
          · rw [List.mem_singleton.1 h]
            exact .inr ⟨_, hx⟩
        · exact .inr h

theorem nm_size {s : ByteArray} (h : nm s = true) : s.size ≤ 12 := by
  unfold nm at h
  simp at h
  exact h.1.2

theorem env_of {w : World} {N : List Nd} {E : List Ed} {na : Option Addr} {nl : Nat} {ea : Option Addr} {el : Nat} (h : GrOk w N E na nl ea el) {next : Int} (hg : gE N E next = 0) (S : List ByteArray) (I : List Int) : ∃ q, Pair2 (BdIn w) (bindF N E S I []).2 q ∧ EnvOk (envOf q) := by
  have hR := gE_ok hg
  obtain ⟨hiN, hiE⟩ := gE_ids hg
  obtain ⟨q, hq⟩ := pair_choose (R := fun p y => BdIn w p y ∧ y.2.ok) (bindF N E S I []).2 (fun p hp => by
    rcases bind_mem S I [] p hp with hp | ⟨id, hp⟩
    · cases hp
    · obtain ⟨ps, pt⟩ := p
      rcases thing_mem hp with ⟨y, hy, rfl⟩ | ⟨y, hy, rfl⟩
      · obtain ⟨X, hX, hck⟩ := props_ck (h.2.2.1 y hy).2.1 (h.2.2.1 y hy).2.2 (hR.nodes y hy).2
        have := hiN y hy
        exact ⟨(ps, ⟨false, y.id, ⟨#[]⟩, X⟩), ⟨rfl, y.props, y.pa, y.pl, y.pc, rfl, by show (0 : Nat) ≤ _; omega, (h.2.2.1 y hy).2.1, hX⟩, ⟨by show -9223372036854775808 ≤ y.id; omega, by show y.id ≤ _; omega⟩, by show (0 : Nat) ≤ _; omega, hck⟩
      · obtain ⟨X, hX, hck⟩ := props_ck (h.2.2.2 y hy).1 (h.2.2.2 y hy).2 (hR.edges y hy).2.2.2
        have := hiE y hy
        have hs := nm_size this.2.2
        exact ⟨(ps, ⟨true, y.id, y.typ, X⟩), ⟨rfl, y.props, y.pa, y.pl, y.pc, rfl, by show y.typ.size ≤ _; omega, (h.2.2.2 y hy).1, hX⟩, ⟨by show -9223372036854775808 ≤ y.id; omega, by show y.id ≤ _; omega⟩, by show y.typ.size ≤ 4000; omega, hck⟩)
  refine ⟨q, hq.mono fun _ _ _ _ h => h.1, fun s x hx => ?_⟩
  unfold envOf at hx
  cases hf : q.find? (fun p => s == p.1) with
  | none => rw [hf] at hx; cases hx
  | some y =>
    rw [hf] at hx
    injection hx with hx
    obtain ⟨i, hi⟩ := List.getElem?_of_mem (List.mem_of_find?_eq_some hf)
    obtain ⟨p, _, _, hok⟩ := hq.right hi
    rw [← hx]
    exact hok

/-- What Eval says of terms: one notion for all of them, so that answers may be held against each other. -/
theorem eval_of {B : Nat} {w0 : World} {N : List Nd} {E : List Ed} {na : Option Addr} {nl : Nat} {ea : Option Addr} {el : Nat} (h : GrOk w0 N E na nl ea el) (nc ec : Nat) (next : Int) {S : List ByteArray} {sa : Option Addr} {sl : Nat} (sc : Nat) {I : List Int} {ia : Option Addr} {il : Nat} (ic : Nat) (hS : StrsAt w0 S sa sl) (hII : IntsAt w0 I ia il) (hB : B ≤ w0.heap.size) (hT : Tabs B w0) : ∃ (env : ByteArray → Option Th) (OKG : Prop), (OKG → EnvOk env) ∧ ∀ (w1 : World), Below w0.heap.size w0 w1 → ∀ (k vk vn : Int) (vs : ByteArray) (va : Option Addr) (vl vc : Nat) (nm : ByteArray) (a : Option Addr) (l c : Nat) (Lv : List T) (A : List Tm), TmAt w1 k vk vn vs va vl vc nm a l c Lv A → InM (.node k (.node vk vn vs Lv) nm A) → ∀ W, Below w1.heap.size w1 W →
    Calls Tryz.prog 13 #[.agg #[.slice na nl nc, .slice ea el ec, .int .i64 next], .slice sa sl sc, .slice ia il ic, .agg #[.int .i64 k, .int .i64 vk, .int .i64 vn, .string vs, .slice va vl vc, .string nm, .slice a l c]] W fun e w' => EvEnd W (OKG ∧ RightP env 6 (.node k (.node vk vn vs Lv) nm A)) (evalF env 6 (.node k (.node vk vn vs Lv) nm A)) e w' ∧ Below W.heap.size W w' := by
  have key : ∃ q, (gE N E next = 0 → (bindF N E S I []).1 = 0 → Pair2 (BdIn w0) (bindF N E S I []).2 q) ∧ (gE N E next = 0 → EnvOk (envOf q)) := by
    by_cases hg : gE N E next = 0
    · obtain ⟨q, h1, h2⟩ := env_of h hg S I
      exact ⟨q, fun _ _ => h1, fun _ => h2⟩
    · exact ⟨[], fun hh => absurd hh hg, fun hh => absurd hh hg⟩
  obtain ⟨q, hq, he⟩ := key
  refine ⟨envOf q, gE N E next = 0 ∧ il = sl ∧ sl ≤ 30 ∧ (bindF N E S I []).1 = 0, fun hh => he hh.1, fun w1 k1 k vk vn vs va vl vc nm a l c Lv A ht hI W kW => ?_⟩
  have hbase : ∀ W, Below w1.heap.size w1 W → Below w0.heap.size w0 W := fun W k => k1.trans (k.mono k1.size)
  have main := eval_any (B := B) w1 W na nl nc ea el ec next sa sl sc ia il ic k vk vn vs va vl vc nm a l c Lv A (gE N E next) (bindF N E S I []) q kW (Nat.le_trans hB k1.size) (hT.below (k1.mono hB)) ht hI
    (fun V kV => check_ok h nc ec next V (hbase V kV))
    (fun hg hl _ V kV => by
      have hR := gE_ok hg
      have h1 := h.1.1
      have h2 := h.2.1.1
      have f1 := hR.fewN
      have f2 := hR.fewE
      exact bind_any w0 V N E na nl nc ea el ec next S sa sl sc I ia il ic (hbase V kV) h.1 h.2.1 (by omega) (by omega) hR.riseN hR.riseE hS hII hl)
    (fun hg hb => (hq hg hb).mono fun p x _ _ hp => ⟨hp.1, hp.2.below k1⟩)
    (fun hg _ => he hg) hS.2.1
  refine callsUp main fun e w' hh => ⟨?_, hh.2⟩
  obtain ⟨er, rk, rn, rs, ra, rl, rc, g1, g2, g3⟩ := hh.1
  have iff : (gE N E next = 0 ∧ il = sl ∧ sl ≤ 30 ∧ (bindF N E S I []).1 = 0 ∧ RightP (envOf q) 6 (.node k (.node vk vn vs Lv) nm A)) ↔ ((gE N E next = 0 ∧ il = sl ∧ sl ≤ 30 ∧ (bindF N E S I []).1 = 0) ∧ RightP (envOf q) 6 (.node k (.node vk vn vs Lv) nm A)) := ⟨fun ⟨a1, a2, a3, a4, a5⟩ => ⟨⟨a1, a2, a3, a4⟩, a5⟩, fun ⟨⟨a1, a2, a3, a4⟩, a5⟩ => ⟨a1, a2, a3, a4, a5⟩⟩
  exact ⟨er, rk, rn, rs, ra, rl, rc, g1, g2.trans iff, fun hh => g3 (iff.2 hh)⟩

theorem cells7m : Tryz.prog.cellsOf 27 = 7 := by kernel_rfl
theorem cells1m : Tryz.prog.cellsOf 25 = 1 := by kernel_rfl

theorem len7 {cs : List Value} (h : cs.length = 7) : ∃ c0 c1 c2 c3 c4 c5 c6, cs = [c0, c1, c2, c3, c4, c5, c6] := by
  match cs, h with
  | [c0, c1, c2, c3, c4, c5, c6], _ => exact ⟨c0, c1, c2, c3, c4, c5, c6, rfl⟩

section
variable {H : Type} {enc : TypeId × Value → H} {w : World} {base : Nat} {spare : Nat → Bool} {held : Bool}

theorem trod_term {fuel : Nat} {cs : List Value} {x : DataW H × List MemPlace} (h : DataW.trod enc Tryz.prog w base spare held fuel 27 cs = some x) :
    ∃ k vk vn vs va vl vc nmx a l c m y m2 y2, cs = [.int .i64 k, .int .i64 vk, .int .i64 vn, .string vs, .slice va vl vc, .string nmx, .slice a l c] ∧ (Lit.int .i64 vn).wf = true ∧ vs.size ≤ maxLen ∧ nmx.size ≤ maxLen ∧ fuel = m + 1 ∧ DataW.trod enc Tryz.prog w base spare held m2 22 [.slice va vl vc] = some y2 ∧ DataW.trod enc Tryz.prog w base spare held m 25 [.slice a l c] = some y := by
  obtain ⟨xs, m, rfl, rfl, hlen, hxs, hf⟩ := DataW.trod_struct Tryz.underlying27 h
  rw [cells7m] at hlen
  obtain ⟨c0, c1, c2, c3, c4, c5, c6, rfl⟩ := len7 hlen
  have f0 : DataW.trod enc Tryz.prog w base spare held m 3 (([c0, c1, c2, c3, c4, c5, c6].drop 0).take (Tryz.prog.cellsOf 3)) = xs[0]? := hf 0 _ rfl
  have f1 : DataW.trod enc Tryz.prog w base spare held m 24 (([c0, c1, c2, c3, c4, c5, c6].drop 1).take (Tryz.prog.cellsOf 24)) = xs[1]? := hf 1 _ rfl
  have f2 : DataW.trod enc Tryz.prog w base spare held m 9 (([c0, c1, c2, c3, c4, c5, c6].drop 5).take (Tryz.prog.cellsOf 9)) = xs[2]? := hf 2 _ rfl
  have f3 : DataW.trod enc Tryz.prog w base spare held m 25 (([c0, c1, c2, c3, c4, c5, c6].drop 6).take (Tryz.prog.cellsOf 25)) = xs[3]? := hf 3 _ rfl
  have hx : xs.length = 4 := hxs
  obtain ⟨y0, hy0⟩ : ∃ y, xs[0]? = some y := ⟨xs[0], by simp [hx]⟩
  obtain ⟨y1, hy1⟩ : ∃ y, xs[1]? = some y := ⟨xs[1], by simp [hx]⟩
  obtain ⟨y2, hy2⟩ : ∃ y, xs[2]? = some y := ⟨xs[2], by simp [hx]⟩
  obtain ⟨y3, hy3⟩ : ∃ y, xs[3]? = some y := ⟨xs[3], by simp [hx]⟩
  rw [hy0, cells1i] at f0
  rw [hy1, cells4] at f1
  rw [hy2, cells1s] at f2
  rw [hy3, cells1m] at f3
  have g0 : DataW.trod enc Tryz.prog w base spare held m 3 [c0] = some y0 := f0
  have g1 : DataW.trod enc Tryz.prog w base spare held m 24 [c1, c2, c3, c4] = some y1 := f1
  have g2 : DataW.trod enc Tryz.prog w base spare held m 9 [c5] = some y2 := f2
  have g3 : DataW.trod enc Tryz.prog w base spare held m 25 [c6] = some y3 := f3
  obtain ⟨k, e0, _, wk⟩ := DataW.trod_int Tryz.underlying3 g0
  obtain ⟨vk, vn, vs, va, vl, vc, m', y, e1, wk', wn', hs, _, hy⟩ := trod_value g1
  obtain ⟨s, e2, _, ws⟩ := DataW.trod_string Tryz.underlying9 g2
  obtain ⟨a, l, c, rfl⟩ := slice_form Tryz.underlying25 g3
  simp only [List.cons.injEq, and_true] at e0 e1 e2
  obtain ⟨rfl, rfl, rfl, rfl⟩ := e1
  subst e0 e2
  exact ⟨k, vk, vn, vs, va, vl, vc, s, a, l, c, m, y3, m', y, rfl, wn', hs, ws, rfl, hy, g3⟩

theorem terms_in : ∀ (fuel : Nat) {a : Option Addr} {l c : Nat} {y : DataW H × List MemPlace}, DataW.trod enc Tryz.prog w base spare held fuel 25 [.slice a l c] = some y → l ≤ c ∧ ∃ L, LiesMs w L a l ∧ InMs L := by
  have hm : maxLen ≤ 9223372036854775807 := by unfold maxLen; decide
  intro fuel
  induction fuel using Nat.strongRecOn with
  | _ fuel ih =>
  intro a l c y h
  rcases DataW.trod_slice Tryz.underlying25 h with ⟨e, rfl⟩ | ⟨a', l', c', elems, rest, m, hfu, e, rfl, _, h1, h2, hlen, hel, _⟩
  · simp at e
    obtain ⟨_, rfl, _⟩ := e
    exact ⟨Nat.zero_le _, [], by unfold LiesMs; rfl, by unfold InMs; trivial⟩
  · simp at e
    obtain ⟨rfl, rfl, rfl⟩ := e
    refine ⟨h1, ?_⟩
    have one : ∀ i, i < l → ∃ (t : Tm) (cs : List Value), cs.length = 7 ∧ (∀ j v, cs[j]? = some v → w.cell? ((a'.add (i * 7)).add j) = some v) ∧ InM t ∧ ∀ b off, (∀ j v, cs[j]? = some v → w.cell? ⟨b, off + j, none⟩ = some v) → LiesM w t b off := by
      intro i hi
      have hi2 := hel i hi
      obtain ⟨z, hz⟩ : ∃ z, elems[i]? = some z := ⟨elems[i], by simp [hlen, hi]⟩
      rw [hz, cells7m, Option.bind_eq_some_iff] at hi2
      obtain ⟨cs, hcs, ht⟩ := hi2
      obtain ⟨q1, q2⟩ := cells_all hcs
      obtain ⟨k, vk, vn, vs, va, vl, vc, nmx, a2, l2, c2, m3, y3, m4, y4, rfl, wn, hvs, hns, hfm, hv, hA⟩ := trod_term ht
      obtain ⟨hlc, L2, hL2, hI2⟩ := ih m3 (by omega) hA
      obtain ⟨hvlc, Lv, hLv, hIv⟩ := tree_in m4 hv
      have hn : -9223372036854775808 ≤ vn ∧ vn ≤ 9223372036854775807 := by simpa [Lit.wf, IntKind.min, IntKind.max, IntKind.signed, IntKind.bits] using wn
      refine ⟨.node k (.node vk vn vs Lv) nmx L2, _, q1, q2, ?_, fun b off hc => ?_⟩
      · unfold InM InT
        exact ⟨⟨hn, hIv⟩, hI2⟩
      · unfold LiesM
        refine ⟨by omega, hc 0 _ rfl, ?_, hc 5 _ rfl, a2, l2, c2, hc 6 _ rfl, hlc, hL2⟩
        unfold LiesT
        exact ⟨by omega, va, vl, vc, hc 1 _ rfl, hc 2 _ rfl, hc 3 _ rfl, hc 4 _ rfl, hvlc, hLv⟩
    by_cases h0 : l = 0
    · subst h0
      exact ⟨[], by unfold LiesMs; rfl, by unfold InMs; trivial⟩
    · obtain ⟨b, off, sp⟩ := a'
      have hsp : sp = none ∧ b < w.heap.size := by
        obtain ⟨t, cs, q1, q2, _⟩ := one 0 (by omega)
        have q0 := q2 0 cs[0] (by simp)
        rw [Nat.zero_mul, add_zero, add_zero] at q0
        exact spot_none q0
      obtain ⟨rfl, hb⟩ := hsp
      simp only [add_none] at one
      have all : ∀ j, j ≤ l → ∃ ts : List Tm, ts.length = j ∧ LiesMs w ts (some ⟨b, off + (l - j) * 7, none⟩) j ∧ InMs ts := by
        intro j
        induction j with
        | zero =>
          intro _
          exact ⟨[], rfl, by unfold LiesMs; rfl, by unfold InMs; trivial⟩
        | succ j ihj =>
          intro hj
          obtain ⟨ts, hl, hts, hw⟩ := ihj (by omega)
          obtain ⟨t, cs, q1, q2, hIt, hlie⟩ := one (l - (j + 1)) (by omega)
          refine ⟨t :: ts, by simp [hl], ?_, ?_⟩
          · unfold LiesMs
            refine ⟨b, _, rfl, by omega, by omega, hb, hlie b _ q2, ?_⟩
            rw [show off + (l - (j + 1)) * 7 + 7 = off + (l - j) * 7 from by omega, hl]
            exact hts
          · unfold InMs
            exact ⟨hIt, hw⟩
      obtain ⟨ts, hl, hts, hw⟩ := all l (Nat.le_refl _)
      rw [Nat.sub_self, Nat.zero_mul, Nat.add_zero] at hts
      exact ⟨ts, hts, hw⟩

/-- A term that is handed over. -/
theorem term_in {fuel : Nat} {cs : List Value} {x : DataW H × List MemPlace} (h : DataW.trod enc Tryz.prog w base spare held fuel 27 cs = some x) :
    ∃ k vk vn vs va vl vc nmx a l c Lv A, cs = mC k vk vn vs va vl vc nmx a l c ∧ TmAt w k vk vn vs va vl vc nmx a l c Lv A ∧ InM (.node k (.node vk vn vs Lv) nmx A) := by
  have hm : maxLen ≤ 9223372036854775807 := by unfold maxLen; decide
  obtain ⟨k, vk, vn, vs, va, vl, vc, nmx, a, l, c, m3, y3, m4, y4, rfl, wn, hvs, hns, hfm, hv, hA⟩ := trod_term h
  obtain ⟨hlc, A, hL2, hI2⟩ := terms_in m3 hA
  obtain ⟨hvlc, Lv, hLv, hIv⟩ := tree_in m4 hv
  have hn : -9223372036854775808 ≤ vn ∧ vn ≤ 9223372036854775807 := by simpa [Lit.wf, IntKind.min, IntKind.max, IntKind.signed, IntKind.bits] using wn
  refine ⟨k, vk, vn, vs, va, vl, vc, nmx, a, l, c, Lv, A, rfl, ⟨by omega, by omega, hvlc, hLv, hlc, hL2⟩, ?_⟩
  unfold InM InT
  exact ⟨⟨hn, hIv⟩, hI2⟩
end
end Go.Proofs.YtbfhapmnnckkaaaGreatDoor
