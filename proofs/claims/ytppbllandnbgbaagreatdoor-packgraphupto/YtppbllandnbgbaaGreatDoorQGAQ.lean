/-
  What is proved here: what the texts KpEdge, KpGraph, KrLP, KrEdge, KrLE prove, in one text.
-/
import Derived.Test.YtppbllandnbgbaaGreatDoorQGAP
import Derived.Test.YtppbllandnbgbaaGreatDoorQGAO
namespace Go.Proofs.YtppbllandnbgbaaGreatDoor
open Go.RowKit
set_option linter.unusedVariables false

set_option maxHeartbeats 4000000 in
set_option maxRecDepth 100000 in
theorem edge_gen (b : Nat) (w : World) (bs : List UInt8) (hbw : b < w.heap.size) (h : Rd b w bs 0) :
    Calls Tryz.prog 35 #[.pointer (some ⟨b, 0, none⟩)] w fun e w' => Rd1 b w w' 0 (edP bs) (R1 vOfE EQ) e := by
  have hlt := h.lt
  have hne : w.heap.size ≠ b := by omega
  have kA : Below w.heap.size w (w.alloc (.cells #[.int .i64 0, .int .i64 0, .int .i64 0, .string ⟨#[]⟩, .slice none 0 0] 54)) := (Below.refl _ _).alloc (Nat.le_refl _) _
  have HR0 := toHid (h.below kA)
  have HA0 := toHid (alloc_new w (.cells #[.int .i64 0, .int .i64 0, .int .i64 0, .string ⟨#[]⟩, .slice none 0 0] 54))
  have HB0 := toHid (kA.mono (Nat.le_of_lt hlt))
  have HF0 : Hid (Rf b w (w.alloc (.cells #[.int .i64 0, .int .i64 0, .int .i64 0, .string ⟨#[]⟩, .slice none 0 0] 54))) := Rf.of kA
  have hzA : (w.alloc (.cells #[.int .i64 0, .int .i64 0, .int .i64 0, .string ⟨#[]⟩, .slice none 0 0] 54)).heap.size = w.heap.size + 1 := by simp
  have z0 : w.heap.size < (w.alloc (.cells #[.int .i64 0, .int .i64 0, .int .i64 0, .string ⟨#[]⟩, .slice none 0 0] 54)).heap.size := by omega
  clear h hzA
  go_enter Tryz.func35, Tryz.ntmps35
  go_upto_region 1 with fail
  generalize w.alloc (.cells #[.int .i64 0, .int .i64 0, .int .i64 0, .string ⟨#[]⟩, .slice none 0 0] 54) = u0 at kA HR0 HA0 HB0 HF0 z0 ⊢
  have HC1 := toHid (number_gen b u0 bs 0 HR0.out)
  go_wp2_with fail
  refine HC1.out.mono ?_
  rintro e u1 ⟨⟨x1, l1, v1, ho1, rfl, ⟨rfl, hz1⟩, hR1⟩ | ⟨ho1, rfl⟩, hb1, hf1⟩
  rotate_left
  · have HFt := toHid (HF0.out.trans (Nat.le_of_lt z0) hf1)
    have HBt := toHid (HB0.out.trans hb1)
    have HOT : Hid (edP bs = none) := by show _ = _; simp [edP, ho1]
    go_wp2_with fail
    exact ⟨rfl, .inr ⟨HOT.out, rfl⟩, HBt.out, HFt.out⟩
  have HO1 := toHid ho1
  have HR1 := toHid hR1
  have HB1 := toHid (HB0.out.trans hb1)
  have HF1 := toHid (HF0.out.trans (Nat.le_of_lt z0) hf1)
  have HA1 := toHid ((hf1 w.heap.size z0 hne).trans HA0.out)
  have z1 : w.heap.size < u1.heap.size := (Array.getElem?_eq_some_iff.1 HA1.out).1
  have y1 := hb1.size
  clear hR1 hb1 hf1 HC1 ho1
  have HC2 := toHid (number_gen b u1 l1 0 HR1.out)
  go_wp2_with fail
  refine HC2.out.mono ?_
  rintro e u2 ⟨⟨x2, l2, v2, ho2, rfl, ⟨rfl, hz2⟩, hR2⟩ | ⟨ho2, rfl⟩, hb2, hf2⟩
  rotate_left
  · have HFt := toHid (HF1.out.trans (Nat.le_of_lt z1) hf2)
    have HBt := toHid (HB1.out.trans hb2)
    have HOT : Hid (edP bs = none) := by show _ = _; simp [edP, HO1.out, ho2]
    go_wp2_with fail
    exact ⟨rfl, .inr ⟨HOT.out, rfl⟩, HBt.out, HFt.out⟩
  have HO2 := toHid ho2
  have HR2 := toHid hR2
  have HB2 := toHid (HB1.out.trans hb2)
  have HF2 := toHid (HF1.out.trans (Nat.le_of_lt z1) hf2)
  have HA2 := toHid ((hf2 w.heap.size z1 hne).trans HA1.out)
  have z2 : w.heap.size < u2.heap.size := (Array.getElem?_eq_some_iff.1 HA2.out).1
  have y2 := hb2.size
  clear hR2 hb2 hf2 HC2 ho2
  have HC3 := toHid (number_gen b u2 l2 0 HR2.out)
  go_wp2_with fail
  refine HC3.out.mono ?_
  rintro e u3 ⟨⟨x3, l3, v3, ho3, rfl, ⟨rfl, hz3⟩, hR3⟩ | ⟨ho3, rfl⟩, hb3, hf3⟩
  rotate_left
  · have HFt := toHid (HF2.out.trans (Nat.le_of_lt z2) hf3)
    have HBt := toHid (HB2.out.trans hb3)
    have HOT : Hid (edP bs = none) := by show _ = _; simp [edP, HO1.out, HO2.out, ho3]
    go_wp2_with fail
    exact ⟨rfl, .inr ⟨HOT.out, rfl⟩, HBt.out, HFt.out⟩
  have HO3 := toHid ho3
  have HR3 := toHid hR3
  have HB3 := toHid (HB2.out.trans hb3)
  have HF3 := toHid (HF2.out.trans (Nat.le_of_lt z2) hf3)
  have HA3 := toHid ((hf3 w.heap.size z2 hne).trans HA2.out)
  have z3 : w.heap.size < u3.heap.size := (Array.getElem?_eq_some_iff.1 HA3.out).1
  have y3 := hb3.size
  clear hR3 hb3 hf3 HC3 ho3
  have HC4 := toHid (text_gen b u3 l3 0 HR3.out)
  go_wp2_with fail
  refine HC4.out.mono ?_
  rintro e u4 ⟨⟨x4, l4, v4, ho4, rfl, ⟨rfl, hz4⟩, hR4⟩ | ⟨ho4, rfl⟩, hb4, hf4⟩
  rotate_left
  · have HFt := toHid (HF3.out.trans (Nat.le_of_lt z3) hf4)
    have HBt := toHid (HB3.out.trans hb4)
    have HOT : Hid (edP bs = none) := by show _ = _; simp [edP, HO1.out, HO2.out, HO3.out, ho4]
    go_wp2_with fail
    exact ⟨rfl, .inr ⟨HOT.out, rfl⟩, HBt.out, HFt.out⟩
  have HO4 := toHid ho4
  have HR4 := toHid hR4
  have HB4 := toHid (HB3.out.trans hb4)
  have HF4 := toHid (HF3.out.trans (Nat.le_of_lt z3) hf4)
  have HA4 := toHid ((hf4 w.heap.size z3 hne).trans HA3.out)
  have z4 : w.heap.size < u4.heap.size := (Array.getElem?_eq_some_iff.1 HA4.out).1
  have y4 := hb4.size
  clear hR4 hb4 hf4 HC4 ho4
  have HC5 := toHid (listP_gen b u4 l4 0 6 (by omega) prP HR4.out (fun W l hl hR => prop_gen b W l hl hR))
  go_wp2_with fail
  refine HC5.out.mono ?_
  rintro e u5 ⟨⟨x5, l5, v5, ho5, rfl, ⟨P5, hown5, hpr5⟩, hR5⟩ | ⟨ho5, rfl⟩, hb5, hf5⟩
  rotate_left
  · have HFt := toHid (HF4.out.trans (Nat.le_of_lt z4) hf5)
    have HBt := toHid (HB4.out.trans hb5)
    have HOT : Hid (edP bs = none) := by show _ = _; simp [edP, HO1.out, HO2.out, HO3.out, HO4.out, ho5]
    go_wp2_with fail
    exact ⟨rfl, .inr ⟨HOT.out, rfl⟩, HBt.out, HFt.out⟩
  have HO5 := toHid ho5
  have HR5 := toHid hR5
  have HB5 := toHid (HB4.out.trans hb5)
  have HF5 := toHid (HF4.out.trans (Nat.le_of_lt z4) hf5)
  have HA5 := toHid ((hf5 w.heap.size z4 hne).trans HA4.out)
  have z5 : w.heap.size < u5.heap.size := (Array.getElem?_eq_some_iff.1 HA5.out).1
  have y5 := hb5.size
  obtain ⟨a5, c5, rfl, hlc5⟩ := slice_of_row hown5
  have HLN5 := toHid hpr5.1
  have HOW5 : Hid (u5.ownsRow (w.heap.size + 1) 82 5 (.slice a5 x5.length c5) x5.length (rowP P5)) := row_down hown5 (by omega)
  have HPR5 : Hid (Pair2 (PrIn (fun g => w.heap.size < g) u5) P5 x5) := hpr5.mono fun p x _ _ hp => hp.keeps ⟨Nat.le_refl _, fun g hg hl => ⟨by omega, rfl⟩⟩
  clear hown5 hpr5
  clear hR5 hb5 hf5 HC5 ho5
  have f0 := free_of HA5.out 0
  have f1 := free_of HA5.out 1
  have f2 := free_of HA5.out 2
  have f3 := free_of HA5.out 3
  have f4 := free_of HA5.out 4
  have d0 := cell_of HA5.out 0
  have d1 := cell_of HA5.out 1
  have d2 := cell_of HA5.out 2
  have d3 := cell_of HA5.out 3
  have d4 := cell_of HA5.out 4
  simp at d0 d1 d2 d3 d4
  go_wp2_with fail
  have eP : ((((u5.setCell ⟨w.heap.size, 0, none⟩ (.int .i64 x1)).setCell ⟨w.heap.size, 1, none⟩ (.int .i64 x2)).setCell ⟨w.heap.size, 2, none⟩ (.int .i64 x3)).setCell ⟨w.heap.size, 3, none⟩ (.string x4)).setCell ⟨w.heap.size, 4, none⟩ (.slice a5 x5.length c5) = putL u5 w.heap.size 0 [.int .i64 x1, .int .i64 x2, .int .i64 x3, .string x4, .slice a5 x5.length c5] := rfl
  rw [eP]
  have EBX := box5R HA5.out rfl (.int .i64 x1) (.int .i64 x2) (.int .i64 x3) (.string x4) (.slice a5 x5.length c5)
  have hbY : Below w.heap.size u5 (putL u5 w.heap.size 0 [.int .i64 x1, .int .i64 x2, .int .i64 x3, .string x4, .slice a5 x5.length c5]) := putL_bel w.heap.size _ _ u5
  have hYo : ∀ j, j ≠ w.heap.size → (putL u5 w.heap.size 0 [.int .i64 x1, .int .i64 x2, .int .i64 x3, .string x4, .slice a5 x5.length c5]).heap[j]? = u5.heap[j]? := fun j hj => putL_other _ _ _ _ j hj
  generalize putL u5 w.heap.size 0 [.int .i64 x1, .int .i64 x2, .int .i64 x3, .string x4, .slice a5 x5.length c5] = Y at EBX hbY hYo ⊢
  have t0 := cell_of EBX 0
  have t1 := cell_of EBX 1
  have t2 := cell_of EBX 2
  have t3 := cell_of EBX 3
  have t4 := cell_of EBX 4
  simp at t0 t1 t2 t3 t4
  have HOWY5 := toHid (row_keep HOW5.out (w' := Y) (fun g hg hl => hYo g (by have := (HOW5.out.lt g hg).1; omega)))
  have HPRY5 := toHid (HPR5.out.mono fun p x _ _ hp => hp.keeps (A' := fun g => w.heap.size ≤ g) ⟨hbY.size, fun g hg hl => ⟨by omega, hYo g (by omega)⟩⟩)
  have HFIN : Hid (edP bs = some (⟨x1, x2, x3, x4, x5⟩, l5)) := by show _ = _; simp [edP, HO1.out, HO2.out, HO3.out, HO4.out, HO5.out]
  exact bodyPost_ret (v := .agg #[.int .i64 x1, .int .i64 x2, .int .i64 x3, .string x4, .slice a5 x5.length c5]) (by simp [results, Tryz.results35, go_sem, t0, t1, t2, t3, t4]) rfl ⟨.inl ⟨_, _, _, HFIN.out, rfl, ⟨⟨x1, x2, x3, x4, P5, a5, x5.length, c5⟩, rfl, ⟨⟨rfl, hz1⟩, ⟨rfl, hz2⟩, ⟨rfl, hz3⟩, rfl, hz4⟩, by show Y.ownsRow 0 _ 5 (.slice a5 x5.length c5) P5.length _; rw [HLN5.out]; exact row_down HOWY5.out (Nat.zero_le _), fun g hg => by have := (HOWY5.out.lt g hg).1; omega, HPRY5.out⟩, HR5.out.keep (hbY.mono hlt)⟩, HB5.out.trans (hbY.mono (Nat.le_of_lt hlt)), fun j hj hn => (hbY.block j hj).trans (HF5.out j hj hn)⟩

/-- A graph that has been read. -/
def GQ (A : Nat → Prop) (w : World) (v : Value) (x : Int × List AN × List AE) : Prop :=
  ∃ na nc ea ec P E, v = .agg #[.slice na x.2.1.length nc, .slice ea x.2.2.length ec, .int .i64 x.1] ∧ (-9223372036854775808 ≤ x.1 ∧ x.1 ≤ 9223372036854775807) ∧ (x.2.1.length ≤ nc ∧ x.2.2.length ≤ ec) ∧ w.ownsRow 0 50 3 (.slice na x.2.1.length nc) x.2.1.length (rowN P) ∧ OwnB A (.slice na x.2.1.length nc) ∧ Pair2 (NQ A w) P x.2.1 ∧ w.ownsRow 0 54 5 (.slice ea x.2.2.length ec) x.2.2.length (rowX E) ∧ OwnB A (.slice ea x.2.2.length ec) ∧ Pair2 (EQ A w) E x.2.2

theorem GQ.keeps {A A' : Nat → Prop} {w w' : World} {v : Value} {x : Int × List AN × List AE} (h : GQ A w v x) (k : Keep A A' w w') : GQ A' w' v x := by
  obtain ⟨na, nc, ea, ec, P, E, h1, h2, h0, h3, h4, h5, h6, h7, h8⟩ := h
  exact ⟨na, nc, ea, ec, P, E, h1, h2, h0, row_keep h3 fun g hg hl => (k.2 g (h4 g hg) hl).2, fun g hg => (k.2 g (h4 g hg) (h3.lt g hg).2).1, h5.mono fun p x _ _ hp => hp.keeps k, row_keep h6 fun g hg hl => (k.2 g (h7 g hg) hl).2, fun g hg => (k.2 g (h7 g hg) (h6.lt g hg).2).1, h8.mono fun p x _ _ hp => hp.keeps k⟩

set_option maxHeartbeats 4000000 in
set_option maxRecDepth 100000 in
theorem graph_gen (b : Nat) (w : World) (bs : List UInt8) (hbw : b < w.heap.size) (h : Rd b w bs 0) :
    Calls Tryz.prog 13 #[.pointer (some ⟨b, 0, none⟩)] w fun e w' => Rd1 b w w' 0 (grP bs) (fun w w' x v => GQ (fun j => w.heap.size ≤ j) w' v x) e := by
  have hlt := h.lt
  have hne : w.heap.size ≠ b := by omega
  have kA : Below w.heap.size w (w.alloc (.cells #[.slice none 0 0, .slice none 0 0, .int .i64 0] 25)) := (Below.refl _ _).alloc (Nat.le_refl _) _
  have HR0 := toHid (h.below kA)
  have HA0 := toHid (alloc_new w (.cells #[.slice none 0 0, .slice none 0 0, .int .i64 0] 25))
  have HB0 := toHid (kA.mono (Nat.le_of_lt hlt))
  have HF0 : Hid (Rf b w (w.alloc (.cells #[.slice none 0 0, .slice none 0 0, .int .i64 0] 25))) := Rf.of kA
  have hzA : (w.alloc (.cells #[.slice none 0 0, .slice none 0 0, .int .i64 0] 25)).heap.size = w.heap.size + 1 := by simp
  have z0 : w.heap.size < (w.alloc (.cells #[.slice none 0 0, .slice none 0 0, .int .i64 0] 25)).heap.size := by omega
  clear h hzA
  go_enter Tryz.func13, Tryz.ntmps13
  go_upto_region 1 with fail
  generalize w.alloc (.cells #[.slice none 0 0, .slice none 0 0, .int .i64 0] 25) = u0 at kA HR0 HA0 HB0 HF0 z0 ⊢
  have HC1 := toHid (number_gen b u0 bs 0 HR0.out)
  go_wp2_with fail
  refine HC1.out.mono ?_
  rintro e u1 ⟨⟨x1, l1, v1, ho1, rfl, ⟨rfl, hz1⟩, hR1⟩ | ⟨ho1, rfl⟩, hb1, hf1⟩
  rotate_left
  · have HFt := toHid (HF0.out.trans (Nat.le_of_lt z0) hf1)
    have HBt := toHid (HB0.out.trans hb1)
    have HOT : Hid (grP bs = none) := by show _ = _; simp [grP, ho1]
    go_wp2_with fail
    exact ⟨rfl, .inr ⟨HOT.out, rfl⟩, HBt.out, HFt.out⟩
  have HO1 := toHid ho1
  have HR1 := toHid hR1
  have HB1 := toHid (HB0.out.trans hb1)
  have HF1 := toHid (HF0.out.trans (Nat.le_of_lt z0) hf1)
  have HA1 := toHid ((hf1 w.heap.size z0 hne).trans HA0.out)
  have z1 : w.heap.size < u1.heap.size := (Array.getElem?_eq_some_iff.1 HA1.out).1
  have y1 := hb1.size
  clear hR1 hb1 hf1 HC1 ho1
  have HC2 := toHid (listN_gen b u1 l1 0 40 (by omega) ndP HR1.out (fun W l hl hR => node_gen b W l hl hR))
  go_wp2_with fail
  refine HC2.out.mono ?_
  rintro e u2 ⟨⟨x2, l2, v2, ho2, rfl, ⟨P2, hown2, hpr2⟩, hR2⟩ | ⟨ho2, rfl⟩, hb2, hf2⟩
  rotate_left
  · have HFt := toHid (HF1.out.trans (Nat.le_of_lt z1) hf2)
    have HBt := toHid (HB1.out.trans hb2)
    have HOT : Hid (grP bs = none) := by show _ = _; simp [grP, HO1.out, ho2]
    go_wp2_with fail
    exact ⟨rfl, .inr ⟨HOT.out, rfl⟩, HBt.out, HFt.out⟩
  have HO2 := toHid ho2
  have HR2 := toHid hR2
  have HB2 := toHid (HB1.out.trans hb2)
  have HF2 := toHid (HF1.out.trans (Nat.le_of_lt z1) hf2)
  have HA2 := toHid ((hf2 w.heap.size z1 hne).trans HA1.out)
  have z2 : w.heap.size < u2.heap.size := (Array.getElem?_eq_some_iff.1 HA2.out).1
  have y2 := hb2.size
  obtain ⟨a2, c2, rfl, hlc2⟩ := slice_of_row hown2
  have HLN2 := toHid hpr2.1
  have HOW2 : Hid (u2.ownsRow (w.heap.size + 1) 50 3 (.slice a2 x2.length c2) x2.length (rowN P2)) := row_down hown2 (by omega)
  have HPR2 : Hid (Pair2 (NQ (fun g => w.heap.size < g) u2) P2 x2) := hpr2.mono fun p x _ _ hp => hp.keeps ⟨Nat.le_refl _, fun g hg hl => ⟨by omega, rfl⟩⟩
  clear hown2 hpr2
  clear hR2 hb2 hf2 HC2 ho2
  have HC3 := toHid (listE_gen b u2 l2 0 60 (by omega) edP HR2.out (fun W l hl hR => edge_gen b W l hl hR))
  go_wp2_with fail
  refine HC3.out.mono ?_
  rintro e u3 ⟨⟨x3, l3, v3, ho3, rfl, ⟨P3, hown3, hpr3⟩, hR3⟩ | ⟨ho3, rfl⟩, hb3, hf3⟩
  rotate_left
  · have HFt := toHid (HF2.out.trans (Nat.le_of_lt z2) hf3)
    have HBt := toHid (HB2.out.trans hb3)
    have HOT : Hid (grP bs = none) := by show _ = _; simp [grP, HO1.out, HO2.out, ho3]
    go_wp2_with fail
    exact ⟨rfl, .inr ⟨HOT.out, rfl⟩, HBt.out, HFt.out⟩
  have HO3 := toHid ho3
  have HR3 := toHid hR3
  have HB3 := toHid (HB2.out.trans hb3)
  have HF3 := toHid (HF2.out.trans (Nat.le_of_lt z2) hf3)
  have HA3 := toHid ((hf3 w.heap.size z2 hne).trans HA2.out)
  have z3 : w.heap.size < u3.heap.size := (Array.getElem?_eq_some_iff.1 HA3.out).1
  have y3 := hb3.size
  have HOW2_3 := toHid (row_keep HOW2.out (w' := u3) (fun g hg hl => hf3 g hl (by have := (HOW2.out.lt g hg).1; omega)))
  have HPR2_3 := toHid (HPR2.out.mono fun p x _ _ hp => hp.keeps ⟨y3, fun g hg hl => ⟨hg, hf3 g hl (by omega)⟩⟩)
  obtain ⟨a3, c3, rfl, hlc3⟩ := slice_of_row hown3
  have HLN3 := toHid hpr3.1
  have HOW3 : Hid (u3.ownsRow (w.heap.size + 1) 54 5 (.slice a3 x3.length c3) x3.length (rowX P3)) := row_down hown3 (by omega)
  have HPR3 : Hid (Pair2 (EQ (fun g => w.heap.size < g) u3) P3 x3) := hpr3.mono fun p x _ _ hp => hp.keeps ⟨Nat.le_refl _, fun g hg hl => ⟨by omega, rfl⟩⟩
  clear hown3 hpr3
  clear hR3 hb3 hf3 HC3 ho3
  have f0 := free_of HA3.out 0
  have f1 := free_of HA3.out 1
  have f2 := free_of HA3.out 2
  have d0 := cell_of HA3.out 0
  have d1 := cell_of HA3.out 1
  have d2 := cell_of HA3.out 2
  simp at d0 d1 d2
  go_wp2_with fail
  have eP : ((u3.setCell ⟨w.heap.size, 0, none⟩ (.slice a2 x2.length c2)).setCell ⟨w.heap.size, 1, none⟩ (.slice a3 x3.length c3)).setCell ⟨w.heap.size, 2, none⟩ (.int .i64 x1) = putL u3 w.heap.size 0 [.slice a2 x2.length c2, .slice a3 x3.length c3, .int .i64 x1] := rfl
  rw [eP]
  have EBX := box3R HA3.out rfl (.slice a2 x2.length c2) (.slice a3 x3.length c3) (.int .i64 x1)
  have hbY : Below w.heap.size u3 (putL u3 w.heap.size 0 [.slice a2 x2.length c2, .slice a3 x3.length c3, .int .i64 x1]) := putL_bel w.heap.size _ _ u3
  have hYo : ∀ j, j ≠ w.heap.size → (putL u3 w.heap.size 0 [.slice a2 x2.length c2, .slice a3 x3.length c3, .int .i64 x1]).heap[j]? = u3.heap[j]? := fun j hj => putL_other _ _ _ _ j hj
  generalize putL u3 w.heap.size 0 [.slice a2 x2.length c2, .slice a3 x3.length c3, .int .i64 x1] = Y at EBX hbY hYo ⊢
  have t0 := cell_of EBX 0
  have t1 := cell_of EBX 1
  have t2 := cell_of EBX 2
  simp at t0 t1 t2
  have HOWY2 := toHid (row_keep HOW2_3.out (w' := Y) (fun g hg hl => hYo g (by have := (HOW2_3.out.lt g hg).1; omega)))
  have HPRY2 := toHid (HPR2_3.out.mono fun p x _ _ hp => hp.keeps (A' := fun g => w.heap.size ≤ g) ⟨hbY.size, fun g hg hl => ⟨by omega, hYo g (by omega)⟩⟩)
  have HOWY3 := toHid (row_keep HOW3.out (w' := Y) (fun g hg hl => hYo g (by have := (HOW3.out.lt g hg).1; omega)))
  have HPRY3 := toHid (HPR3.out.mono fun p x _ _ hp => hp.keeps (A' := fun g => w.heap.size ≤ g) ⟨hbY.size, fun g hg hl => ⟨by omega, hYo g (by omega)⟩⟩)
  have HFIN : Hid (grP bs = some ((x1, x2, x3), l3)) := by show _ = _; simp [grP, HO1.out, HO2.out, HO3.out]
  exact bodyPost_ret (v := .agg #[.slice a2 x2.length c2, .slice a3 x3.length c3, .int .i64 x1]) (by simp [results, Tryz.results13, go_sem, t0, t1, t2]) rfl ⟨.inl ⟨_, _, _, HFIN.out, rfl, ⟨a2, c2, a3, c3, P2, P3, rfl, hz1, ⟨hlc2, hlc3⟩, row_down HOWY2.out (Nat.zero_le _), fun g hg => by have := (HOWY2.out.lt g hg).1; omega, HPRY2.out, row_down HOWY3.out (Nat.zero_le _), fun g hg => by have := (HOWY3.out.lt g hg).1; omega, HPRY3.out⟩, HR3.out.keep (hbY.mono hlt)⟩, HB3.out.trans (hbY.mono (Nat.le_of_lt hlt)), fun j hj hn => (hbY.block j hj).trans (HF3.out j hj hn)⟩

theorem infoRP0 : (Tryz.prog.info? 82).map (fun i => (i.zero, i.size, i.bytes)) = some (some (.agg #[.string ⟨#[]⟩, .int .i64 0, .int .i64 0, .string ⟨#[]⟩, .slice none 0 0]), 5, 72) := by kernel_rfl
theorem infoRP : ∃ i, Tryz.prog.info? 82 = some i ∧ i.zero = some (.agg #[.string ⟨#[]⟩, .int .i64 0, .int .i64 0, .string ⟨#[]⟩, .slice none 0 0]) ∧ i.size = 5 ∧ i.bytes = 72 := by
  obtain ⟨i, h, e⟩ := Option.map_eq_some_iff.1 infoRP0
  simp only [Prod.mk.injEq] at e
  exact ⟨i, h, e⟩

set_option maxHeartbeats 4000000 in
set_option maxRecDepth 100000 in
theorem rlistP_any (b : Nat) (w : World) (L : List (ByteArray × Int)) (r : List UInt8) (d : Int) (most : Nat) (hmost : L.length ≤ most) (hm : most ≤ 1000) (hok : ∀ y ∈ L, y.1.size ≤ 1000000 ∧ 0 ≤ y.2 ∧ y.2 ≤ 1099511627776) (h : Rd b w (eaB (fun p => pB (flatP p)) L ++ r) d) :
    Calls Tryz.prog 54 #[.pointer (some ⟨b, 0, none⟩), .int .i64 most, .func (.func 55) #[.pointer (some ⟨b, 0, none⟩)] #[]] w fun e w' => (∃ v, e = .returned v ∧ w'.ownsRow w.heap.size 82 5 v L.length (rowF L) ∧ (L = [] → v = .slice none 0 0)) ∧ Rd b w' r d ∧ Below b w w' ∧ Rf b w w' := by
  have hlt := h.lt
  have h' : Rd b w (bts L.length ++ ((L.map (fun p => pB (flatP p))).flatten ++ r)) d := by unfold eaB at h; rw [List.append_assoc] at h; exact h
  have HB := toHid (rbits_any b w L.length _ d (by omega) h')
  have HOK := toHid hok
  obtain ⟨i0, hi0, hiz, his, hib⟩ := infoRP
  have HI0 := toHid hi0
  have HIZ := toHid hiz
  have HIS := toHid his
  have HIB := toHid hib
  obtain ⟨n, hn⟩ : ∃ n, n = L.length := ⟨_, rfl⟩
  rw [← hn] at hmost HB
  rw [← hn]
  have HN := toHid hn
  clear h h' hok hi0 hiz his hib hn
  have hle : ¬ (most : Int) < n := by omega
  go_enter Tryz.func54, Tryz.ntmps54
  go_wp2_with fail
  refine HB.out.mono ?_
  rintro e w1 ⟨rfl, hR1, hb1, hf1⟩
  have HR1 := toHid hR1
  have HF1 := toHid hf1
  clear hR1 hf1 HB
  go_wp2_with fail
  rw [show decide (most < n) = false from decide_eq_false (by omega)]
  go_loopg [8, 18] n (fun g s8 s18 wr => ∃ (i : Nat) (ov : Value), i ≤ n ∧ n - i ≤ g ∧ ov = s8 ∧ s18 = .int .u64 i ∧ wr.ownsRow w.heap.size 82 5 ov i (rowF (L.take i)) ∧ Rd b wr (((L.drop i).map (fun p => pB (flatP p))).flatten ++ r) d ∧ Below b w wr ∧ Rf b w wr ∧ (i = 0 → ov = .slice none 0 0))
  case atStart => exact ⟨0, _, Nat.zero_le _, by omega, rfl, by go_num, World.ownsRow_nil _ _ _ _, by simpa using HR1.out, hb1, HF1.out, fun _ => rfl⟩
  case round =>
    clear HR1 HF1 hb1
    obtain ⟨i, ov, hi, hg, rfl, rfl, hown, hR, hbw, hf, hnil⟩ := hrel
    have hsz := hbw.size
    by_cases hlt2 : i < n
    · obtain ⟨y, hy⟩ : ∃ y, L[i]? = some y := ⟨L[i]'(by rw [← HN.out]; exact hlt2), List.getElem?_eq_getElem _⟩
      have hd : L.drop i = y :: L.drop (i + 1) := by
        obtain ⟨hl, rfl⟩ := List.getElem?_eq_some_iff.1 hy
        exact List.drop_eq_getElem_cons hl
      have hyo := HOK.out y (List.mem_of_getElem? hy)
      have hR' : Rd b wr ((fun p => pB (flatP p)) y ++ (((L.drop (i + 1)).map (fun p => pB (flatP p))).flatten ++ r)) d := by rw [hd] at hR; simpa [List.append_assoc] using hR
      have HC := toHid (rprop_any b wr y _ d hyo hR')
      have HOW := toHid hown
      have HF := toHid hf
      have HY := toHid hy
      have hil : (i : Int) < n := by omega
      have hiw : IntKind.u64.wrap ((i : Int) + 1) = (i : Int) + 1 := by rw [IntKind.wrap_u64]; omega
      clear hR hR' hown hf hd hyo hy
      go_wp2_with fail
      refine HC.out.mono ?_
      rintro e u1 ⟨rfl, hR1, hb1, hf1⟩
      have hs1 := hb1.size
      have HR1 := toHid hR1
      have HB1 := toHid (hbw.trans hb1)
      have HF1 := toHid (HF.out.trans hsz hf1)
      have OWN2 := toHid (row_keep HOW.out (w' := u1) (fun g hg hl => hf1 g hl (by have := (HOW.out.lt g hg).1; omega)))
      have HBy : (i + 1) * 72 ≤ 140737488355328 := by omega
      have HBm : i + 1 ≤ maxLen := by unfold maxLen; omega
      clear hR1 hb1 hf1 HC HF
      go_wp2_with (at_builtin; refine wpList_append_lies _ rfl _ _ 48 rfl w.heap.size 82 i0 _ 5 72 Tryz.underlying48 HI0.out HIZ.out HIS.out HIB.out rfl (by omega) ov i (rowF (L.take i)) rfl (OWN2.out.alloc _) ⟨u1.heap.size, 0, none⟩ 1 1 [.string y.1, .int .i64 2, .int .i64 y.2, .string ⟨#[]⟩, .slice none 0 0] rfl rfl (World.news_of_block (cs := #[.string y.1, .int .i64 2, .int .i64 y.2, .string ⟨#[]⟩, .slice none 0 0]) (t := 82) (fr := (0, 0)) (alloc_new u1 _)) (by simp [Value.oneCell']) (by omega) HBm HBy (by simp; omega) (u1.heap.size + 1) (by simp) ?_)
      intro gg cap w5 hown5 hgrow hat5 hlt5
      have hb5 : Below w.heap.size u1 w5 := ((Below.refl _ _).alloc (by omega) _).grown hgrow (by simp; omega) (fun j hj => (OWN2.out.lt j hj).1)
      have HR5 := toHid (HR1.out.keep (hb5.mono hlt))
      have HB5 := toHid (HB1.out.trans (hb5.mono (Nat.le_of_lt hlt)))
      have HF5 : Hid (Rf b w w5) := fun j hj hn => (hb5.block j hj).trans (HF1.out j hj hn)
      have HO5 : Hid (w5.ownsRow w.heap.size 82 5 (.slice (some ⟨gg, 0, none⟩) (i + 1) cap) (i + 1) (rowF (L.take (i + 1)))) := by
        have e : rowF (L.take (i + 1)) = rowF (L.take i) ++ [.string y.1, .int .i64 2, .int .i64 y.2, .string ⟨#[]⟩, .slice none 0 0] := by
          rw [List.take_add_one, HY.out]
          simp [rowF]
        rw [e]
        exact hown5
      clear hown5 hgrow hat5 hlt5 hb5
      go_wp2_with fail
      go_roundg (n - (i + 1))
      case measure => omega
      case rel => exact ⟨i + 1, .slice (some ⟨gg, 0, none⟩) (i + 1) cap, by omega, by omega, rfl, by go_num, HO5.out, HR5.out, HB5.out, HF5.out, fun h => by omega⟩
    · have hil : ¬ (i : Int) < n := by omega
      obtain rfl : i = n := by omega
      have hT : L.take i = L := List.take_of_length_le (by rw [HN.out]; exact Nat.le_refl _)
      have hD : L.drop i = [] := List.drop_eq_nil_of_le (by rw [HN.out]; exact Nat.le_refl _)
      rw [hT] at hown
      rw [hD] at hR
      have HOW := toHid hown
      have HR := toHid hR
      have HF := toHid hf
      clear hown hR hf hT hD
      go_wp2_with fail
      go_ret
      exact ⟨⟨_, rfl, HOW.out, fun h => hnil (by rw [HN.out, h]; rfl)⟩, by simpa using HR.out, hbw, HF.out⟩

/-- An edge without properties. -/
structure FE where
  id : Int
  frm : Int
  dst : Int
  typ : ByteArray
def FE.ae (x : FE) : AE := ⟨x.id, x.frm, x.dst, x.typ, []⟩
def rowG (P : List FE) : List Value := (P.map fun x => [Value.int .i64 x.id, .int .i64 x.frm, .int .i64 x.dst, .string x.typ, .slice none 0 0]).flatten
def FE.small (x : FE) : Prop := (0 ≤ x.id ∧ x.id ≤ 1099511627776) ∧ (0 ≤ x.frm ∧ x.frm ≤ 1099511627776) ∧ (0 ≤ x.dst ∧ x.dst ≤ 1099511627776) ∧ x.typ.size ≤ 1000000

set_option maxHeartbeats 4000000 in
set_option maxRecDepth 100000 in
theorem redge_any (b : Nat) (w : World) (y : FE) (r : List UInt8) (d : Int) (hy : y.small) (h : Rd b w (eB y.ae ++ r) d) :
    Calls Tryz.prog 35 #[.pointer (some ⟨b, 0, none⟩)] w fun e w' => e = .returned (.agg #[.int .i64 y.id, .int .i64 y.frm, .int .i64 y.dst, .string y.typ, .slice none 0 0]) ∧ Rd b w' r d ∧ Below b w w' ∧ Rf b w w' := by
  have hlt := h.lt
  have hne : w.heap.size ≠ b := by omega
  have hsp : eB y.ae ++ r = numB y.id ++ (numB y.frm ++ (numB y.dst ++ (txB y.typ ++ (eaB (fun p => pB (flatP p)) [] ++ r)))) := by unfold eB FE.ae; simp [eaB]
  rw [hsp] at h
  clear hsp
  have kA : Below w.heap.size w (w.alloc (.cells #[.int .i64 0, .int .i64 0, .int .i64 0, .string ⟨#[]⟩, .slice none 0 0] 54)) := (Below.refl _ _).alloc (Nat.le_refl _) _
  have HR0 := toHid (h.below kA)
  have HA0 := toHid (alloc_new w (.cells #[.int .i64 0, .int .i64 0, .int .i64 0, .string ⟨#[]⟩, .slice none 0 0] 54))
  have HB0 := toHid (kA.mono (Nat.le_of_lt hlt))
  have HF0 : Hid (Rf b w (w.alloc (.cells #[.int .i64 0, .int .i64 0, .int .i64 0, .string ⟨#[]⟩, .slice none 0 0] 54))) := Rf.of kA
  have hzA : (w.alloc (.cells #[.int .i64 0, .int .i64 0, .int .i64 0, .string ⟨#[]⟩, .slice none 0 0] 54)).heap.size = w.heap.size + 1 := by simp
  have z0 : w.heap.size < (w.alloc (.cells #[.int .i64 0, .int .i64 0, .int .i64 0, .string ⟨#[]⟩, .slice none 0 0] 54)).heap.size := by omega
  clear h hzA
  go_enter Tryz.func35, Tryz.ntmps35
  go_upto_region 1 with fail
  generalize w.alloc (.cells #[.int .i64 0, .int .i64 0, .int .i64 0, .string ⟨#[]⟩, .slice none 0 0] 54) = u0 at kA HR0 HA0 HB0 HF0 z0 ⊢
  have HC1 := toHid (rnumber_any b u0 y.id _ d hy.1.1 hy.1.2 HR0.out)
  go_wp2_with fail
  refine HC1.out.mono ?_
  rintro e u1 ⟨rfl, hR1, hb1, hf1⟩
  have HR1 := toHid hR1
  have HB1 := toHid (HB0.out.trans hb1)
  have HF1 := toHid (HF0.out.trans (Nat.le_of_lt z0) hf1)
  have HA1 := toHid ((hf1 w.heap.size z0 hne).trans HA0.out)
  have z1 : w.heap.size < u1.heap.size := (Array.getElem?_eq_some_iff.1 HA1.out).1
  clear hR1 hb1 hf1 HC1
  have HC2 := toHid (rnumber_any b u1 y.frm _ d hy.2.1.1 hy.2.1.2 HR1.out)
  go_wp2_with fail
  refine HC2.out.mono ?_
  rintro e u2 ⟨rfl, hR2, hb2, hf2⟩
  have HR2 := toHid hR2
  have HB2 := toHid (HB1.out.trans hb2)
  have HF2 := toHid (HF1.out.trans (Nat.le_of_lt z1) hf2)
  have HA2 := toHid ((hf2 w.heap.size z1 hne).trans HA1.out)
  have z2 : w.heap.size < u2.heap.size := (Array.getElem?_eq_some_iff.1 HA2.out).1
  clear hR2 hb2 hf2 HC2
  have HC3 := toHid (rnumber_any b u2 y.dst _ d hy.2.2.1.1 hy.2.2.1.2 HR2.out)
  go_wp2_with fail
  refine HC3.out.mono ?_
  rintro e u3 ⟨rfl, hR3, hb3, hf3⟩
  have HR3 := toHid hR3
  have HB3 := toHid (HB2.out.trans hb3)
  have HF3 := toHid (HF2.out.trans (Nat.le_of_lt z2) hf3)
  have HA3 := toHid ((hf3 w.heap.size z2 hne).trans HA2.out)
  have z3 : w.heap.size < u3.heap.size := (Array.getElem?_eq_some_iff.1 HA3.out).1
  clear hR3 hb3 hf3 HC3
  have HC4 := toHid (rtext_any b u3 y.typ _ d hy.2.2.2 HR3.out)
  go_wp2_with fail
  refine HC4.out.mono ?_
  rintro e u4 ⟨rfl, hR4, hb4, hf4⟩
  have HR4 := toHid hR4
  have HB4 := toHid (HB3.out.trans hb4)
  have HF4 := toHid (HF3.out.trans (Nat.le_of_lt z3) hf4)
  have HA4 := toHid ((hf4 w.heap.size z3 hne).trans HA3.out)
  have z4 : w.heap.size < u4.heap.size := (Array.getElem?_eq_some_iff.1 HA4.out).1
  clear hR4 hb4 hf4 HC4
  have HC5 := toHid (rlistP_any b u4 [] _ d 6 (by simp) (by omega) (by simp) HR4.out)
  go_wp2_with fail
  refine HC5.out.mono ?_
  rintro e u5 ⟨⟨vv, rfl, _, hnil⟩, hR5, hb5, hf5⟩
  obtain rfl := hnil (by first | rfl | trivial)
  have HR5 := toHid hR5
  have HB5 := toHid (HB4.out.trans hb5)
  have HF5 := toHid (HF4.out.trans (Nat.le_of_lt z4) hf5)
  have HA5 := toHid ((hf5 w.heap.size z4 hne).trans HA4.out)
  have z5 : w.heap.size < u5.heap.size := (Array.getElem?_eq_some_iff.1 HA5.out).1
  clear hR5 hb5 hf5 HC5
  have f0 := free_of HA5.out 0
  have f1 := free_of HA5.out 1
  have f2 := free_of HA5.out 2
  have f3 := free_of HA5.out 3
  have f4 := free_of HA5.out 4
  have d0 := cell_of HA5.out 0
  have d1 := cell_of HA5.out 1
  have d2 := cell_of HA5.out 2
  have d3 := cell_of HA5.out 3
  have d4 := cell_of HA5.out 4
  simp at d0 d1 d2 d3 d4
  go_wp2_with fail
  have eP : ((((u5.setCell ⟨w.heap.size, 0, none⟩ (.int .i64 y.id)).setCell ⟨w.heap.size, 1, none⟩ (.int .i64 y.frm)).setCell ⟨w.heap.size, 2, none⟩ (.int .i64 y.dst)).setCell ⟨w.heap.size, 3, none⟩ (.string y.typ)).setCell ⟨w.heap.size, 4, none⟩ (.slice none 0 0) = putL u5 w.heap.size 0 [.int .i64 y.id, .int .i64 y.frm, .int .i64 y.dst, .string y.typ, .slice none 0 0] := rfl
  rw [eP]
  have EBX := box5R HA5.out rfl (.int .i64 y.id) (.int .i64 y.frm) (.int .i64 y.dst) (.string y.typ) (.slice none 0 0)
  have hbY : Below w.heap.size u5 (putL u5 w.heap.size 0 [.int .i64 y.id, .int .i64 y.frm, .int .i64 y.dst, .string y.typ, .slice none 0 0]) := putL_bel w.heap.size _ _ u5
  have hYo : ∀ j, j ≠ w.heap.size → (putL u5 w.heap.size 0 [.int .i64 y.id, .int .i64 y.frm, .int .i64 y.dst, .string y.typ, .slice none 0 0]).heap[j]? = u5.heap[j]? := fun j hj => putL_other _ _ _ _ j hj
  generalize putL u5 w.heap.size 0 [.int .i64 y.id, .int .i64 y.frm, .int .i64 y.dst, .string y.typ, .slice none 0 0] = Y at EBX hbY hYo ⊢
  have t0 := cell_of EBX 0
  have t1 := cell_of EBX 1
  have t2 := cell_of EBX 2
  have t3 := cell_of EBX 3
  have t4 := cell_of EBX 4
  simp at t0 t1 t2 t3 t4
  exact bodyPost_ret (v := .agg #[.int .i64 y.id, .int .i64 y.frm, .int .i64 y.dst, .string y.typ, .slice none 0 0]) (by simp [results, Tryz.results35, go_sem, t0, t1, t2, t3, t4]) rfl ⟨rfl, HR5.out.keep (hbY.mono hlt), HB5.out.trans (hbY.mono (Nat.le_of_lt hlt)), fun j hj hn => (hbY.block j hj).trans (HF5.out j hj hn)⟩

theorem infoRE0 : (Tryz.prog.info? 54).map (fun i => (i.zero, i.size, i.bytes)) = some (some (.agg #[.int .i64 0, .int .i64 0, .int .i64 0, .string ⟨#[]⟩, .slice none 0 0]), 5, 64) := by kernel_rfl
theorem infoRE : ∃ i, Tryz.prog.info? 54 = some i ∧ i.zero = some (.agg #[.int .i64 0, .int .i64 0, .int .i64 0, .string ⟨#[]⟩, .slice none 0 0]) ∧ i.size = 5 ∧ i.bytes = 64 := by
  obtain ⟨i, h, e⟩ := Option.map_eq_some_iff.1 infoRE0
  simp only [Prod.mk.injEq] at e
  exact ⟨i, h, e⟩

set_option maxHeartbeats 4000000 in
set_option maxRecDepth 100000 in
theorem rlistE_any (b : Nat) (w : World) (L : List FE) (r : List UInt8) (d : Int) (most : Nat) (hmost : L.length ≤ most) (hm : most ≤ 1000) (hok : ∀ y ∈ L, y.small) (h : Rd b w (eaB (fun x => eB (FE.ae x)) L ++ r) d) :
    Calls Tryz.prog 34 #[.pointer (some ⟨b, 0, none⟩), .int .i64 most, .func (.func 35) #[.pointer (some ⟨b, 0, none⟩)] #[]] w fun e w' => (∃ v, e = .returned v ∧ w'.ownsRow w.heap.size 54 5 v L.length (rowG L) ∧ (L = [] → v = .slice none 0 0)) ∧ Rd b w' r d ∧ Below b w w' ∧ Rf b w w' := by
  have hlt := h.lt
  have h' : Rd b w (bts L.length ++ ((L.map (fun x => eB (FE.ae x))).flatten ++ r)) d := by unfold eaB at h; rw [List.append_assoc] at h; exact h
  have HB := toHid (rbits_any b w L.length _ d (by omega) h')
  have HOK := toHid hok
  obtain ⟨i0, hi0, hiz, his, hib⟩ := infoRE
  have HI0 := toHid hi0
  have HIZ := toHid hiz
  have HIS := toHid his
  have HIB := toHid hib
  obtain ⟨n, hn⟩ : ∃ n, n = L.length := ⟨_, rfl⟩
  rw [← hn] at hmost HB
  rw [← hn]
  have HN := toHid hn
  clear h h' hok hi0 hiz his hib hn
  have hle : ¬ (most : Int) < n := by omega
  go_enter Tryz.func34, Tryz.ntmps34
  go_wp2_with fail
  refine HB.out.mono ?_
  rintro e w1 ⟨rfl, hR1, hb1, hf1⟩
  have HR1 := toHid hR1
  have HF1 := toHid hf1
  clear hR1 hf1 HB
  go_wp2_with fail
  rw [show decide (most < n) = false from decide_eq_false (by omega)]
  go_loopg [8, 18] n (fun g s8 s18 wr => ∃ (i : Nat) (ov : Value), i ≤ n ∧ n - i ≤ g ∧ ov = s8 ∧ s18 = .int .u64 i ∧ wr.ownsRow w.heap.size 54 5 ov i (rowG (L.take i)) ∧ Rd b wr (((L.drop i).map (fun x => eB (FE.ae x))).flatten ++ r) d ∧ Below b w wr ∧ Rf b w wr ∧ (i = 0 → ov = .slice none 0 0))
  case atStart => exact ⟨0, _, Nat.zero_le _, by omega, rfl, by go_num, World.ownsRow_nil _ _ _ _, by simpa using HR1.out, hb1, HF1.out, fun _ => rfl⟩
  case round =>
    clear HR1 HF1 hb1
    obtain ⟨i, ov, hi, hg, rfl, rfl, hown, hR, hbw, hf, hnil⟩ := hrel
    have hsz := hbw.size
    by_cases hlt2 : i < n
    · obtain ⟨y, hy⟩ : ∃ y, L[i]? = some y := ⟨L[i]'(by rw [← HN.out]; exact hlt2), List.getElem?_eq_getElem _⟩
      have hd : L.drop i = y :: L.drop (i + 1) := by
        obtain ⟨hl, rfl⟩ := List.getElem?_eq_some_iff.1 hy
        exact List.drop_eq_getElem_cons hl
      have hyo := HOK.out y (List.mem_of_getElem? hy)
      have hR' : Rd b wr ((fun x => eB (FE.ae x)) y ++ (((L.drop (i + 1)).map (fun x => eB (FE.ae x))).flatten ++ r)) d := by rw [hd] at hR; simpa [List.append_assoc] using hR
      have HC := toHid (redge_any b wr y _ d hyo hR')
      have HOW := toHid hown
      have HF := toHid hf
      have HY := toHid hy
      have hil : (i : Int) < n := by omega
      have hiw : IntKind.u64.wrap ((i : Int) + 1) = (i : Int) + 1 := by rw [IntKind.wrap_u64]; omega
      clear hR hR' hown hf hd hyo hy
      go_wp2_with fail
      refine HC.out.mono ?_
      rintro e u1 ⟨rfl, hR1, hb1, hf1⟩
      have hs1 := hb1.size
      have HR1 := toHid hR1
      have HB1 := toHid (hbw.trans hb1)
      have HF1 := toHid (HF.out.trans hsz hf1)
      have OWN2 := toHid (row_keep HOW.out (w' := u1) (fun g hg hl => hf1 g hl (by have := (HOW.out.lt g hg).1; omega)))
      have HBy : (i + 1) * 64 ≤ 140737488355328 := by omega
      have HBm : i + 1 ≤ maxLen := by unfold maxLen; omega
      clear hR1 hb1 hf1 HC HF
      go_wp2_with (at_builtin; refine wpList_append_lies _ rfl _ _ 23 rfl w.heap.size 54 i0 _ 5 64 Tryz.underlying23 HI0.out HIZ.out HIS.out HIB.out rfl (by omega) ov i (rowG (L.take i)) rfl (OWN2.out.alloc _) ⟨u1.heap.size, 0, none⟩ 1 1 [.int .i64 y.id, .int .i64 y.frm, .int .i64 y.dst, .string y.typ, .slice none 0 0] rfl rfl (World.news_of_block (cs := #[.int .i64 y.id, .int .i64 y.frm, .int .i64 y.dst, .string y.typ, .slice none 0 0]) (t := 54) (fr := (0, 0)) (alloc_new u1 _)) (by simp [Value.oneCell']) (by omega) HBm HBy (by simp; omega) (u1.heap.size + 1) (by simp) ?_)
      intro gg cap w5 hown5 hgrow hat5 hlt5
      have hb5 : Below w.heap.size u1 w5 := ((Below.refl _ _).alloc (by omega) _).grown hgrow (by simp; omega) (fun j hj => (OWN2.out.lt j hj).1)
      have HR5 := toHid (HR1.out.keep (hb5.mono hlt))
      have HB5 := toHid (HB1.out.trans (hb5.mono (Nat.le_of_lt hlt)))
      have HF5 : Hid (Rf b w w5) := fun j hj hn => (hb5.block j hj).trans (HF1.out j hj hn)
      have HO5 : Hid (w5.ownsRow w.heap.size 54 5 (.slice (some ⟨gg, 0, none⟩) (i + 1) cap) (i + 1) (rowG (L.take (i + 1)))) := by
        have e : rowG (L.take (i + 1)) = rowG (L.take i) ++ [.int .i64 y.id, .int .i64 y.frm, .int .i64 y.dst, .string y.typ, .slice none 0 0] := by
          rw [List.take_add_one, HY.out]
          simp [rowG]
        rw [e]
        exact hown5
      clear hown5 hgrow hat5 hlt5 hb5
      go_wp2_with fail
      go_roundg (n - (i + 1))
      case measure => omega
      case rel => exact ⟨i + 1, .slice (some ⟨gg, 0, none⟩) (i + 1) cap, by omega, by omega, rfl, by go_num, HO5.out, HR5.out, HB5.out, HF5.out, fun h => by omega⟩
    · have hil : ¬ (i : Int) < n := by omega
      obtain rfl : i = n := by omega
      have hT : L.take i = L := List.take_of_length_le (by rw [HN.out]; exact Nat.le_refl _)
      have hD : L.drop i = [] := List.drop_eq_nil_of_le (by rw [HN.out]; exact Nat.le_refl _)
      rw [hT] at hown
      rw [hD] at hR
      have HOW := toHid hown
      have HR := toHid hR
      have HF := toHid hf
      clear hown hR hf hT hD
      go_wp2_with fail
      go_ret
      exact ⟨⟨_, rfl, HOW.out, fun h => hnil (by rw [HN.out, h]; rfl)⟩, by simpa using HR.out, hbw, HF.out⟩
end Go.Proofs.YtppbllandnbgbaaGreatDoor
