/-
  What is proved here: what the texts KoR, KoBegin, KrLP, KrEdge prove, in one text.
-/
import Derived.Test.YtldpionmmplncaaDoorQOAR
import Derived.Defers
import Derived.Recover
namespace Go.Proofs.YtldpionmmplncaaDoor
open Go.RowKit
set_option linter.unusedVariables false

theorem box11R {X : World} {b : Nat} {t : TypeId} {u0 u1 u2 u3 u4 u5 u6 u7 u8 u9 u10 : Value} (hb : X.heap[b]? = some (.cells #[u0, u1, u2, u3, u4, u5, u6, u7, u8, u9, u10] t (0, 0))) (h5 : True = True) (v0 v1 v2 v3 v4 v5 v6 v7 v8 v9 v10 : Value) :
    (putL X b 0 [v0, v1, v2, v3, v4, v5, v6, v7, v8, v9, v10]).heap[b]? = some (.cells #[v0, v1, v2, v3, v4, v5, v6, v7, v8, v9, v10] t (0, 0)) := by
  rw [putL_here [v0, v1, v2, v3, v4, v5, v6, v7, v8, v9, v10] 0 X #[u0, u1, u2, u3, u4, u5, u6, u7, u8, u9, u10] hb]
  simp [setL]

set_option maxHeartbeats 4000000 in
set_option maxRecDepth 100000 in
theorem op_gen (b : Nat) (w : World) (bs : List UInt8) (hbw : b < w.heap.size) (h : Rd b w bs 0) :
    Calls Tryd.prog 34 #[.pointer (some ⟨b, 0, none⟩)] w fun e w' => Rd1 b w w' 0 (opP bs) (R1 vOfO OQ) e := by
  have hlt := h.lt
  have hne : w.heap.size ≠ b := by omega
  have kA : Below w.heap.size w (w.alloc (.cells #[.int .i64 0, .int .i64 0, .int .i64 0, .int .i64 0, .string ⟨#[]⟩, .int .i64 0, .int .i64 0, .string ⟨#[]⟩, .slice none 0 0, .slice none 0 0, .slice none 0 0] 38)) := (Below.refl _ _).alloc (Nat.le_refl _) _
  have HR0 := toHid (h.below kA)
  have HA0 := toHid (alloc_new w (.cells #[.int .i64 0, .int .i64 0, .int .i64 0, .int .i64 0, .string ⟨#[]⟩, .int .i64 0, .int .i64 0, .string ⟨#[]⟩, .slice none 0 0, .slice none 0 0, .slice none 0 0] 38))
  have HB0 := toHid (kA.mono (Nat.le_of_lt hlt))
  have HF0 : Hid (Rf b w (w.alloc (.cells #[.int .i64 0, .int .i64 0, .int .i64 0, .int .i64 0, .string ⟨#[]⟩, .int .i64 0, .int .i64 0, .string ⟨#[]⟩, .slice none 0 0, .slice none 0 0, .slice none 0 0] 38))) := Rf.of kA
  have hzA : (w.alloc (.cells #[.int .i64 0, .int .i64 0, .int .i64 0, .int .i64 0, .string ⟨#[]⟩, .int .i64 0, .int .i64 0, .string ⟨#[]⟩, .slice none 0 0, .slice none 0 0, .slice none 0 0] 38)).heap.size = w.heap.size + 1 := by simp
  have z0 : w.heap.size < (w.alloc (.cells #[.int .i64 0, .int .i64 0, .int .i64 0, .int .i64 0, .string ⟨#[]⟩, .int .i64 0, .int .i64 0, .string ⟨#[]⟩, .slice none 0 0, .slice none 0 0, .slice none 0 0] 38)).heap.size := by omega
  clear h hzA
  go_enter Tryd.func34, Tryd.ntmps34
  go_upto_region 1 with fail
  generalize w.alloc (.cells #[.int .i64 0, .int .i64 0, .int .i64 0, .int .i64 0, .string ⟨#[]⟩, .int .i64 0, .int .i64 0, .string ⟨#[]⟩, .slice none 0 0, .slice none 0 0, .slice none 0 0] 38) = u0 at kA HR0 HA0 HB0 HF0 z0 ⊢
  have HC1 := toHid (number_gen b u0 bs 0 HR0.out)
  go_wp2_with fail
  refine HC1.out.mono ?_
  rintro e u1 ⟨⟨x1, l1, v1, ho1, rfl, ⟨rfl, hz1⟩, hR1⟩ | ⟨ho1, rfl⟩, hb1, hf1⟩
  rotate_left
  · have HFt := toHid (HF0.out.trans (Nat.le_of_lt z0) hf1)
    have HBt := toHid (HB0.out.trans hb1)
    have HOT : Hid (opP bs = none) := by show _ = _; simp [opP, ho1]
    go_wp2_with fail
    exact ⟨rfl, .inr ⟨HOT.out, rfl⟩, HBt.out, HFt.out⟩
  have HO1 := toHid ho1
  have HR1 := toHid hR1
  have HB1 := toHid (HB0.out.trans hb1)
  have HF1 := toHid (HF0.out.trans (Nat.le_of_lt z0) hf1)
  have HA1 := toHid ((hf1 w.heap.size z0 hne).trans HA0.out)
  have z1 : w.heap.size < u1.heap.size := (Array.getElem?_eq_some_iff.1 HA1.out).1
  have y1 := hb1.size
  clear hR1 hb1 hf1 HC1 ho1
  have HC2 := toHid (number_gen b u1 l1 0 HR1.out)
  go_wp2_with fail
  refine HC2.out.mono ?_
  rintro e u2 ⟨⟨x2, l2, v2, ho2, rfl, ⟨rfl, hz2⟩, hR2⟩ | ⟨ho2, rfl⟩, hb2, hf2⟩
  rotate_left
  · have HFt := toHid (HF1.out.trans (Nat.le_of_lt z1) hf2)
    have HBt := toHid (HB1.out.trans hb2)
    have HOT : Hid (opP bs = none) := by show _ = _; simp [opP, HO1.out, ho2]
    go_wp2_with fail
    exact ⟨rfl, .inr ⟨HOT.out, rfl⟩, HBt.out, HFt.out⟩
  have HO2 := toHid ho2
  have HR2 := toHid hR2
  have HB2 := toHid (HB1.out.trans hb2)
  have HF2 := toHid (HF1.out.trans (Nat.le_of_lt z1) hf2)
  have HA2 := toHid ((hf2 w.heap.size z1 hne).trans HA1.out)
  have z2 : w.heap.size < u2.heap.size := (Array.getElem?_eq_some_iff.1 HA2.out).1
  have y2 := hb2.size
  clear hR2 hb2 hf2 HC2 ho2
  have HC3 := toHid (number_gen b u2 l2 0 HR2.out)
  go_wp2_with fail
  refine HC3.out.mono ?_
  rintro e u3 ⟨⟨x3, l3, v3, ho3, rfl, ⟨rfl, hz3⟩, hR3⟩ | ⟨ho3, rfl⟩, hb3, hf3⟩
  rotate_left
  · have HFt := toHid (HF2.out.trans (Nat.le_of_lt z2) hf3)
    have HBt := toHid (HB2.out.trans hb3)
    have HOT : Hid (opP bs = none) := by show _ = _; simp [opP, HO1.out, HO2.out, ho3]
    go_wp2_with fail
    exact ⟨rfl, .inr ⟨HOT.out, rfl⟩, HBt.out, HFt.out⟩
  have HO3 := toHid ho3
  have HR3 := toHid hR3
  have HB3 := toHid (HB2.out.trans hb3)
  have HF3 := toHid (HF2.out.trans (Nat.le_of_lt z2) hf3)
  have HA3 := toHid ((hf3 w.heap.size z2 hne).trans HA2.out)
  have z3 : w.heap.size < u3.heap.size := (Array.getElem?_eq_some_iff.1 HA3.out).1
  have y3 := hb3.size
  clear hR3 hb3 hf3 HC3 ho3
  have HC4 := toHid (number_gen b u3 l3 0 HR3.out)
  go_wp2_with fail
  refine HC4.out.mono ?_
  rintro e u4 ⟨⟨x4, l4, v4, ho4, rfl, ⟨rfl, hz4⟩, hR4⟩ | ⟨ho4, rfl⟩, hb4, hf4⟩
  rotate_left
  · have HFt := toHid (HF3.out.trans (Nat.le_of_lt z3) hf4)
    have HBt := toHid (HB3.out.trans hb4)
    have HOT : Hid (opP bs = none) := by show _ = _; simp [opP, HO1.out, HO2.out, HO3.out, ho4]
    go_wp2_with fail
    exact ⟨rfl, .inr ⟨HOT.out, rfl⟩, HBt.out, HFt.out⟩
  have HO4 := toHid ho4
  have HR4 := toHid hR4
  have HB4 := toHid (HB3.out.trans hb4)
  have HF4 := toHid (HF3.out.trans (Nat.le_of_lt z3) hf4)
  have HA4 := toHid ((hf4 w.heap.size z3 hne).trans HA3.out)
  have z4 : w.heap.size < u4.heap.size := (Array.getElem?_eq_some_iff.1 HA4.out).1
  have y4 := hb4.size
  clear hR4 hb4 hf4 HC4 ho4
  have HC5 := toHid (text_gen b u4 l4 0 HR4.out)
  go_wp2_with fail
  refine HC5.out.mono ?_
  rintro e u5 ⟨⟨x5, l5, v5, ho5, rfl, ⟨rfl, hz5⟩, hR5⟩ | ⟨ho5, rfl⟩, hb5, hf5⟩
  rotate_left
  · have HFt := toHid (HF4.out.trans (Nat.le_of_lt z4) hf5)
    have HBt := toHid (HB4.out.trans hb5)
    have HOT : Hid (opP bs = none) := by show _ = _; simp [opP, HO1.out, HO2.out, HO3.out, HO4.out, ho5]
    go_wp2_with fail
    exact ⟨rfl, .inr ⟨HOT.out, rfl⟩, HBt.out, HFt.out⟩
  have HO5 := toHid ho5
  have HR5 := toHid hR5
  have HB5 := toHid (HB4.out.trans hb5)
  have HF5 := toHid (HF4.out.trans (Nat.le_of_lt z4) hf5)
  have HA5 := toHid ((hf5 w.heap.size z4 hne).trans HA4.out)
  have z5 : w.heap.size < u5.heap.size := (Array.getElem?_eq_some_iff.1 HA5.out).1
  have y5 := hb5.size
  clear hR5 hb5 hf5 HC5 ho5
  have HC6 := toHid (value6 b u5 l5 (by omega) HR5.out)
  go_wp2_with fail
  refine HC6.out.mono ?_
  rintro e u6 ⟨⟨x6, l6, v6, ho6, rfl, ⟨p6, rfl, hin6⟩, hR6⟩ | ⟨ho6, rfl⟩, hb6, hf6⟩
  rotate_left
  · have HFt := toHid (HF5.out.trans (Nat.le_of_lt z5) hf6)
    have HBt := toHid (HB5.out.trans hb6)
    have HOT : Hid (opP bs = none) := by show _ = _; simp [opP, HO1.out, HO2.out, HO3.out, HO4.out, HO5.out, ho6]
    go_wp2_with fail
    exact ⟨rfl, .inr ⟨HOT.out, rfl⟩, HBt.out, HFt.out⟩
  have HO6 := toHid ho6
  have HR6 := toHid hR6
  have HB6 := toHid (HB5.out.trans hb6)
  have HF6 := toHid (HF5.out.trans (Nat.le_of_lt z5) hf6)
  have HA6 := toHid ((hf6 w.heap.size z5 hne).trans HA5.out)
  have z6 : w.heap.size < u6.heap.size := (Array.getElem?_eq_some_iff.1 HA6.out).1
  have y6 := hb6.size
  have HIN6 : Hid (VR.In (fun g => w.heap.size < g) u6 p6 x6) := hin6.keeps ⟨Nat.le_refl _, fun g hg hl => ⟨by omega, rfl⟩⟩
  clear hin6
  unfold vOfV
  clear hR6 hb6 hf6 HC6 ho6
  have HC7 := toHid (listS_gen b u6 l6 0 4 (by omega) txP HR6.out (fun W l hl hR => text1 b W l hl hR))
  go_wp2_with fail
  refine HC7.out.mono ?_
  rintro e u7 ⟨⟨x7, l7, v7, ho7, rfl, ⟨P7, hown7, hpr7⟩, hR7⟩ | ⟨ho7, rfl⟩, hb7, hf7⟩
  rotate_left
  · have HFt := toHid (HF6.out.trans (Nat.le_of_lt z6) hf7)
    have HBt := toHid (HB6.out.trans hb7)
    have HOT : Hid (opP bs = none) := by show _ = _; simp [opP, HO1.out, HO2.out, HO3.out, HO4.out, HO5.out, HO6.out, ho7]
    go_wp2_with fail
    exact ⟨rfl, .inr ⟨HOT.out, rfl⟩, HBt.out, HFt.out⟩
  have HO7 := toHid ho7
  have HR7 := toHid hR7
  have HB7 := toHid (HB6.out.trans hb7)
  have HF7 := toHid (HF6.out.trans (Nat.le_of_lt z6) hf7)
  have HA7 := toHid ((hf7 w.heap.size z6 hne).trans HA6.out)
  have z7 : w.heap.size < u7.heap.size := (Array.getElem?_eq_some_iff.1 HA7.out).1
  have y7 := hb7.size
  have HIN6_7 := toHid (HIN6.out.keeps ⟨y7, fun g hg hl => ⟨hg, hf7 g hl (by omega)⟩⟩)
  obtain ⟨a7, c7, rfl, hlc7⟩ := slice_of_row hown7
  have HLN7 := toHid hpr7.1
  obtain ⟨hPX7, hsz7⟩ := sin_all hpr7
  rw [hPX7] at hown7
  have HSZ7 := toHid hsz7
  clear hsz7
  have HOW7 : Hid (u7.ownsRow (w.heap.size + 1) 9 1 (.slice a7 x7.length c7) x7.length (strs x7)) := row_down hown7 (by omega)
  clear hown7 hpr7
  clear hR7 hb7 hf7 HC7 ho7
  have HC8 := toHid (listP_gen b u7 l7 0 6 (by omega) prP HR7.out (fun W l hl hR => prop_gen b W l hl hR))
  go_wp2_with fail
  refine HC8.out.mono ?_
  rintro e u8 ⟨⟨x8, l8, v8, ho8, rfl, ⟨P8, hown8, hpr8⟩, hR8⟩ | ⟨ho8, rfl⟩, hb8, hf8⟩
  rotate_left
  · have HFt := toHid (HF7.out.trans (Nat.le_of_lt z7) hf8)
    have HBt := toHid (HB7.out.trans hb8)
    have HOT : Hid (opP bs = none) := by show _ = _; simp [opP, HO1.out, HO2.out, HO3.out, HO4.out, HO5.out, HO6.out, HO7.out, ho8]
    go_wp2_with fail
    exact ⟨rfl, .inr ⟨HOT.out, rfl⟩, HBt.out, HFt.out⟩
  have HO8 := toHid ho8
  have HR8 := toHid hR8
  have HB8 := toHid (HB7.out.trans hb8)
  have HF8 := toHid (HF7.out.trans (Nat.le_of_lt z7) hf8)
  have HA8 := toHid ((hf8 w.heap.size z7 hne).trans HA7.out)
  have z8 : w.heap.size < u8.heap.size := (Array.getElem?_eq_some_iff.1 HA8.out).1
  have y8 := hb8.size
  have HIN6_8 := toHid (HIN6_7.out.keeps ⟨y8, fun g hg hl => ⟨hg, hf8 g hl (by omega)⟩⟩)
  have HOW7_8 := toHid (row_keep HOW7.out (w' := u8) (fun g hg hl => hf8 g hl (by have := (HOW7.out.lt g hg).1; omega)))
  obtain ⟨a8, c8, rfl, hlc8⟩ := slice_of_row hown8
  have HLN8 := toHid hpr8.1
  have HOW8 : Hid (u8.ownsRow (w.heap.size + 1) 63 5 (.slice a8 x8.length c8) x8.length (rowP P8)) := row_down hown8 (by omega)
  have HPR8 : Hid (Pair2 (PrIn (fun g => w.heap.size < g) u8) P8 x8) := hpr8.mono fun p x _ _ hp => hp.keeps ⟨Nat.le_refl _, fun g hg hl => ⟨by omega, rfl⟩⟩
  clear hown8 hpr8
  clear hR8 hb8 hf8 HC8 ho8
  have f0 := free_of HA8.out 0
  have f1 := free_of HA8.out 1
  have f2 := free_of HA8.out 2
  have f3 := free_of HA8.out 3
  have f4 := free_of HA8.out 4
  have f5 := free_of HA8.out 5
  have f6 := free_of HA8.out 6
  have f7 := free_of HA8.out 7
  have f8 := free_of HA8.out 8
  have f9 := free_of HA8.out 9
  have f10 := free_of HA8.out 10
  have d0 := cell_of HA8.out 0
  have d1 := cell_of HA8.out 1
  have d2 := cell_of HA8.out 2
  have d3 := cell_of HA8.out 3
  have d4 := cell_of HA8.out 4
  have d5 := cell_of HA8.out 5
  have d6 := cell_of HA8.out 6
  have d7 := cell_of HA8.out 7
  have d8 := cell_of HA8.out 8
  have d9 := cell_of HA8.out 9
  have d10 := cell_of HA8.out 10
  simp at d0 d1 d2 d3 d4 d5 d6 d7 d8 d9 d10
  go_wp2_with fail
  have eP : ((((((((((u8.setCell ⟨w.heap.size, 0, none⟩ (.int .i64 x1)).setCell ⟨w.heap.size, 1, none⟩ (.int .i64 x2)).setCell ⟨w.heap.size, 2, none⟩ (.int .i64 x3)).setCell ⟨w.heap.size, 3, none⟩ (.int .i64 x4)).setCell ⟨w.heap.size, 4, none⟩ (.string x5)).setCell ⟨w.heap.size, 5, none⟩ (.int .i64 p6.k)).setCell ⟨w.heap.size, 6, none⟩ (.int .i64 p6.n)).setCell ⟨w.heap.size, 7, none⟩ (.string p6.s)).setCell ⟨w.heap.size, 8, none⟩ (.slice p6.a p6.l p6.c)).setCell ⟨w.heap.size, 9, none⟩ (.slice a7 x7.length c7)).setCell ⟨w.heap.size, 10, none⟩ (.slice a8 x8.length c8) = putL u8 w.heap.size 0 [.int .i64 x1, .int .i64 x2, .int .i64 x3, .int .i64 x4, .string x5, .int .i64 p6.k, .int .i64 p6.n, .string p6.s, .slice p6.a p6.l p6.c, .slice a7 x7.length c7, .slice a8 x8.length c8] := rfl
  rw [eP]
  have EBX := box11R HA8.out rfl (.int .i64 x1) (.int .i64 x2) (.int .i64 x3) (.int .i64 x4) (.string x5) (.int .i64 p6.k) (.int .i64 p6.n) (.string p6.s) (.slice p6.a p6.l p6.c) (.slice a7 x7.length c7) (.slice a8 x8.length c8)
  have hbY : Below w.heap.size u8 (putL u8 w.heap.size 0 [.int .i64 x1, .int .i64 x2, .int .i64 x3, .int .i64 x4, .string x5, .int .i64 p6.k, .int .i64 p6.n, .string p6.s, .slice p6.a p6.l p6.c, .slice a7 x7.length c7, .slice a8 x8.length c8]) := putL_bel w.heap.size _ _ u8
  have hYo : ∀ j, j ≠ w.heap.size → (putL u8 w.heap.size 0 [.int .i64 x1, .int .i64 x2, .int .i64 x3, .int .i64 x4, .string x5, .int .i64 p6.k, .int .i64 p6.n, .string p6.s, .slice p6.a p6.l p6.c, .slice a7 x7.length c7, .slice a8 x8.length c8]).heap[j]? = u8.heap[j]? := fun j hj => putL_other _ _ _ _ j hj
  generalize putL u8 w.heap.size 0 [.int .i64 x1, .int .i64 x2, .int .i64 x3, .int .i64 x4, .string x5, .int .i64 p6.k, .int .i64 p6.n, .string p6.s, .slice p6.a p6.l p6.c, .slice a7 x7.length c7, .slice a8 x8.length c8] = Y at EBX hbY hYo ⊢
  have t0 := cell_of EBX 0
  have t1 := cell_of EBX 1
  have t2 := cell_of EBX 2
  have t3 := cell_of EBX 3
  have t4 := cell_of EBX 4
  have t5 := cell_of EBX 5
  have t6 := cell_of EBX 6
  have t7 := cell_of EBX 7
  have t8 := cell_of EBX 8
  have t9 := cell_of EBX 9
  have t10 := cell_of EBX 10
  simp at t0 t1 t2 t3 t4 t5 t6 t7 t8 t9 t10
  have HINY6 := toHid (HIN6_8.out.keeps (A' := fun g => w.heap.size ≤ g) ⟨hbY.size, fun g hg hl => ⟨by omega, hYo g (by omega)⟩⟩)
  have HOWY7 := toHid (row_keep HOW7_8.out (w' := Y) (fun g hg hl => hYo g (by have := (HOW7_8.out.lt g hg).1; omega)))
  have HOWY8 := toHid (row_keep HOW8.out (w' := Y) (fun g hg hl => hYo g (by have := (HOW8.out.lt g hg).1; omega)))
  have HPRY8 := toHid (HPR8.out.mono fun p x _ _ hp => hp.keeps (A' := fun g => w.heap.size ≤ g) ⟨hbY.size, fun g hg hl => ⟨by omega, hYo g (by omega)⟩⟩)
  have HFIN : Hid (opP bs = some (⟨x1, x2, x3, x4, ⟨x5, x6⟩, x7, x8⟩, l8)) := by show _ = _; simp [opP, HO1.out, HO2.out, HO3.out, HO4.out, HO5.out, HO6.out, HO7.out, HO8.out]
  exact bodyPost_ret (v := .agg #[.int .i64 x1, .int .i64 x2, .int .i64 x3, .int .i64 x4, .string x5, .int .i64 p6.k, .int .i64 p6.n, .string p6.s, .slice p6.a p6.l p6.c, .slice a7 x7.length c7, .slice a8 x8.length c8]) (by simp [results, Tryd.results34, go_sem, t0, t1, t2, t3, t4, t5, t6, t7, t8, t9, t10]) rfl ⟨.inl ⟨_, _, _, HFIN.out, rfl, ⟨⟨x1, x2, x3, x4, ⟨x5, p6.k, p6.n, p6.s, p6.a, p6.l, p6.c, 0⟩, x7, a7, x7.length, c7, P8, a8, x8.length, c8⟩, rfl, ⟨⟨rfl, hz1⟩, ⟨rfl, hz2⟩, ⟨rfl, hz3⟩, ⟨rfl, hz4⟩⟩, (by obtain ⟨L, q1, q2, q3, q4⟩ := HINY6.out; exact ⟨rfl, by show x5.size ≤ _; omega, q2, q3, L, q1, q4⟩), rfl, row_down HOWY7.out (Nat.zero_le _), fun g hg => by have := (HOWY7.out.lt g hg).1; omega, HSZ7.out, by show Y.ownsRow 0 _ 5 (.slice a8 x8.length c8) P8.length _; rw [HLN8.out]; exact row_down HOWY8.out (Nat.zero_le _), fun g hg => by have := (HOWY8.out.lt g hg).1; omega, HPRY8.out⟩, HR8.out.keep (hbY.mono hlt)⟩, HB8.out.trans (hbY.mono (Nat.le_of_lt hlt)), fun j hj hn => (hbY.block j hj).trans (HF8.out j hj hn)⟩

theorem begin_idleO (w : World) : CallsD Tryd.prog 32 #[] .returning w fun e u' w' => e = .returned (.tuple #[]) ∧ u' = .returning ∧ w' = w := by
  refine callsD_of_wpS Tryd.func32 rfl fun c₀ cs hu => ?_
  have hnil : ∀ w, (binOp .eql 20 .nilIface .nilIface).run Tryd.prog w = .ok (.bool true) w := fun w => run_eql_nil_nil w 20 (by kernel_rfl)
  apply wpS_seq
  apply wpS_region
  simp [wpOpsS, go_sem, recoverD, hu, Tryd.ntmps32, Exit.thenS]
  apply wpS_seq
  apply wpS_seq
  apply wpS_region
  simp [wpOpsS, go_sem, Exit.thenS, hnil]
  refine wpS_cond (t := true) (by simp [Act.eval]) ?_
  simp only [if_true]
  refine wpS_of_wp (wp_ret ?_)
  simp only [Exit.thenS]
  cases c₀
  simp_all [bodyPostS, results, Tryd.results32]

set_option maxRecDepth 100000 in
theorem begin_catchO (w : World) : CallsD Tryd.prog 32 #[] (.panicking TORN) w fun e u' w' => e = .returned (.tuple #[]) ∧ u' = .panicking [{ v := .iface 79 (.agg #[]), recovered := true }] ∧ Below w.heap.size w w' := by
  refine callsD_of_wpS Tryd.func32 rfl fun c₀ cs hu => ?_
  unfold TORN at hu
  have hnil : ∀ w, (binOp .eql 20 (.iface 79 (.agg #[])) .nilIface).run Tryd.prog w = .ok (.bool false) w := fun w => by rfl
  have hta : ∀ w, (Instr.typeAssert (.iface 79 (.agg #[])) 20 79 true).run Tryd.prog w = .ok (.tuple #[.agg #[], .bool true]) w := fun w => by rfl
  apply wpS_seq
  apply wpS_region
  simp [wpOpsS, go_sem, recoverD, hu, Tryd.ntmps32, Exit.thenS]
  apply wpS_seq
  apply wpS_seq
  apply wpS_region
  simp [wpOpsS, go_sem, Exit.thenS, hnil]
  refine wpS_cond (t := false) (by simp [Act.eval]) ?_
  simp only [Bool.false_eq_true, if_false]
  refine wpS_of_wp (wp_skip ?_)
  simp only [Exit.thenS]
  refine wpS_of_wp ?_
  go_wp2_with fail
  have hbl : Below w.heap.size w (w.alloc (.cells #[] 79)) := (Below.refl _ _).alloc (Nat.le_refl _) _
  have HBL := toHid hbl
  clear hbl
  simp [bodyPostS, results, Tryd.results32]
  exact HBL.out

set_option maxHeartbeats 4000000 in
set_option maxRecDepth 100000 in
theorem rops_gen (b : Nat) (w : World) (bs : List UInt8) (hbw : b < w.heap.size) (h : Rd b w bs 0) :
    Calls Tryd.prog 13 #[.pointer (some ⟨b, 0, none⟩)] w fun e w' => Rd1 b w w' 0 (osP bs) RLO e := by
  have HC := toHid (listO_gen b w bs 0 20 (by omega) opP h (fun W l hl hR => op_gen b W l hl hR))
  clear h
  go_enter Tryd.func13, Tryd.ntmps13
  go_wp2_with fail
  refine HC.out.mono ?_
  rintro e u1 ⟨⟨x1, l1, v1, ho1, rfl, hRL, hR1⟩ | ⟨ho1, rfl⟩, hb1, hf1⟩
  · have HRL := toHid hRL
    have HR1 := toHid hR1
    have HO1 := toHid ho1
    have HF1 := toHid hf1
    clear hRL hR1 ho1 hf1 HC
    go_wp2_with fail
    go_ret
    exact ⟨.inl ⟨_, _, _, HO1.out, rfl, HRL.out, HR1.out⟩, hb1, HF1.out⟩
  · have HF1 := toHid hf1
    have HO1 := toHid ho1
    clear hf1 ho1 HC
    go_wp2_with fail
    exact ⟨rfl, .inr ⟨HO1.out, rfl⟩, hb1, HF1.out⟩

/-- What begin answers. -/
def BgEndO (b : Nat) (w w' : World) (o : Option (List AO × List UInt8)) (e : Ending) : Prop :=
  ((∃ x r v, o = some (x, r) ∧ e = .returned (.tuple #[v, .bool true]) ∧ RLO w w' x v) ∨ (o = none ∧ e = .returned (.tuple #[.slice none 0 0, .bool false]))) ∧ Below b w w' ∧ Rf b w w'

set_option maxHeartbeats 4000000 in
set_option maxRecDepth 100000 in
theorem beginO_gen (b : Nat) (w : World) (bs : List UInt8) (h : Rd b w bs 0) :
    Calls Tryd.prog 12 #[.func (.func 13) #[.pointer (some ⟨b, 0, none⟩)] #[]] w fun e w' => BgEndO b w w' (osP bs) e := by
  have hlt := h.lt
  have HG := toHid (rops_gen b w bs hlt h)
  clear h
  go_enter_defers Tryd.func12, Tryd.ntmps12
  go_wp2_with fail
  refine HG.out.mono ?_
  rintro e u1 ⟨⟨x, r, v, ho, rfl, hRL, hR1⟩ | ⟨ho, rfl⟩, hb1, hf1⟩
  · have HF1 := toHid hf1
    have HRL := toHid hRL
    have HB1 := toHid hb1
    have HO := toHid ho
    clear hR1 hb1 hf1 HG ho hRL
    go_wp2_with fail
    refine leaves_cons (f := 32) (args := #[]) (by simp) (by simp [go_sem]) ?_
    refine (begin_idleO _).mono ?_
    rintro e u' w'' ⟨rfl, rfl, rfl⟩
    have HFIN : Hid (BgEndO b w w'' (osP bs) (.returned (.tuple #[v, .bool true]))) := ⟨.inl ⟨_, _, _, HO.out, rfl, HRL.out⟩, HB1.out, HF1.out⟩
    simp [Leaves, settle, results, Tryd.results12, go_sem]
    exact HFIN.out
  · have HF1 := toHid hf1
    have HB1 := toHid hb1
    have HO := toHid ho
    clear hb1 hf1 HG ho
    go_wp2_with fail
    refine leaves_cons (f := 32) (args := #[]) (by simp) (by simp [go_sem]) ?_
    refine (begin_catchO _).mono ?_
    rintro e u' w'' ⟨rfl, rfl, k2⟩
    have HFIN : Hid (BgEndO b w w'' (osP bs) (.returned (.tuple #[.slice none 0 0, .bool false]))) := ⟨.inr ⟨HO.out, rfl⟩, HB1.out.trans (k2.mono (Nat.le_trans (Nat.le_of_lt hlt) HB1.out.size)), fun j hj hn => (k2.block j (Nat.lt_of_lt_of_le hj HB1.out.size)).trans (HF1.out j hj hn)⟩
    simp [Leaves, settle, results, Tryd.results12, go_sem]
    exact HFIN.out

theorem infoRP0 : (Tryd.prog.info? 63).map (fun i => (i.zero, i.size, i.bytes)) = some (some (.agg #[.string ⟨#[]⟩, .int .i64 0, .int .i64 0, .string ⟨#[]⟩, .slice none 0 0]), 5, 72) := by kernel_rfl
theorem infoRP : ∃ i, Tryd.prog.info? 63 = some i ∧ i.zero = some (.agg #[.string ⟨#[]⟩, .int .i64 0, .int .i64 0, .string ⟨#[]⟩, .slice none 0 0]) ∧ i.size = 5 ∧ i.bytes = 72 := by
  obtain ⟨i, h, e⟩ := Option.map_eq_some_iff.1 infoRP0
  simp only [Prod.mk.injEq] at e
  exact ⟨i, h, e⟩

set_option maxHeartbeats 4000000 in
set_option maxRecDepth 100000 in
theorem rlistP_any (b : Nat) (w : World) (L : List (ByteArray × Int)) (r : List UInt8) (d : Int) (most : Nat) (hmost : L.length ≤ most) (hm : most ≤ 1000) (hok : ∀ y ∈ L, y.1.size ≤ 1000000 ∧ 0 ≤ y.2 ∧ y.2 ≤ 1099511627776) (h : Rd b w (eaB (fun p => pB (flatP p)) L ++ r) d) :
    Calls Tryd.prog 55 #[.pointer (some ⟨b, 0, none⟩), .int .i64 most, .func (.func 56) #[.pointer (some ⟨b, 0, none⟩)] #[]] w fun e w' => (∃ v, e = .returned v ∧ w'.ownsRow w.heap.size 63 5 v L.length (rowF L) ∧ (L = [] → v = .slice none 0 0)) ∧ Rd b w' r d ∧ Below b w w' ∧ Rf b w w' := by
  have hlt := h.lt
  have h' : Rd b w (bts L.length ++ ((L.map (fun p => pB (flatP p))).flatten ++ r)) d := by unfold eaB at h; rw [List.append_assoc] at h; exact h
  have HB := toHid (rbits_any b w L.length _ d (by omega) h')
  have HOK := toHid hok
  obtain ⟨i0, hi0, hiz, his, hib⟩ := infoRP
  have HI0 := toHid hi0
  have HIZ := toHid hiz
  have HIS := toHid his
  have HIB := toHid hib
  obtain ⟨n, hn⟩ : ∃ n, n = L.length := ⟨_, rfl⟩
  rw [← hn] at hmost HB
  rw [← hn]
  have HN := toHid hn
  clear h h' hok hi0 hiz his hib hn
  have hle : ¬ (most : Int) < n := by omega
  go_enter Tryd.func55, Tryd.ntmps55
  go_wp2_with fail
  refine HB.out.mono ?_
  rintro e w1 ⟨rfl, hR1, hb1, hf1⟩
  have HR1 := toHid hR1
  have HF1 := toHid hf1
  clear hR1 hf1 HB
  go_wp2_with fail
  rw [show decide (most < n) = false from decide_eq_false (by omega)]
  go_loopg [8, 18] n (fun g s8 s18 wr => ∃ (i : Nat) (ov : Value), i ≤ n ∧ n - i ≤ g ∧ ov = s8 ∧ s18 = .int .u64 i ∧ wr.ownsRow w.heap.size 63 5 ov i (rowF (L.take i)) ∧ Rd b wr (((L.drop i).map (fun p => pB (flatP p))).flatten ++ r) d ∧ Below b w wr ∧ Rf b w wr ∧ (i = 0 → ov = .slice none 0 0))
  case atStart => exact ⟨0, _, Nat.zero_le _, by omega, rfl, by go_num, World.ownsRow_nil _ _ _ _, by simpa using HR1.out, hb1, HF1.out, fun _ => rfl⟩
  case round =>
    clear HR1 HF1 hb1
    obtain ⟨i, ov, hi, hg, rfl, rfl, hown, hR, hbw, hf, hnil⟩ := hrel
    have hsz := hbw.size
    by_cases hlt2 : i < n
    · obtain ⟨y, hy⟩ : ∃ y, L[i]? = some y := ⟨L[i]'(by rw [← HN.out]; exact hlt2), List.getElem?_eq_getElem _⟩
      have hd : L.drop i = y :: L.drop (i + 1) := by
        obtain ⟨hl, rfl⟩ := List.getElem?_eq_some_iff.1 hy
        exact List.drop_eq_getElem_cons hl
      have hyo := HOK.out y (List.mem_of_getElem? hy)
      have hR' : Rd b wr ((fun p => pB (flatP p)) y ++ (((L.drop (i + 1)).map (fun p => pB (flatP p))).flatten ++ r)) d := by rw [hd] at hR; simpa [List.append_assoc] using hR
      have HC := toHid (rprop_any b wr y _ d hyo hR')
      have HOW := toHid hown
      have HF := toHid hf
      have HY := toHid hy
      have hil : (i : Int) < n := by omega
      have hiw : IntKind.u64.wrap ((i : Int) + 1) = (i : Int) + 1 := by rw [IntKind.wrap_u64]; omega
      clear hR hR' hown hf hd hyo hy
      go_wp2_with fail
      refine HC.out.mono ?_
      rintro e u1 ⟨rfl, hR1, hb1, hf1⟩
      have hs1 := hb1.size
      have HR1 := toHid hR1
      have HB1 := toHid (hbw.trans hb1)
      have HF1 := toHid (HF.out.trans hsz hf1)
      have OWN2 := toHid (row_keep HOW.out (w' := u1) (fun g hg hl => hf1 g hl (by have := (HOW.out.lt g hg).1; omega)))
      have HBy : (i + 1) * 72 ≤ 140737488355328 := by omega
      have HBm : i + 1 ≤ maxLen := by unfold maxLen; omega
      clear hR1 hb1 hf1 HC HF
      go_wp2_with (at_builtin; refine wpList_append_lies _ rfl _ _ 36 rfl w.heap.size 63 i0 _ 5 72 Tryd.underlying36 HI0.out HIZ.out HIS.out HIB.out rfl (by omega) ov i (rowF (L.take i)) rfl (OWN2.out.alloc _) ⟨u1.heap.size, 0, none⟩ 1 1 [.string y.1, .int .i64 2, .int .i64 y.2, .string ⟨#[]⟩, .slice none 0 0] rfl rfl (World.news_of_block (cs := #[.string y.1, .int .i64 2, .int .i64 y.2, .string ⟨#[]⟩, .slice none 0 0]) (t := 63) (fr := (0, 0)) (alloc_new u1 _)) (by simp [Value.oneCell']) (by omega) HBm HBy (by simp; omega) (u1.heap.size + 1) (by simp) ?_)
      intro gg cap w5 hown5 hgrow hat5 hlt5
      have hb5 : Below w.heap.size u1 w5 := ((Below.refl _ _).alloc (by omega) _).grown hgrow (by simp; omega) (fun j hj => (OWN2.out.lt j hj).1)
      have HR5 := toHid (HR1.out.keep (hb5.mono hlt))
      have HB5 := toHid (HB1.out.trans (hb5.mono (Nat.le_of_lt hlt)))
      have HF5 : Hid (Rf b w w5) := fun j hj hn => (hb5.block j hj).trans (HF1.out j hj hn)
      have HO5 : Hid (w5.ownsRow w.heap.size 63 5 (.slice (some ⟨gg, 0, none⟩) (i + 1) cap) (i + 1) (rowF (L.take (i + 1)))) := by
        have e : rowF (L.take (i + 1)) = rowF (L.take i) ++ [.string y.1, .int .i64 2, .int .i64 y.2, .string ⟨#[]⟩, .slice none 0 0] := by
          rw [List.take_add_one, HY.out]
          simp [rowF]
        rw [e]
        exact hown5
      clear hown5 hgrow hat5 hlt5 hb5
      go_wp2_with fail
      go_roundg (n - (i + 1))
      case measure => omega
      case rel => exact ⟨i + 1, .slice (some ⟨gg, 0, none⟩) (i + 1) cap, by omega, by omega, rfl, by go_num, HO5.out, HR5.out, HB5.out, HF5.out, fun h => by omega⟩
    · have hil : ¬ (i : Int) < n := by omega
      obtain rfl : i = n := by omega
      have hT : L.take i = L := List.take_of_length_le (by rw [HN.out]; exact Nat.le_refl _)
      have hD : L.drop i = [] := List.drop_eq_nil_of_le (by rw [HN.out]; exact Nat.le_refl _)
      rw [hT] at hown
      rw [hD] at hR
      have HOW := toHid hown
      have HR := toHid hR
      have HF := toHid hf
      clear hown hR hf hT hD
      go_wp2_with fail
      go_ret
      exact ⟨⟨_, rfl, HOW.out, fun h => hnil (by rw [HN.out, h]; rfl)⟩, by simpa using HR.out, hbw, HF.out⟩

/-- An edge without properties. -/
structure FE where
  id : Int
  frm : Int
  dst : Int
  typ : ByteArray
def FE.ae (x : FE) : AE := ⟨x.id, x.frm, x.dst, x.typ, []⟩
def rowG (P : List FE) : List Value := (P.map fun x => [Value.int .i64 x.id, .int .i64 x.frm, .int .i64 x.dst, .string x.typ, .slice none 0 0]).flatten
def FE.small (x : FE) : Prop := (0 ≤ x.id ∧ x.id ≤ 1099511627776) ∧ (0 ≤ x.frm ∧ x.frm ≤ 1099511627776) ∧ (0 ≤ x.dst ∧ x.dst ≤ 1099511627776) ∧ x.typ.size ≤ 1000000

set_option maxHeartbeats 4000000 in
set_option maxRecDepth 100000 in
theorem redge_any (b : Nat) (w : World) (y : FE) (r : List UInt8) (d : Int) (hy : y.small) (h : Rd b w (eB y.ae ++ r) d) :
    Calls Tryd.prog 67 #[.pointer (some ⟨b, 0, none⟩)] w fun e w' => e = .returned (.agg #[.int .i64 y.id, .int .i64 y.frm, .int .i64 y.dst, .string y.typ, .slice none 0 0]) ∧ Rd b w' r d ∧ Below b w w' ∧ Rf b w w' := by
  have hlt := h.lt
  have hne : w.heap.size ≠ b := by omega
  have hsp : eB y.ae ++ r = numB y.id ++ (numB y.frm ++ (numB y.dst ++ (txB y.typ ++ (eaB (fun p => pB (flatP p)) [] ++ r)))) := by unfold eB FE.ae; simp [eaB]
  rw [hsp] at h
  clear hsp
  have kA : Below w.heap.size w (w.alloc (.cells #[.int .i64 0, .int .i64 0, .int .i64 0, .string ⟨#[]⟩, .slice none 0 0] 89)) := (Below.refl _ _).alloc (Nat.le_refl _) _
  have HR0 := toHid (h.below kA)
  have HA0 := toHid (alloc_new w (.cells #[.int .i64 0, .int .i64 0, .int .i64 0, .string ⟨#[]⟩, .slice none 0 0] 89))
  have HB0 := toHid (kA.mono (Nat.le_of_lt hlt))
  have HF0 : Hid (Rf b w (w.alloc (.cells #[.int .i64 0, .int .i64 0, .int .i64 0, .string ⟨#[]⟩, .slice none 0 0] 89))) := Rf.of kA
  have hzA : (w.alloc (.cells #[.int .i64 0, .int .i64 0, .int .i64 0, .string ⟨#[]⟩, .slice none 0 0] 89)).heap.size = w.heap.size + 1 := by simp
  have z0 : w.heap.size < (w.alloc (.cells #[.int .i64 0, .int .i64 0, .int .i64 0, .string ⟨#[]⟩, .slice none 0 0] 89)).heap.size := by omega
  clear h hzA
  go_enter Tryd.func67, Tryd.ntmps67
  go_upto_region 1 with fail
  generalize w.alloc (.cells #[.int .i64 0, .int .i64 0, .int .i64 0, .string ⟨#[]⟩, .slice none 0 0] 89) = u0 at kA HR0 HA0 HB0 HF0 z0 ⊢
  have HC1 := toHid (rnumber_any b u0 y.id _ d hy.1.1 hy.1.2 HR0.out)
  go_wp2_with fail
  refine HC1.out.mono ?_
  rintro e u1 ⟨rfl, hR1, hb1, hf1⟩
  have HR1 := toHid hR1
  have HB1 := toHid (HB0.out.trans hb1)
  have HF1 := toHid (HF0.out.trans (Nat.le_of_lt z0) hf1)
  have HA1 := toHid ((hf1 w.heap.size z0 hne).trans HA0.out)
  have z1 : w.heap.size < u1.heap.size := (Array.getElem?_eq_some_iff.1 HA1.out).1
  clear hR1 hb1 hf1 HC1
  have HC2 := toHid (rnumber_any b u1 y.frm _ d hy.2.1.1 hy.2.1.2 HR1.out)
  go_wp2_with fail
  refine HC2.out.mono ?_
  rintro e u2 ⟨rfl, hR2, hb2, hf2⟩
  have HR2 := toHid hR2
  have HB2 := toHid (HB1.out.trans hb2)
  have HF2 := toHid (HF1.out.trans (Nat.le_of_lt z1) hf2)
  have HA2 := toHid ((hf2 w.heap.size z1 hne).trans HA1.out)
  have z2 : w.heap.size < u2.heap.size := (Array.getElem?_eq_some_iff.1 HA2.out).1
  clear hR2 hb2 hf2 HC2
  have HC3 := toHid (rnumber_any b u2 y.dst _ d hy.2.2.1.1 hy.2.2.1.2 HR2.out)
  go_wp2_with fail
  refine HC3.out.mono ?_
  rintro e u3 ⟨rfl, hR3, hb3, hf3⟩
  have HR3 := toHid hR3
  have HB3 := toHid (HB2.out.trans hb3)
  have HF3 := toHid (HF2.out.trans (Nat.le_of_lt z2) hf3)
  have HA3 := toHid ((hf3 w.heap.size z2 hne).trans HA2.out)
  have z3 : w.heap.size < u3.heap.size := (Array.getElem?_eq_some_iff.1 HA3.out).1
  clear hR3 hb3 hf3 HC3
  have HC4 := toHid (rtext_any b u3 y.typ _ d hy.2.2.2 HR3.out)
  go_wp2_with fail
  refine HC4.out.mono ?_
  rintro e u4 ⟨rfl, hR4, hb4, hf4⟩
  have HR4 := toHid hR4
  have HB4 := toHid (HB3.out.trans hb4)
  have HF4 := toHid (HF3.out.trans (Nat.le_of_lt z3) hf4)
  have HA4 := toHid ((hf4 w.heap.size z3 hne).trans HA3.out)
  have z4 : w.heap.size < u4.heap.size := (Array.getElem?_eq_some_iff.1 HA4.out).1
  clear hR4 hb4 hf4 HC4
  have HC5 := toHid (rlistP_any b u4 [] _ d 6 (by simp) (by omega) (by simp) HR4.out)
  go_wp2_with fail
  refine HC5.out.mono ?_
  rintro e u5 ⟨⟨vv, rfl, _, hnil⟩, hR5, hb5, hf5⟩
  obtain rfl := hnil (by first | rfl | trivial)
  have HR5 := toHid hR5
  have HB5 := toHid (HB4.out.trans hb5)
  have HF5 := toHid (HF4.out.trans (Nat.le_of_lt z4) hf5)
  have HA5 := toHid ((hf5 w.heap.size z4 hne).trans HA4.out)
  have z5 : w.heap.size < u5.heap.size := (Array.getElem?_eq_some_iff.1 HA5.out).1
  clear hR5 hb5 hf5 HC5
  have f0 := free_of HA5.out 0
  have f1 := free_of HA5.out 1
  have f2 := free_of HA5.out 2
  have f3 := free_of HA5.out 3
  have f4 := free_of HA5.out 4
  have d0 := cell_of HA5.out 0
  have d1 := cell_of HA5.out 1
  have d2 := cell_of HA5.out 2
  have d3 := cell_of HA5.out 3
  have d4 := cell_of HA5.out 4
  simp at d0 d1 d2 d3 d4
  go_wp2_with fail
  have eP : ((((u5.setCell ⟨w.heap.size, 0, none⟩ (.int .i64 y.id)).setCell ⟨w.heap.size, 1, none⟩ (.int .i64 y.frm)).setCell ⟨w.heap.size, 2, none⟩ (.int .i64 y.dst)).setCell ⟨w.heap.size, 3, none⟩ (.string y.typ)).setCell ⟨w.heap.size, 4, none⟩ (.slice none 0 0) = putL u5 w.heap.size 0 [.int .i64 y.id, .int .i64 y.frm, .int .i64 y.dst, .string y.typ, .slice none 0 0] := rfl
  rw [eP]
  have EBX := box5R HA5.out rfl (.int .i64 y.id) (.int .i64 y.frm) (.int .i64 y.dst) (.string y.typ) (.slice none 0 0)
  have hbY : Below w.heap.size u5 (putL u5 w.heap.size 0 [.int .i64 y.id, .int .i64 y.frm, .int .i64 y.dst, .string y.typ, .slice none 0 0]) := putL_bel w.heap.size _ _ u5
  have hYo : ∀ j, j ≠ w.heap.size → (putL u5 w.heap.size 0 [.int .i64 y.id, .int .i64 y.frm, .int .i64 y.dst, .string y.typ, .slice none 0 0]).heap[j]? = u5.heap[j]? := fun j hj => putL_other _ _ _ _ j hj
  generalize putL u5 w.heap.size 0 [.int .i64 y.id, .int .i64 y.frm, .int .i64 y.dst, .string y.typ, .slice none 0 0] = Y at EBX hbY hYo ⊢
  have t0 := cell_of EBX 0
  have t1 := cell_of EBX 1
  have t2 := cell_of EBX 2
  have t3 := cell_of EBX 3
  have t4 := cell_of EBX 4
  simp at t0 t1 t2 t3 t4
  exact bodyPost_ret (v := .agg #[.int .i64 y.id, .int .i64 y.frm, .int .i64 y.dst, .string y.typ, .slice none 0 0]) (by simp [results, Tryd.results67, go_sem, t0, t1, t2, t3, t4]) rfl ⟨rfl, HR5.out.keep (hbY.mono hlt), HB5.out.trans (hbY.mono (Nat.le_of_lt hlt)), fun j hj hn => (hbY.block j hj).trans (HF5.out j hj hn)⟩
end Go.Proofs.YtldpionmmplncaaDoor
