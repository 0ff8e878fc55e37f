/-
  What is proved here: the law ValueReckon answers true, given that value.Reckon and espalierref.ReckonOf answer the same.
-/
import Derived.Test.YtekkifljcppmlaaGreatDoorVJoin
import Derived.Test.YtekkifljcppmlaaGreatDoorRMB
import Derived.Deep.RegionHeld3
namespace Go.Proofs.YtekkifljcppmlaaGreatDoor
open Go.RowKit
set_option linter.unusedVariables false

set_option maxHeartbeats 8000000 in
set_option maxRecDepth 100000 in
theorem law_reckon_of (B : Nat) (sg : ByteArray) (k n : Int) (s : ByteArray) (a : Option Addr) (l c : Nat) (k' n' : Int) (s' : ByteArray) (a' : Option Addr) (l' c' : Nat) (rk rn : Int) (rs : ByteArray) (RL : List T) (er : Int) (w : World) (hB : B ≤ w.heap.size) (hT : Tabs B w) (hP : Pow10 B w) (hw : wtL RL ≤ 1099511627776)
    (hR0 : ∀ W, Below w.heap.size w W → Calls Tryz.prog 5 #[.string sg, .agg #[.int .i64 k, .int .i64 n, .string s, .slice a l c], .agg #[.int .i64 k', .int .i64 n', .string s', .slice a' l' c']] W fun e w' => AnsV w' rk rn rs RL er e ∧ Below W.heap.size W w')
    (hF0 : ∀ W, Below w.heap.size w W → Calls Tryz.prog 6 #[.string sg, .agg #[.int .i64 k, .int .i64 n, .string s, .slice a l c], .agg #[.int .i64 k', .int .i64 n', .string s', .slice a' l' c']] W fun e w' => AnsV w' rk rn rs RL er e ∧ Below W.heap.size W w') :
    Calls Tryz.prog 3 #[.string sg, .agg #[.int .i64 k, .int .i64 n, .string s, .slice a l c], .agg #[.int .i64 k', .int .i64 n', .string s', .slice a' l' c']] w fun e w' => e = .returned (.bool true) ∧ Below w.heap.size w w' := by
  have HR := toHid hR0
  have HF := toHid hF0
  have HV : Hid (∀ W, Below w.heap.size w W → Calls Tryz.prog 7 #[] W fun e w' => e = .returned (.bool true) ∧ Below W.heap.size W w') := fun W kW => valued_true B W (by have := kW.size; omega) (hT.below (kW.mono hB)) (hP.below (kW.mono hB))
  have HS : Hid (∀ (a : Option Addr) (l c : Nat) (a' : Option Addr) (l' c' : Nat) W, LiesS W RL a l → LiesS W RL a' l' → Calls Tryz.prog 8 #[.agg #[.int .i64 rk, .int .i64 rn, .string rs, .slice a l c], .agg #[.int .i64 rk, .int .i64 rn, .string rs, .slice a' l' c']] W fun e w' => e = .returned (.bool true) ∧ Below W.heap.size W w') := fun a l c a' l' c' W h h' => same_copy rk rn rs RL a l c a' l' c' W hw h h'
  clear hR0 hF0 hT hP hw
  have q1 := (Below.heap_alloc (w.alloc (.cells #[.int .i64 k, .int .i64 n, .string s, .slice a l c] 24)) (.cells #[.int .i64 k', .int .i64 n', .string s', .slice a' l' c'] 24) w.heap.size (by simp)).trans (alloc_new w (.cells #[.int .i64 k, .int .i64 n, .string s, .slice a l c] 24))
  have q2 := alloc_two w (.cells #[.int .i64 k, .int .i64 n, .string s, .slice a l c] 24) (.cells #[.int .i64 k', .int .i64 n', .string s', .slice a' l' c'] 24)
  have b0 : Below w.heap.size w ((w.alloc (.cells #[.int .i64 k, .int .i64 n, .string s, .slice a l c] 24)).alloc (.cells #[.int .i64 k', .int .i64 n', .string s', .slice a' l' c'] 24)) := ((Below.refl _ _).alloc (Nat.le_refl _) _).alloc (by simp) _
  have z0 : ((w.alloc (.cells #[.int .i64 k, .int .i64 n, .string s, .slice a l c] 24)).alloc (.cells #[.int .i64 k', .int .i64 n', .string s', .slice a' l' c'] 24)).heap.size = w.heap.size + 2 := by simp
  have HQ1 := toHid q1
  have HQ2 := toHid q2
  have HB0 := toHid b0
  have HZ0 := toHid z0
  clear q1 q2 b0 z0
  go_enter Tryz.func3, Tryz.ntmps3
  go_wp2_with fail
  refine (HR.out _ HB0.out).mono ?_
  generalize ((w.alloc (.cells #[.int .i64 k, .int .i64 n, .string s, .slice a l c] 24)).alloc (.cells #[.int .i64 k', .int .i64 n', .string s', .slice a' l' c'] 24)) = W at HQ1 HQ2 HB0 HZ0 ⊢
  rintro e w1 ⟨⟨a1, l1, c1, rfl, hlc1, hL1⟩, k1⟩
  have z1 : w.heap.size + 2 ≤ w1.heap.size := by have := k1.size; rw [HZ0.out] at this; exact this
  have r1 := (k1.block w.heap.size (by rw [HZ0.out]; omega)).trans HQ1.out
  have r2 := (k1.block (w.heap.size + 1) (by rw [HZ0.out]; omega)).trans HQ2.out
  have HK1 : Hid (Below w.heap.size w w1) := HB0.out.trans (k1.mono HB0.out.size)
  have HL1 := toHid hL1
  have HR1 := toHid r1
  have HR2 := toHid r2
  clear k1 hL1
  have x0 : (w1.alloc (.cells #[.int .i64 rk, .int .i64 rn, .string rs, .slice a1 l1 c1] 24)).cell? ⟨w.heap.size, 0, none⟩ = some (.int .i64 k) := (cell_past w1 _ w.heap.size 0 (by omega)).trans (cell_of r1 _)
  have x1 : (w1.alloc (.cells #[.int .i64 rk, .int .i64 rn, .string rs, .slice a1 l1 c1] 24)).cell? ⟨w.heap.size, 1, none⟩ = some (.int .i64 n) := (cell_past w1 _ w.heap.size 1 (by omega)).trans (cell_of r1 _)
  have x2 : (w1.alloc (.cells #[.int .i64 rk, .int .i64 rn, .string rs, .slice a1 l1 c1] 24)).cell? ⟨w.heap.size, 2, none⟩ = some (.string s) := (cell_past w1 _ w.heap.size 2 (by omega)).trans (cell_of r1 _)
  have x3 : (w1.alloc (.cells #[.int .i64 rk, .int .i64 rn, .string rs, .slice a1 l1 c1] 24)).cell? ⟨w.heap.size, 3, none⟩ = some (.slice a l c) := (cell_past w1 _ w.heap.size 3 (by omega)).trans (cell_of r1 _)
  have y0 : (w1.alloc (.cells #[.int .i64 rk, .int .i64 rn, .string rs, .slice a1 l1 c1] 24)).cell? ⟨w.heap.size + 1, 0, none⟩ = some (.int .i64 k') := (cell_past w1 _ (w.heap.size + 1) 0 (by omega)).trans (cell_of r2 _)
  have y1 : (w1.alloc (.cells #[.int .i64 rk, .int .i64 rn, .string rs, .slice a1 l1 c1] 24)).cell? ⟨w.heap.size + 1, 1, none⟩ = some (.int .i64 n') := (cell_past w1 _ (w.heap.size + 1) 1 (by omega)).trans (cell_of r2 _)
  have y2 : (w1.alloc (.cells #[.int .i64 rk, .int .i64 rn, .string rs, .slice a1 l1 c1] 24)).cell? ⟨w.heap.size + 1, 2, none⟩ = some (.string s') := (cell_past w1 _ (w.heap.size + 1) 2 (by omega)).trans (cell_of r2 _)
  have y3 : (w1.alloc (.cells #[.int .i64 rk, .int .i64 rn, .string rs, .slice a1 l1 c1] 24)).cell? ⟨w.heap.size + 1, 3, none⟩ = some (.slice a' l' c') := (cell_past w1 _ (w.heap.size + 1) 3 (by omega)).trans (cell_of r2 _)
  have HX : Hid (Below w.heap.size w (w1.alloc (.cells #[.int .i64 rk, .int .i64 rn, .string rs, .slice a1 l1 c1] 24))) := HK1.out.alloc HK1.out.size _
  have hx1 := alloc_new w1 (.cells #[.int .i64 rk, .int .i64 rn, .string rs, .slice a1 l1 c1] 24)
  have HX1 := toHid hx1
  have zx : (w1.alloc (.cells #[.int .i64 rk, .int .i64 rn, .string rs, .slice a1 l1 c1] 24)).heap.size = w1.heap.size + 1 := by simp
  have HZX := toHid zx
  have hlx : LiesS (w1.alloc (.cells #[.int .i64 rk, .int .i64 rn, .string rs, .slice a1 l1 c1] 24)) RL a1 l1 := HL1.out.below ((Below.refl _ _).alloc (Nat.le_refl _) _)
  have HLX := toHid hlx
  clear r1 r2 hx1 zx hlx
  go_wp2_with fail
  refine (HF.out _ HX.out).mono ?_
  generalize (w1.alloc (.cells #[.int .i64 rk, .int .i64 rn, .string rs, .slice a1 l1 c1] 24)) = X at x0 x1 x2 x3 y0 y1 y2 y3 HX HX1 HZX HLX ⊢
  rintro e w2 ⟨⟨a2, l2, c2, rfl, hlc2, hL2⟩, k2⟩
  have z2 : w1.heap.size + 1 ≤ w2.heap.size := by have := k2.size; rw [HZX.out] at this; exact this
  have r3 := (k2.block w1.heap.size (by rw [HZX.out]; omega)).trans HX1.out
  have HK2 : Hid (Below w.heap.size w w2) := HX.out.trans (k2.mono HX.out.size)
  have hl1 : LiesS w2 RL a1 l1 := HLX.out.below k2
  have HY : Hid (Below w.heap.size w (w2.alloc (.cells #[.int .i64 rk, .int .i64 rn, .string rs, .slice a2 l2 c2] 24))) := HK2.out.alloc HK2.out.size _
  have HL1Y : Hid (LiesS (w2.alloc (.cells #[.int .i64 rk, .int .i64 rn, .string rs, .slice a2 l2 c2] 24)) RL a1 l1) := hl1.below ((Below.refl _ _).alloc (Nat.le_refl _) _)
  have HL2Y : Hid (LiesS (w2.alloc (.cells #[.int .i64 rk, .int .i64 rn, .string rs, .slice a2 l2 c2] 24)) RL a2 l2) := hL2.below ((Below.refl _ _).alloc (Nat.le_refl _) _)
  have hy1 := alloc_new w2 (.cells #[.int .i64 rk, .int .i64 rn, .string rs, .slice a2 l2 c2] 24)
  have hy0 := (Below.heap_alloc w2 (.cells #[.int .i64 rk, .int .i64 rn, .string rs, .slice a2 l2 c2] 24) w1.heap.size (by omega)).trans r3
  have zy : (w2.alloc (.cells #[.int .i64 rk, .int .i64 rn, .string rs, .slice a2 l2 c2] 24)).heap.size = w2.heap.size + 1 := by simp
  have HY1 := toHid hy1
  have HY0 := toHid hy0
  have HZY := toHid zy
  clear x0 x1 x2 x3 y0 y1 y2 y3 hL2 hl1 k2 r3 hy1 hy0 zy HLX HL1
  go_wp2_with fail
  refine (HV.out _ HY.out).mono ?_
  generalize w2.alloc (.cells #[.int .i64 rk, .int .i64 rn, .string rs, .slice a2 l2 c2] 24) = Y at HY HL1Y HL2Y HY1 HY0 HZY ⊢
  rintro e w3 ⟨rfl, k3⟩
  have q0 := (k3.block w1.heap.size (by rw [HZY.out]; omega)).trans HY0.out
  have q1 := (k3.block w2.heap.size (by rw [HZY.out]; omega)).trans HY1.out
  have p0 := cell_of q0 0
  have p1 := cell_of q0 1
  have p2 := cell_of q0 2
  have p3 := cell_of q0 3
  have o0 := cell_of q1 0
  have o1 := cell_of q1 1
  have o2 := cell_of q1 2
  have o3 := cell_of q1 3
  simp at p0 p1 p2 p3 o0 o1 o2 o3
  have HK3 : Hid (Below w.heap.size w w3) := HY.out.trans (k3.mono HY.out.size)
  have HSS : Hid (Calls Tryz.prog 8 #[.agg #[.int .i64 rk, .int .i64 rn, .string rs, .slice a1 l1 c1], .agg #[.int .i64 rk, .int .i64 rn, .string rs, .slice a2 l2 c2]] w3 fun e w' => e = .returned (.bool true) ∧ Below w3.heap.size w3 w') := HS.out a1 l1 c1 a2 l2 c2 w3 (HL1Y.out.below k3) (HL2Y.out.below k3)
  clear q0 q1 k3
  go_wp2_with fail
  refine HSS.out.mono ?_
  rintro e w4 ⟨rfl, k4⟩
  go_wp2_with fail
  go_ret
  exact ⟨rfl, HK3.out.trans (k4.mono HK3.out.size)⟩
end Go.Proofs.YtekkifljcppmlaaGreatDoor
