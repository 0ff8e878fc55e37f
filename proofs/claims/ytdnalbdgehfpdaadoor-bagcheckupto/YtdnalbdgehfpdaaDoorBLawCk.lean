/-
  What is proved here: the law BagCheck answers true of any bag and any two rows that lie in memory; what was there is as it was.
-/
import Derived.Test.YtdnalbdgehfpdaaDoorQBAS
namespace Go.Proofs.YtdnalbdgehfpdaaDoor
open Go.RowKit
set_option linter.unusedVariables false
set_option linter.unusedSimpArgs false

set_option maxHeartbeats 4000000 in
set_option maxRecDepth 100000 in
theorem law_checkB (M : List (Ct × Int)) (a : Option Addr) (l c : Nat) (L L' : List T) (a1 : Option Addr) (l1 c1 : Nat) (a2 : Option Addr) (l2 c2 : Nat) (w : World) (hT : Tabs w.heap.size w) (hM : BagIn w M a l) (hL : LiesS w L a1 l1) (hL' : LiesS w L' a2 l2) (hw : wtL L ≤ 1099511627776) (hw' : wtL L' ≤ 1099511627776) :
    Calls Tryd.prog 3 #[.slice a l c, .slice a1 l1 c1, .slice a2 l2 c2] w fun e w' => e = .returned (.bool true) ∧ Below w.heap.size w w' := by
  have HBG := toHid (bagged_true w.heap.size w (Nat.le_refl _) hT)
  have HC1 : Hid (∀ W, Below w.heap.size w W → Calls Tryd.prog 7 #[.slice a l c] W fun e w' => e = .returned (.int .i64 (bagE M)) ∧ Below W.heap.size W w') := fun W kW => check_bag M a l c w W hM kW
  have HC2 : Hid (∀ W, Below w.heap.size w W → Calls Tryd.prog 8 #[.slice a l c] W fun e w' => e = .returned (.int .i64 (bagE M)) ∧ Below W.heap.size W w') := fun W kW => checkBag_ref M a l c w W hM kW
  have HC3 : Hid (∀ W, Below w.heap.size w W → Calls Tryd.prog 9 #[.slice a1 l1 c1, .slice a2 l2 c2] W fun e w' => e = .returned (.int .i64 (ordL L L')) ∧ Below W.heap.size W w') := fun W kW => (compareD_any L L' a1 l1 c1 a2 l2 c2 W (LiesS.below kW _ _ _ hL) (LiesS.below kW _ _ _ hL') hw).mono fun e w' ⟨h1, h2⟩ => ⟨h1, h2.toBelow⟩
  have HC4 : Hid (∀ W, Below w.heap.size w W → Calls Tryd.prog 10 #[.slice a1 l1 c1, .slice a2 l2 c2] W fun e w' => e = .returned (.int .i64 (ordL L L')) ∧ Below W.heap.size W w') := fun W kW => compareRows_ref L L' a1 l1 c1 a2 l2 c2 W (LiesS.below kW _ _ _ hL) (LiesS.below kW _ _ _ hL') hw hw'
  generalize bagE M = z at HC1 HC2
  generalize ordL L L' = y at HC3 HC4
  have hz : (z == z) = true := by simp
  have hy : (y == y) = true := by simp
  clear hT hM hL hL' hw hw'
  go_enter Tryd.func3, Tryd.ntmps3
  go_wp2_with fail
  refine HBG.out.mono ?_
  rintro e w1 ⟨rfl, k1⟩
  have HK1 := toHid k1
  clear k1
  go_wp2_with fail
  refine (HC1.out _ HK1.out).mono ?_
  rintro e w2 ⟨rfl, k2⟩
  have HK2 := toHid (HK1.out.trans (k2.mono HK1.out.size))
  clear k2
  go_wp2_with fail
  refine (HC2.out _ HK2.out).mono ?_
  rintro e w3 ⟨rfl, k3⟩
  have HK3 := toHid (HK2.out.trans (k3.mono HK2.out.size))
  clear k3
  go_wp2_with fail
  refine (HC3.out _ HK3.out).mono ?_
  rintro e w4 ⟨rfl, k4⟩
  have HK4 := toHid (HK3.out.trans (k4.mono HK3.out.size))
  clear k4
  go_wp2_with fail
  refine (HC4.out _ HK4.out).mono ?_
  rintro e w5 ⟨rfl, k5⟩
  have HK5 := toHid (HK4.out.trans (k5.mono HK4.out.size))
  clear k5
  go_wp2_with fail
  go_ret
  exact ⟨rfl, HK5.out⟩
end Go.Proofs.YtdnalbdgehfpdaaDoor
