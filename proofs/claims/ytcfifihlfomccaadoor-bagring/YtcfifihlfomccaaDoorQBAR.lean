/-
  What is proved here: what the texts BBagged, BLawCk, BArg, GLaid, BSameR, BDist1 prove, in one text.
-/
import Derived.Test.YtcfifihlfomccaaDoorQBAQ
import Derived.Test.YtcfifihlfomccaaDoorQBAM
import Derived.Test.YtcfifihlfomccaaDoorQBAD
import Derived.Test.YtcfifihlfomccaaDoorRows
import Derived.Test.YtcfifihlfomccaaDoorQBAA
import Derived.Test.YtcfifihlfomccaaDoorShelf
import Derived.PinnedBridge
import Derived.Lib.LaidU8T
import Derived.Lib.LaidTab
import Derived.Lay
namespace Go.Proofs.YtcfifihlfomccaaDoor
open Go.RowKit
set_option linter.unusedVariables false

set_option linter.unusedSimpArgs false

theorem lies_num {w : World} {b : Nat} {n : Int} (h : w.heap[b]? = some (vObj 2 n ⟨#[]⟩ none 0 0)) : LiesS w [numT n] (some ⟨b, 0, none⟩) 1 := by
  unfold LiesS
  refine ⟨b, 0, rfl, rfl, by omega, blkB_lt h, ?_, by unfold LiesS; rfl⟩
  unfold numT LiesT
  exact ⟨by decide, none, 0, 0, cell_of h 0, cell_of h 1, cell_of h 2, cell_of h 3, Nat.le_refl _, by unfold LiesS; rfl⟩

/-- The counts that the closed fact writes down. -/
abbrev litC (b1 b2 : Nat) (n : Int) : List Ct := [⟨1, some ⟨b1, 0, none⟩, 1, 1, [numT 1]⟩, ⟨n, some ⟨b2, 0, none⟩, 1, 1, [numT 2]⟩]

theorem same_lit {w : World} {b b1 b2 : Nat} {n : Int} (h1 : w.heap[b1]? = some (vObj 2 1 ⟨#[]⟩ none 0 0)) (h2 : w.heap[b2]? = some (vObj 2 2 ⟨#[]⟩ none 0 0)) (h : w.heap[b]? = some (.cells #[.slice (some ⟨b1, 0, none⟩) 1 1, .int .i64 1, .slice (some ⟨b2, 0, none⟩) 1 1, .int .i64 n] 39 (0, 0))) {a : Option Addr} {l c : Nat} (hr : RB w (bagN n) a l) :
    Calls Tryd.prog 12 #[.slice a l c, .slice (some ⟨b, 0, none⟩) 2 2] w fun e w' => e = .returned (.bool true) ∧ Below w.heap.size w w' := by
  obtain ⟨F, hF, hat, _, hok⟩ := hr.cts
  have hw : ∀ n : Int, wtL [numT n] ≤ 1099511627776 := fun n => by simp [wtL, wtT, numT]
  have hc := sameBag_ref F (litC b1 b2 n) a (some ⟨b, 0, none⟩) l c 2 2 w hat ⟨rfl, by decide, fun _ => ⟨b, 0, rfl, blkB_lt h, fun i x hx => by
    match i, hx with
    | 0, hx => simp at hx; subst hx; exact ⟨cell_of h 0, cell_of h 1⟩
    | 1, hx => simp at hx; subst hx; exact ⟨cell_of h 2, cell_of h 3⟩
    | i + 2, hx => simp at hx⟩⟩ (fun x hx => ⟨(hok x hx).1, by have := (hok x hx).2.2.2.2.2; omega⟩) (fun x hx => by
    simp only [List.mem_cons, List.not_mem_nil, or_false] at hx
    rcases hx with rfl | rfl
    · exact ⟨lies_num h1, hw 1⟩
    · exact ⟨lies_num h2, hw 2⟩)
  have hl : likeB F (litC b1 b2 n) = true := (like_cn _ _).2 (by rw [hF]; rfl)
  rw [hl] at hc
  exact hc

set_option maxHeartbeats 8000000 in
set_option maxRecDepth 100000 in
theorem bagged_true (B : Nat) (w : World) (hB : B ≤ w.heap.size) (hT : Tabs B w) : Calls Tryd.prog 6 #[] w fun e w' => e = .returned (.bool true) ∧ Below w.heap.size w w' := by
  have HTB := toHid hT
  clear hT
  go_enter Tryd.func6, Tryd.ntmps6
  go_wp2_with fail
  refine (numB_any 2 _).mono ?_
  rintro e w1 ⟨rfl, k1⟩
  have HK1 := toHid k1
  clear k1
  go_wp2_with fail
  refine (numB_any 1 _).mono ?_
  rintro e w2 ⟨rfl, k2⟩
  have a1 : Below w1.heap.size w1 (w1.alloc (vObj 2 2 ⟨#[]⟩ none 0 0)) := (Below.refl _ _).alloc (Nat.le_refl _) _
  have r1 : w2.heap[w1.heap.size]? = some (vObj 2 2 ⟨#[]⟩ none 0 0) := (k2.block _ (by simp)).trans (alloc_new w1 _)
  have HK2 := toHid ((HK1.out.trans (a1.mono HK1.out.size)).trans (k2.mono (Nat.le_trans HK1.out.size a1.size)))
  have HR1 := toHid r1
  clear a1 k2 r1
  go_wp2_with fail
  refine (numB_any 2 _).mono ?_
  rintro e w3 ⟨rfl, k3⟩
  have a2 : Below w2.heap.size w2 (w2.alloc (vObj 2 1 ⟨#[]⟩ none 0 0)) := (Below.refl _ _).alloc (Nat.le_refl _) _
  have r2 : w3.heap[w2.heap.size]? = some (vObj 2 1 ⟨#[]⟩ none 0 0) := (k3.block _ (by simp)).trans (alloc_new w2 _)
  have h23 := a2.trans (k3.mono a2.size)
  have r1 := (h23.block _ (blkB_lt HR1.out)).trans HR1.out
  have HK3 := toHid (HK2.out.trans (h23.mono HK2.out.size))
  have a3 : Below w3.heap.size w3 ((w3.alloc (vObj 2 2 ⟨#[]⟩ none 0 0)).alloc (.cells #[.slice (some ⟨w1.heap.size, 0, none⟩) 1 1, .slice (some ⟨w2.heap.size, 0, none⟩) 1 1, .slice (some ⟨w3.heap.size, 0, none⟩) 1 1] 25)) := ((Below.refl _ _).alloc (Nat.le_refl _) _).alloc (by simp) _
  have r3 : ((w3.alloc (vObj 2 2 ⟨#[]⟩ none 0 0)).alloc (.cells #[.slice (some ⟨w1.heap.size, 0, none⟩) 1 1, .slice (some ⟨w2.heap.size, 0, none⟩) 1 1, .slice (some ⟨w3.heap.size, 0, none⟩) 1 1] 25)).heap[w3.heap.size]? = some (vObj 2 2 ⟨#[]⟩ none 0 0) := (Below.heap_alloc _ _ _ (by simp)).trans (alloc_new w3 _)
  have rr : ((w3.alloc (vObj 2 2 ⟨#[]⟩ none 0 0)).alloc (.cells #[.slice (some ⟨w1.heap.size, 0, none⟩) 1 1, .slice (some ⟨w2.heap.size, 0, none⟩) 1 1, .slice (some ⟨w3.heap.size, 0, none⟩) 1 1] 25)).heap[w3.heap.size + 1]? = some (.cells #[.slice (some ⟨w1.heap.size, 0, none⟩) 1 1, .slice (some ⟨w2.heap.size, 0, none⟩) 1 1, .slice (some ⟨w3.heap.size, 0, none⟩) 1 1] 25) := alloc_two w3 _ _
  have HK4 := toHid (HK3.out.trans (a3.mono HK3.out.size))
  have HOF := toHid (of_any B [⟨1, some ⟨w1.heap.size, 0, none⟩, 1, 1, [numT 2]⟩, ⟨1, some ⟨w2.heap.size, 0, none⟩, 1, 1, [numT 1]⟩, ⟨1, some ⟨w3.heap.size, 0, none⟩, 1, 1, [numT 2]⟩] (some ⟨w3.heap.size + 1, 0, none⟩) 3 3 ((w3.alloc (vObj 2 2 ⟨#[]⟩ none 0 0)).alloc (.cells #[.slice (some ⟨w1.heap.size, 0, none⟩) 1 1, .slice (some ⟨w2.heap.size, 0, none⟩) 1 1, .slice (some ⟨w3.heap.size, 0, none⟩) 1 1] 25)) (Nat.le_trans hB HK4.out.size) (HTB.out.below (HK4.out.mono hB)) ⟨rfl, by decide, fun x hx => by
      simp only [List.mem_cons, List.not_mem_nil, or_false] at hx
      rcases hx with rfl | rfl | rfl <;> rfl, fun _ => ⟨_, 0, rfl, trivial, blkB_lt rr, fun i x hx => by
        match i, hx with
        | 0, hx => simp at hx; subst hx; exact cell_of rr 0
        | 1, hx => simp at hx; subst hx; exact cell_of rr 1
        | 2, hx => simp at hx; subst hx; exact cell_of rr 2
        | i + 3, hx => simp at hx⟩⟩ fun x hx => by
      have hw : ∀ n : Int, wtL [numT n] ≤ 1099511627776 := fun n => by simp [wtL, wtT, numT]
      simp only [List.mem_cons, List.not_mem_nil, or_false] at hx
      rcases hx with rfl | rfl | rfl
      · exact ⟨lies_num ((a3.block _ (blkB_lt r1)).trans r1), (right_num 2 (by decide) (by decide)).2.2, hw 2⟩
      · exact ⟨lies_num ((a3.block _ (blkB_lt r2)).trans r2), (right_num 1 (by decide) (by decide)).2.2, hw 1⟩
      · exact ⟨lies_num r3, (right_num 2 (by decide) (by decide)).2.2, hw 2⟩)
  clear a2 k3 h23 r1 r2 r3 rr a3
  go_wp2_with fail
  refine HOF.out.mono ?_
  rintro e w4 ⟨hend, k4⟩
  have HK5 := toHid (HK4.out.trans (k4.mono HK4.out.size))
  rcases hend with ⟨h0, _⟩ | ⟨_, B1, _, hend⟩
  · exact absurd h0 (by decide)
  obtain ⟨Z, z1, z2, z3⟩ := tal_end (Nat.le_trans hB HK5.out.size) (HTB.out.below (HK5.out.mono hB)) hend
  have hZ : Z = bagN 2 := bag_ext _ _ z1 (fit_bag 2 (by decide) (by decide)).bag fun r => by rw [z2, cnt_of]; rfl
  subst hZ
  rcases z3 with ⟨_, a, l, c, rfl, hrb⟩ | ⟨hn, _⟩
  case inr => exact absurd (fit_bag 2 (by decide) (by decide)) hn
  have HRB := toHid hrb
  have HJ := toHid (join_rb B (bagN 2) (bagN 2) 1 a a l c l c w4 (Nat.le_trans hB HK5.out.size) (HTB.out.below (HK5.out.mono hB)) hrb hrb)
  clear hend k4 hrb z1 z2 HOF
  go_wp2_with fail
  refine HJ.out.mono ?_
  rintro e w5 ⟨hj, k5⟩
  have HK6 := toHid (HK5.out.trans (k5.mono HK5.out.size))
  rcases hj with ⟨_, _, _, hn⟩ | ⟨Z, a', l', c', rfl, hrb', hc⟩
  · exact absurd joins_bag hn
  have hZ : Z = bagN 4 := bag_ext _ _ hrb'.1.bag (fit_bag 4 (by decide) (by decide)).bag fun r => by rw [hc, join_bag]
  subst hZ
  have HRB2 := toHid hrb'
  have HRB1 := toHid (HRB.out.below k5)
  clear k5 hc hrb' HJ HRB
  go_wp2_with fail
  refine (numB_any 1 _).mono ?_
  rintro e w6 ⟨rfl, k1⟩
  have HK7 := toHid (HK6.out.trans (k1.mono HK6.out.size))
  have HRB1a := toHid (HRB1.out.below k1)
  have HRB2a := toHid (HRB2.out.below k1)
  clear k1
  go_wp2_with fail
  refine (numB_any 2 _).mono ?_
  rintro e w7 ⟨rfl, k2⟩
  have a1 : Below w6.heap.size w6 (w6.alloc (vObj 2 1 ⟨#[]⟩ none 0 0)) := (Below.refl _ _).alloc (Nat.le_refl _) _
  have r1 : w7.heap[w6.heap.size]? = some (vObj 2 1 ⟨#[]⟩ none 0 0) := (k2.block _ (by simp)).trans (alloc_new w6 _)
  have h12 := a1.trans (k2.mono a1.size)
  have HK8 := toHid (HK7.out.trans (h12.mono HK7.out.size))
  have a2 : Below w7.heap.size w7 ((w7.alloc (vObj 2 2 ⟨#[]⟩ none 0 0)).alloc (.cells #[.slice (some ⟨w6.heap.size, 0, none⟩) 1 1, .int .i64 1, .slice (some ⟨w7.heap.size, 0, none⟩) 1 1, .int .i64 2] 39)) := ((Below.refl _ _).alloc (Nat.le_refl _) _).alloc (by simp) _
  have r2 : ((w7.alloc (vObj 2 2 ⟨#[]⟩ none 0 0)).alloc (.cells #[.slice (some ⟨w6.heap.size, 0, none⟩) 1 1, .int .i64 1, .slice (some ⟨w7.heap.size, 0, none⟩) 1 1, .int .i64 2] 39)).heap[w7.heap.size]? = some (vObj 2 2 ⟨#[]⟩ none 0 0) := (Below.heap_alloc _ _ _ (by simp)).trans (alloc_new w7 _)
  have rr : ((w7.alloc (vObj 2 2 ⟨#[]⟩ none 0 0)).alloc (.cells #[.slice (some ⟨w6.heap.size, 0, none⟩) 1 1, .int .i64 1, .slice (some ⟨w7.heap.size, 0, none⟩) 1 1, .int .i64 2] 39)).heap[w7.heap.size + 1]? = some (.cells #[.slice (some ⟨w6.heap.size, 0, none⟩) 1 1, .int .i64 1, .slice (some ⟨w7.heap.size, 0, none⟩) 1 1, .int .i64 2] 39) := alloc_two w7 _ _
  have HSB := toHid (same_lit (c := c) ((a2.block _ (blkB_lt r1)).trans r1) r2 rr (RB.below a2 (RB.below h12 HRB1a.out)))
  have HKB := toHid (HK8.out.trans (a2.mono HK8.out.size))
  have HRB2b := toHid (RB.below a2 (RB.below h12 HRB2a.out))
  clear a1 k2 r1 h12 a2 r2 rr
  go_wp2_with fail
  refine HSB.out.mono ?_
  rintro e w8 ⟨rfl, k3⟩
  have HK8x := toHid (HKB.out.trans (k3.mono HKB.out.size))
  have HRB2c := toHid (HRB2b.out.below k3)
  clear k3 HSB HKB
  go_wp2_with fail
  refine (numB_any 1 _).mono ?_
  rintro e w9 ⟨rfl, k1⟩
  have HK9 := toHid (HK8x.out.trans (k1.mono HK8x.out.size))
  have HRB2ca := toHid (HRB2c.out.below k1)
  clear k1
  go_wp2_with fail
  refine (numB_any 2 _).mono ?_
  rintro e w10 ⟨rfl, k2⟩
  have a1 : Below w9.heap.size w9 (w9.alloc (vObj 2 1 ⟨#[]⟩ none 0 0)) := (Below.refl _ _).alloc (Nat.le_refl _) _
  have r1 : w10.heap[w9.heap.size]? = some (vObj 2 1 ⟨#[]⟩ none 0 0) := (k2.block _ (by simp)).trans (alloc_new w9 _)
  have h12 := a1.trans (k2.mono a1.size)
  have HK10 := toHid (HK9.out.trans (h12.mono HK9.out.size))
  have a2 : Below w10.heap.size w10 ((w10.alloc (vObj 2 2 ⟨#[]⟩ none 0 0)).alloc (.cells #[.slice (some ⟨w9.heap.size, 0, none⟩) 1 1, .int .i64 1, .slice (some ⟨w10.heap.size, 0, none⟩) 1 1, .int .i64 4] 39)) := ((Below.refl _ _).alloc (Nat.le_refl _) _).alloc (by simp) _
  have r2 : ((w10.alloc (vObj 2 2 ⟨#[]⟩ none 0 0)).alloc (.cells #[.slice (some ⟨w9.heap.size, 0, none⟩) 1 1, .int .i64 1, .slice (some ⟨w10.heap.size, 0, none⟩) 1 1, .int .i64 4] 39)).heap[w10.heap.size]? = some (vObj 2 2 ⟨#[]⟩ none 0 0) := (Below.heap_alloc _ _ _ (by simp)).trans (alloc_new w10 _)
  have rr : ((w10.alloc (vObj 2 2 ⟨#[]⟩ none 0 0)).alloc (.cells #[.slice (some ⟨w9.heap.size, 0, none⟩) 1 1, .int .i64 1, .slice (some ⟨w10.heap.size, 0, none⟩) 1 1, .int .i64 4] 39)).heap[w10.heap.size + 1]? = some (.cells #[.slice (some ⟨w9.heap.size, 0, none⟩) 1 1, .int .i64 1, .slice (some ⟨w10.heap.size, 0, none⟩) 1 1, .int .i64 4] 39) := alloc_two w10 _ _
  have HSB := toHid (same_lit (c := c') ((a2.block _ (blkB_lt r1)).trans r1) r2 rr (RB.below a2 (RB.below h12 HRB2ca.out)))
  have HKB := toHid (HK10.out.trans (a2.mono HK10.out.size))
  clear a1 k2 r1 h12 a2 r2 rr
  go_wp2_with fail
  refine HSB.out.mono ?_
  rintro e w11 ⟨rfl, k3⟩
  have HK10x := toHid (HKB.out.trans (k3.mono HKB.out.size))
  clear k3 HSB HKB
  go_wp2_with fail
  go_ret
  exact ⟨rfl, HK10x.out⟩

set_option linter.unusedSimpArgs false

set_option maxHeartbeats 4000000 in
set_option maxRecDepth 100000 in
theorem law_checkB (M : List (Ct × Int)) (a : Option Addr) (l c : Nat) (L L' : List T) (a1 : Option Addr) (l1 c1 : Nat) (a2 : Option Addr) (l2 c2 : Nat) (w : World) (hT : Tabs w.heap.size w) (hM : BagIn w M a l) (hL : LiesS w L a1 l1) (hL' : LiesS w L' a2 l2) (hw : wtL L ≤ 1099511627776) (hw' : wtL L' ≤ 1099511627776) :
    Calls Tryd.prog 3 #[.slice a l c, .slice a1 l1 c1, .slice a2 l2 c2] w fun e w' => e = .returned (.bool true) ∧ Below w.heap.size w w' := by
  have HBG := toHid (bagged_true w.heap.size w (Nat.le_refl _) hT)
  have HC1 : Hid (∀ W, Below w.heap.size w W → Calls Tryd.prog 7 #[.slice a l c] W fun e w' => e = .returned (.int .i64 (bagE M)) ∧ Below W.heap.size W w') := fun W kW => check_bag M a l c w W hM kW
  have HC2 : Hid (∀ W, Below w.heap.size w W → Calls Tryd.prog 8 #[.slice a l c] W fun e w' => e = .returned (.int .i64 (bagE M)) ∧ Below W.heap.size W w') := fun W kW => checkBag_ref M a l c w W hM kW
  have HC3 : Hid (∀ W, Below w.heap.size w W → Calls Tryd.prog 9 #[.slice a1 l1 c1, .slice a2 l2 c2] W fun e w' => e = .returned (.int .i64 (ordL L L')) ∧ Below W.heap.size W w') := fun W kW => (compareD_any L L' a1 l1 c1 a2 l2 c2 W (LiesS.below kW _ _ _ hL) (LiesS.below kW _ _ _ hL') hw).mono fun e w' ⟨h1, h2⟩ => ⟨h1, h2.toBelow⟩
  have HC4 : Hid (∀ W, Below w.heap.size w W → Calls Tryd.prog 10 #[.slice a1 l1 c1, .slice a2 l2 c2] W fun e w' => e = .returned (.int .i64 (ordL L L')) ∧ Below W.heap.size W w') := fun W kW => compareRows_ref L L' a1 l1 c1 a2 l2 c2 W (LiesS.below kW _ _ _ hL) (LiesS.below kW _ _ _ hL') hw hw'
  generalize bagE M = z at HC1 HC2
  generalize ordL L L' = y at HC3 HC4
  have hz : (z == z) = true := by simp
  have hy : (y == y) = true := by simp
  clear hT hM hL hL' hw hw'
  go_enter Tryd.func3, Tryd.ntmps3
  go_wp2_with fail
  refine HBG.out.mono ?_
  rintro e w1 ⟨rfl, k1⟩
  have HK1 := toHid k1
  clear k1
  go_wp2_with fail
  refine (HC1.out _ HK1.out).mono ?_
  rintro e w2 ⟨rfl, k2⟩
  have HK2 := toHid (HK1.out.trans (k2.mono HK1.out.size))
  clear k2
  go_wp2_with fail
  refine (HC2.out _ HK2.out).mono ?_
  rintro e w3 ⟨rfl, k3⟩
  have HK3 := toHid (HK2.out.trans (k3.mono HK2.out.size))
  clear k3
  go_wp2_with fail
  refine (HC3.out _ HK3.out).mono ?_
  rintro e w4 ⟨rfl, k4⟩
  have HK4 := toHid (HK3.out.trans (k4.mono HK3.out.size))
  clear k4
  go_wp2_with fail
  refine (HC4.out _ HK4.out).mono ?_
  rintro e w5 ⟨rfl, k5⟩
  have HK5 := toHid (HK4.out.trans (k5.mono HK4.out.size))
  clear k5
  go_wp2_with fail
  go_ret
  exact ⟨rfl, HK5.out⟩

set_option linter.unusedSimpArgs false

section
variable {H : Type} {enc : TypeId × Value → H} {w : World} {base : Nat} {spare : Nat → Bool} {held : Bool}

theorem bulk_part {d : DataW H} {l : List (DataW H)} (h : d ∈ l) : Rows.uptoBulk d ≤ Rows.uptoBulkAll l := by
  induction l with
  | nil => cases h
  | cons x r ih =>
    simp only [Rows.uptoBulkAll]
    rcases List.mem_cons.1 h with e | e
    · subst e; omega
    · have := ih e; omega

/-- A value that reads: its four cells, how its list reads, and that the list is the lesser. -/
theorem trod_weight {fuel : Nat} {cs : List Value} {x : DataW H × List MemPlace} (h : DataW.trod enc Tryd.prog w base spare held fuel 43 cs = some x) :
    ∃ k n s a l c m y, cs = [.int .i64 k, .int .i64 n, .string s, .slice a l c] ∧ s.size ≤ maxLen ∧ fuel = m + 1 ∧ DataW.trod enc Tryd.prog w base spare held m 24 [.slice a l c] = some y ∧ Rows.uptoBulk y.1 + 1 ≤ Rows.uptoBulk x.1 := by
  obtain ⟨k, n, s, a, l, c, m, y, rfl, _, _, hs, rfl, hy⟩ := trod_value h
  refine ⟨k, n, s, a, l, c, m, y, rfl, hs, rfl, hy, ?_⟩
  obtain ⟨xs, m', e, rfl, hlen, hxs, hf⟩ := DataW.trod_struct Tryd.underlying43 h
  obtain rfl : m = m' := by omega
  have f3 : DataW.trod enc Tryd.prog w base spare held m 24 (([.int .i64 k, .int .i64 n, .string s, .slice a l c].drop 3).take (Tryd.prog.cellsOf 24)) = xs[3]? := hf 3 _ rfl
  rw [cells1l] at f3
  have g3 : DataW.trod enc Tryd.prog w base spare held m 24 [.slice a l c] = xs[3]? := f3
  rw [hy] at g3
  have hm : y ∈ xs := List.mem_of_getElem? g3.symm
  have := bulk_part (List.mem_map_of_mem (f := (·.1)) hm)
  simp only [Rows.uptoBulk]
  omega

/-- What reads is a tree that lies in memory. -/
theorem tree_of : ∀ (fuel : Nat) {a : Option Addr} {l c : Nat} {y : DataW H × List MemPlace}, DataW.trod enc Tryd.prog w base spare held fuel 24 [.slice a l c] = some y → l ≤ c ∧ ∃ L, LiesS w L a l ∧ wtL L ≤ Rows.uptoBulk y.1 := by
  have hm : maxLen ≤ 9223372036854775807 := by unfold maxLen; decide
  intro fuel
  induction fuel using Nat.strongRecOn with
  | _ fuel ih =>
  intro a l c y h
  rcases DataW.trod_slice Tryd.underlying24 h with ⟨e, rfl⟩ | ⟨a', l', c', elems, rest, m, hfu, e, rfl, _, h1, h2, hlen, hel, _⟩
  · simp at e
    obtain ⟨_, rfl, _⟩ := e
    refine ⟨Nat.zero_le _, [], by unfold LiesS; rfl, ?_⟩
    simp [wtL, Rows.uptoBulk]
  · simp at e
    obtain ⟨rfl, rfl, rfl⟩ := e
    refine ⟨h1, ?_⟩
    have one : ∀ i, i < l → ∃ z, elems[i]? = some z ∧ ∃ k n s2 a2 l2 c2 L2, w.cell? (a'.add (i * 4) |>.add 0) = some (.int .i64 k) ∧ w.cell? (a'.add (i * 4) |>.add 1) = some (.int .i64 n) ∧ w.cell? (a'.add (i * 4) |>.add 2) = some (.string s2) ∧ w.cell? (a'.add (i * 4) |>.add 3) = some (.slice a2 l2 c2) ∧ s2.size ≤ maxLen ∧ l2 ≤ c2 ∧ LiesS w L2 a2 l2 ∧ wtL L2 + 1 ≤ Rows.uptoBulk z.1 := by
      intro i hi
      have hi2 := hel i hi
      obtain ⟨z, hz⟩ : ∃ z, elems[i]? = some z := ⟨elems[i], by simp [hlen, hi]⟩
      refine ⟨z, hz, ?_⟩
      rw [hz, cells4, Option.bind_eq_some_iff] at hi2
      obtain ⟨cs, hcs, ht⟩ := hi2
      obtain ⟨c0, c1, c2, c3, rfl, q0, q1, q2, q3⟩ := cells_four hcs
      obtain ⟨k, n, s2, a2, l2, cc, m2, y2, e2, hs2, hm2, ht2, hb2⟩ := trod_weight ht
      simp only [List.cons.injEq, and_true] at e2
      obtain ⟨rfl, rfl, rfl, rfl⟩ := e2
      obtain ⟨hlc, L2, hL2, hw2⟩ := ih m2 (by omega) ht2
      exact ⟨k, n, s2, a2, l2, cc, L2, q0, q1, q2, q3, hs2, hlc, hL2, by omega⟩
    by_cases h0 : l = 0
    · subst h0
      refine ⟨[], by unfold LiesS; rfl, ?_⟩
      simp only [wtL, Rows.uptoBulk]
      omega
    · obtain ⟨b, off, sp⟩ := a'
      have hsp : sp = none ∧ b < w.heap.size := by
        obtain ⟨z, _, k, n, s2, a2, l2, c2, m2, q0, _⟩ := one 0 (by omega)
        rw [Nat.zero_mul, add_zero, add_zero] at q0
        exact spot_none q0
      obtain ⟨rfl, hb⟩ := hsp
      simp only [add_none] at one
      have all : ∀ j, j ≤ l → ∃ ts : List T, ts.length = j ∧ LiesS w ts (some ⟨b, off + (l - j) * 4, none⟩) j ∧ wtL ts ≤ Rows.uptoBulkAll ((elems.drop (l - j)).map (·.1)) + 1 := by
        intro j
        induction j with
        | zero =>
          intro _
          refine ⟨[], rfl, by unfold LiesS; rfl, ?_⟩
          simp only [wtL]
          omega
        | succ j ihj =>
          intro hj
          obtain ⟨ts, hl, hts, hw⟩ := ihj (by omega)
          obtain ⟨z, hz, k, n, s2, a2, l2, c2, L2, q0, q1, q2, q3, hs2, hlc, hL2, hw2⟩ := one (l - (j + 1)) (by omega)
          refine ⟨.node k n s2 L2 :: ts, by simp [hl], ?_, ?_⟩
          · unfold LiesS
            refine ⟨b, _, rfl, by omega, by omega, hb, ?_, ?_⟩
            · unfold LiesT
              exact ⟨by omega, a2, l2, c2, q0, q1, q2, q3, hlc, hL2⟩
            · rw [show off + (l - (j + 1)) * 4 + 4 = off + (l - j) * 4 from by omega, hl]
              exact hts
          · have e : elems.drop (l - (j + 1)) = z :: elems.drop (l - j) := by
              rw [show l - j = l - (j + 1) + 1 from by omega]
              obtain ⟨hlt, rfl⟩ := List.getElem?_eq_some_iff.1 hz
              exact (List.drop_eq_getElem_cons hlt)
            rw [e]
            simp only [wtL, wtT, List.map_cons, Rows.uptoBulkAll]
            omega
      obtain ⟨ts, hl, hts, hw⟩ := all l (Nat.le_refl _)
      rw [Nat.sub_self, Nat.zero_mul, Nat.add_zero] at hts
      rw [Nat.sub_self, List.drop_zero] at hw
      refine ⟨ts, hts, ?_⟩
      simp only [Rows.uptoBulk]
      omega

theorem cells2c : Tryd.prog.cellsOf 39 = 2 := by kernel_rfl
theorem cells1r : Tryd.prog.cellsOf 25 = 1 := by kernel_rfl
theorem cells1j : Tryd.prog.cellsOf 3 = 1 := by kernel_rfl

theorem trod_same {P : Program} {t t' e : TypeId} (h1 : P.underlying t = some (.slice e)) (h2 : P.underlying t' = some (.slice e)) (fuel : Nat) (a : Option Addr) (l c : Nat) : DataW.trod enc P w base spare held fuel t [.slice a l c] = DataW.trod enc P w base spare held fuel t' [.slice a l c] := by
  cases fuel with
  | zero => rfl
  | succ m =>
    unfold DataW.trod
    rw [h1, h2]
    cases a with
    | none => cases l <;> cases c <;> rfl
    | some _ => rfl

/-- A row reads as a list of values does. -/
theorem trod_row {fuel : Nat} {a : Option Addr} {l c : Nat} {y : DataW H × List MemPlace} (h : DataW.trod enc Tryd.prog w base spare held fuel 25 [.slice a l c] = some y) : DataW.trod enc Tryd.prog w base spare held fuel 24 [.slice a l c] = some y :=
  (trod_same Tryd.underlying24 Tryd.underlying25 fuel a l c).trans h

theorem len2 {cs : List Value} (h : cs.length = 2) : ∃ c0 c1, cs = [c0, c1] := by
  match cs, h with
  | [c0, c1], _ => exact ⟨c0, c1, rfl⟩

theorem bulk_pos (d : DataW H) : 1 ≤ Rows.uptoBulk d := by
  cases d with
  | lit x => cases x <;> simp [Rows.uptoBulk]
  | _ => simp [Rows.uptoBulk]

theorem bulk_len {q : Nat} : ∀ l : List (DataW H), (∀ d ∈ l, q ≤ Rows.uptoBulk d) → l.length * q ≤ Rows.uptoBulkAll l
  | [], _ => by simp [Rows.uptoBulkAll]
  | d :: r, h => by
    have h1 := h d (List.mem_cons_self ..)
    have h2 := bulk_len r fun x hx => h x (List.mem_cons_of_mem _ hx)
    simp only [Rows.uptoBulkAll, List.length_cons, Nat.add_mul]
    omega

/-- A count that reads: its row, how often it stands there. -/
theorem trod_count {fuel : Nat} {cs : List Value} {x : DataW H × List MemPlace} (h : DataW.trod enc Tryd.prog w base spare held fuel 39 cs = some x) :
    ∃ a l c n m y, cs = [.slice a l c, .int .i64 n] ∧ (Lit.int .i64 n).wf = true ∧ DataW.trod enc Tryd.prog w base spare held m 24 [.slice a l c] = some y ∧ 3 ≤ Rows.uptoBulk x.1 := by
  obtain ⟨xs, m, rfl, rfl, hlen, hxs, hf⟩ := DataW.trod_struct Tryd.underlying39 h
  rw [cells2c] at hlen
  obtain ⟨c0, c1, rfl⟩ := len2 hlen
  have f0 : DataW.trod enc Tryd.prog w base spare held m 25 (([c0, c1].drop 0).take (Tryd.prog.cellsOf 25)) = xs[0]? := hf 0 _ rfl
  have f1 : DataW.trod enc Tryd.prog w base spare held m 3 (([c0, c1].drop 1).take (Tryd.prog.cellsOf 3)) = xs[1]? := hf 1 _ rfl
  have hx : xs.length = 2 := hxs
  obtain ⟨y0, hy0⟩ : ∃ y, xs[0]? = some y := ⟨xs[0], by simp [hx]⟩
  obtain ⟨y1, hy1⟩ : ∃ y, xs[1]? = some y := ⟨xs[1], by simp [hx]⟩
  rw [hy0, cells1r] at f0
  rw [hy1, cells1j] at f1
  have g0 : DataW.trod enc Tryd.prog w base spare held m 25 [c0] = some y0 := f0
  have g1 : DataW.trod enc Tryd.prog w base spare held m 3 [c1] = some y1 := f1
  obtain ⟨a, l, c, rfl⟩ := slice_form Tryd.underlying25 g0
  obtain ⟨n, e1, _, wn⟩ := DataW.trod_int Tryd.underlying3 g1
  simp only [List.cons.injEq, and_true] at e1
  subst e1
  refine ⟨a, l, c, n, m, y0, rfl, wn, trod_row g0, ?_⟩
  have h5 := bulk_len (q := 1) (xs.map (·.1)) fun d _ => bulk_pos d
  rw [List.length_map, hx] at h5
  simp only [Rows.uptoBulk]
  omega

/-- What is known of a bag that reads. -/
structure BagArg (w : World) (M : List (Ct × Int)) (a : Option Addr) (l : Nat) : Prop where
  bag : BagIn w M a l
  rows : RowsIn M
  told : ∀ x e, (x, e) ∈ M → RowTold x.L e

/-- A bag that reads: one that is known, if it isn't too long for any. -/
theorem bag_in (B : Nat) (hB : B ≤ w.heap.size) (hT : Tabs B w) {fuel : Nat} {a : Option Addr} {l c : Nat} {y : DataW H × List MemPlace} (h : DataW.trod enc Tryd.prog w base spare held fuel 23 [.slice a l c] = some y) : l ≤ 9223372036854775807 ∧ (l ≤ 1000000 → ∃ M, BagArg w M a l) := by
  obtain ⟨h1, h2, h3⟩ := slice_rows Tryd.underlying23 cells2c (by omega) h
  refine ⟨h2, fun hl6 => ?_⟩
  by_cases h0 : l = 0
  · subst h0
    exact ⟨[], ⟨⟨rfl, by omega, fun h => absurd h (Nat.lt_irrefl _)⟩, fun x e hx => by cases hx⟩, fun x e hx => (by cases hx), fun x e hx => by cases hx⟩
  · obtain ⟨b, off, ha, hb, hall⟩ := h3 (by omega)
    obtain ⟨M, hl, hM⟩ := list_of (fun i (q : Ct × Int) => (w.cell? ⟨b, off + i * 2, none⟩ = some (.slice q.1.a q.1.l q.1.c) ∧ w.cell? ⟨b, off + i * 2 + 1, none⟩ = some (.int .i64 q.1.n)) ∧ LiesS w q.1.L q.1.a q.1.l ∧ q.1.l ≤ q.1.c ∧ InL q.1.L ∧ ∃ es, ValsAt w q.1.a q.1.l es ∧ q.2 = rowErr es ∧ (firstE es = 0 ↔ ∀ t ∈ q.1.L, Ck 6 t) ∧ es = q.1.L.map (chk 6)) l (fun i hi => by
      obtain ⟨m, cs, z, q1, q2, q3⟩ := hall i hi
      obtain ⟨a', l', c', n, m', y', rfl, wn, hy, _⟩ := trod_count q3
      obtain ⟨hlc, LL, hLL, hin⟩ := tree_in m' hy
      obtain ⟨es, he, hck⟩ := valsB_at B w hB hT LL a' l' hin hLL
      exact ⟨(⟨n, a', l', c', LL⟩, rowErr es), ⟨q2 0 _ rfl, q2 1 _ rfl⟩, hLL, hlc, hin, es, he, rfl, hck⟩)
    have hm : ∀ x e, (x, e) ∈ M → LiesS w x.L x.a x.l ∧ x.l ≤ x.c ∧ InL x.L ∧ ∃ es, ValsAt w x.a x.l es ∧ e = rowErr es ∧ (firstE es = 0 ↔ ∀ t ∈ x.L, Ck 6 t) ∧ es = x.L.map (chk 6) := fun x e hx => by
      obtain ⟨i, hi⟩ := List.getElem?_of_mem hx
      exact (hM i _ hi).2
    have ht : ∀ x e, (x, e) ∈ M → RowTold x.L e := fun x e hx => by
      obtain ⟨g1, g2, g3, es, g4, g5, g6⟩ := hm x e hx
      exact ⟨B, w, x.a, x.l, es, hB, hT, g3, g1, g4, g5, g6⟩
    have hr : ∀ x e, (x, e) ∈ M → e = 0 → RightR x.L := fun x e hx h0 => ⟨((ht x e hx).zero.1 h0).1, ((ht x e hx).zero.1 h0).2, (ht x e hx).inl⟩
    refine ⟨M, ⟨⟨by rw [List.length_map]; exact hl.symm, hl6, fun _ => ⟨b, off, ha, hb, fun i x hx => ?_⟩⟩, fun x e hx => ?_⟩, fun x e hx => ?_, ht⟩
    · rw [List.getElem?_map] at hx
      obtain ⟨q, hq, rfl⟩ := Option.map_eq_some_iff.1 hx
      exact (hM i q hq).1
    · obtain ⟨g1, g2, g3, es, g4, g5, g6⟩ := hm x e hx
      exact ⟨g1, es, g4, g5, fun h0 => by have := (hr x e hx h0).wt; omega⟩
    · obtain ⟨g1, g2, g3, es, g4, g5, g6⟩ := hm x e hx
      refine ⟨g2, g3, fun h0 => ⟨?_, (hr x e hx h0).wt⟩⟩
      rw [g1.length.1]
      exact (hr x e hx h0).1

/-- How long a bag is, against its bulk. -/
theorem bag_len {fuel : Nat} {a : Option Addr} {l c : Nat} {y : DataW H × List MemPlace} (h : DataW.trod enc Tryd.prog w base spare held fuel 23 [.slice a l c] = some y) : l * 3 ≤ Rows.uptoBulk y.1 := by
  rcases DataW.trod_slice Tryd.underlying23 h with ⟨e, rfl⟩ | ⟨a', l', c', elems, rest, m, hfu, e, rfl, _, h1, h2, hlen, hel, _⟩
  · simp at e
    obtain ⟨_, rfl, _⟩ := e
    omega
  · simp at e
    obtain ⟨rfl, rfl, rfl⟩ := e
    have h3 := bulk_len (q := 3) (elems.map (·.1)) fun d hd => by
      obtain ⟨z, hz, rfl⟩ := List.mem_map.1 hd
      obtain ⟨i, hi⟩ := List.getElem?_of_mem hz
      have hil : i < l := by have := (List.getElem?_eq_some_iff.1 hi).1; omega
      have h4 := hel i hil
      rw [hi, Option.bind_eq_some_iff] at h4
      obtain ⟨cs, _, ht⟩ := h4
      obtain ⟨_, _, _, _, _, _, _, _, _, h5⟩ := trod_count ht
      exact h5
    rw [List.length_map, hlen] at h3
    simp only [Rows.uptoBulk]
    omega
end

theorem BagArg.rb {w : World} {M : List (Ct × Int)} {a : Option Addr} {l : Nat} (h : BagArg w M a l) (h0 : bagE M = 0) : RB w (M.map fun y => y.1.cn) a l := ⟨(fit_iff h.told).1 h0, M, rfl, h.bag, h.rows, h0⟩

open Go.RowKit Go.Lib
set_option linter.unusedVariables false

theorem accept_eq : (Rows.laid_unicode_utf8_acceptRanges : DataW Unit) = acceptData := by kernel_rfl
theorem first_eq : (Rows.laid_unicode_utf8_first : DataW Unit) = firstData := Pinned.utf8First_eq

theorem u8extra : U8Extra Tryd.prog Tryd.lays196_ren := ⟨by kernel_rfl, by kernel_rfl, by kernel_rfl, by kernel_rfl, by kernel_rfl, by kernel_rfl, by kernel_rfl⟩

theorem tabs_of {l : List (String × DataW Unit)} (hf : ("unicode/utf8.first", Rows.laid_unicode_utf8_first) ∈ l) (ha : ("unicode/utf8.acceptRanges", Rows.laid_unicode_utf8_acceptRanges) ∈ l) {W : World} (h : laidMet Tryd.prog l W) : Tabs W.heap.size W := by
  have h0 : Lib.Utf8Tabs 0 1 W := utf8Tabs_of_readsT (U8Types.of196 Tryd.lays196) u8extra
    (first_eq ▸ Lib.laidMet.reads h hf)
    (accept_eq ▸ Lib.laidMet.reads h ha)
  have b0 : 0 < W.heap.size := World.block_lt_of_cell? W _ (h0.1 0 (by decide))
  have b1 : 1 < W.heap.size := World.block_lt_of_cell? W _ (h0.2 0 (by decide)).1
  intro w' hb
  refine ⟨fun c hc => ?_, fun i hi => ⟨?_, ?_⟩⟩
  · rw [hb.cell (p := ⟨0, c, none⟩) b0]; exact h0.1 c hc
  · rw [hb.cell (p := ⟨1, 2 * i, none⟩) b1]; exact (h0.2 i hi).1
  · rw [hb.cell (p := ⟨1, 2 * i + 1, none⟩) b1]; exact (h0.2 i hi).2

set_option linter.unusedSimpArgs false

set_option maxHeartbeats 4000000 in
set_option maxRecDepth 100000 in
/-- A bag that is too long, whatever it holds. -/
theorem check_long (a : Option Addr) (l c : Nat) (w : World) (hl : 2000 < l) (hl2 : l ≤ 9223372036854775807) :
    Calls Tryd.prog 7 #[.slice a l c] w fun e w' => e = .returned (.int .i64 2) ∧ Below w.heap.size w w' := by
  have hb' : (2000 : Int) < l := by omega
  go_enter Tryd.func7, Tryd.ntmps7
  go_wp2_with fail
  go_ret
  exact ⟨rfl, Below.refl _ _⟩

theorem same_rb {w : World} {X : List Cn} {a a' : Option Addr} {l c l' c' : Nat} (h : RB w X a l) (h' : RB w X a' l') :
    Calls Tryd.prog 12 #[.slice a l c, .slice a' l' c'] w fun e w' => e = .returned (.bool true) ∧ Below w.heap.size w w' := by
  obtain ⟨F, hF, hat, _, hok⟩ := h.cts
  obtain ⟨G, hG, hat', _, hok'⟩ := h'.cts
  have hc := sameBag_ref F G a a' l c l' c' w hat hat' (fun x hx => ⟨(hok x hx).1, by have := (hok x hx).2.2.2.2.2; omega⟩) (fun x hx => ⟨(hok' x hx).1, by have := (hok' x hx).2.2.2.2.2; omega⟩)
  have hl : likeB F G = true := (like_cn _ _).2 (by rw [hF, hG])
  rw [hl] at hc
  exact hc

/-- The bag of one empty row, as it is written down. -/
theorem rb_empty {B : Nat} {w : World} (hB : B ≤ w.heap.size) (hT : Tabs B w) {b : Nat} (h : w.heap[b]? = some (.cells #[.slice none 0 0, .int .i64 1] 39 (0, 0))) : RB w [([], 1)] (some ⟨b, 0, none⟩) 1 := by
  have := rb_mk hB hT (F := [⟨1, none, 0, 0, []⟩]) (a := some ⟨b, 0, none⟩) (l := 1) fit_empty ⟨rfl, by decide, fun _ => ⟨b, 0, rfl, blkB_lt h, fun i x hx => by
    match i, hx with
    | 0, hx => simp at hx; subst hx; exact ⟨cell_of h 0, cell_of h 1⟩
    | i + 1, hx => simp at hx⟩⟩ fun x hx => by
    rw [List.mem_singleton] at hx
    subst hx
    exact ⟨by unfold LiesS; rfl, Nat.le_refl _⟩
  exact this

set_option linter.unusedSimpArgs false

def onceC (x : Ct) : Ct := { x with n := 1 }

/-- Those that stand there more than no times, once. -/
def posC (X : List Ct) : List Ct := (X.filter fun x => decide (0 < x.n)).map onceC

theorem posC_take {X : List Ct} {i : Nat} {x : Ct} (h : X[i]? = some x) : posC (X.take (i + 1)) = if 0 < x.n then posC (X.take i) ++ [onceC x] else posC (X.take i) := by
  unfold posC
  rw [List.take_add_one, h, Option.toList_some, List.filter_append, List.map_append]
  by_cases hp : 0 < x.n
  · rw [if_pos hp, List.filter_cons_of_pos (by simpa using hp)]
    rfl
  · rw [if_neg hp, List.filter_cons_of_neg (by simpa using hp)]
    simp

theorem posC_len (X : List Ct) : (posC X).length ≤ X.length := by
  unfold posC
  rw [List.length_map]
  exact List.length_filter_le _ _

/-- A row of the world ahead lies apart from what the counter makes. -/
theorem lie_ahead {T0 bo : Nat} {w0 w wr : World} {v : Value} {M : List Ct} (hw0 : w0.heap.size ≤ T0) (k0 : Below w0.heap.size w0 w) (hT : T0 ≤ w.heap.size) (hbo : T0 ≤ bo) (hI : TInv T0 bo M wr v) (hS : TStep bo (.slice none 0 0) v w wr) {L : List T} {a : Option Addr} {l : Nat} (h : LiesS w0 L a l) : LieA (fun k => k ≠ bo ∧ v.ownBlock ≠ some k) wr L a l := by
  have hbel : Below T0 w wr := hS.toBelow hbo (fun g hg => by cases hg) hT
  have h1 := LieA.kept (A := fun _ => True) (A' := fun i => i < w0.heap.size) (Nat.le_refl _) (fun i _ hi => ⟨hi, rfl⟩) _ _ _ (LiesS.lie _ _ _ h)
  refine LieA.kept (Nat.le_trans k0.size hS.size) (fun k hk _ => ⟨⟨by omega, fun e => by have := (rowLt hI.row e).1; omega⟩, ?_⟩) _ _ _ h1
  exact (hbel.block k (by omega)).trans (k0.block k hk)

set_option maxHeartbeats 4000000 in
set_option maxRecDepth 100000 in
theorem distinct1_any (T0 bo br : Nat) (X : List Ct) (a : Option Addr) (l c : Nat) (w0 w : World) (hw0 : w0.heap.size ≤ T0) (k0 : Below w0.heap.size w0 w) (hT : T0 ≤ w.heap.size) (hbr : br < T0) (hbo : T0 ≤ bo) (hbx : w.heap[br]? = some (.cells #[.slice a l c] 23 (0, 0))) (hX : CtsAt w0 X a l) (hL : ∀ x ∈ X, LiesS w0 x.L x.a x.l) (hl9 : l ≤ 900000) (h : TInv T0 bo [] w (.slice none 0 0)) :
    Calls Tryd.prog 40 #[.func (.func 47) #[] #[.pointer (some ⟨bo, 0, none⟩)], .pointer (some ⟨br, 0, none⟩)] w fun e w' => e = .returned (.tuple #[]) ∧ ∃ v', TInv T0 bo (posC X) w' v' ∧ TStep bo (.slice none 0 0) v' w w' := by
  have HX := toHid hX
  have HL := toHid hL
  have H := toHid h
  have HK0 := toHid k0
  have y0 := cell_of hbx 0
  simp at y0
  have HL0 := toHid hX.1
  have hbl := blkB_lt hbx
  clear hX hL h hbx k0
  go_enter Tryd.func40, Tryd.ntmps40
  go_wp2_with fail
  go_loopg [7] l (fun g s7 wr => ∃ (i : Nat) (v : Value), i ≤ l ∧ l - i ≤ g ∧ s7 = .int .i64 i ∧ TInv T0 bo (posC (X.take i)) wr v ∧ TStep bo (.slice none 0 0) v w wr)
  case atStart => exact ⟨0, _, Nat.zero_le _, by omega, rfl, H.out, TStep.refl _ _ _⟩
  case round =>
    clear y0
    obtain ⟨i, v, hi, hg, rfl, hinv, hst⟩ := hrel
    have HI := toHid hinv
    have HS := toHid hst
    clear hinv hst
    by_cases hlt : i < l
    · have hil : (i : Int) < l := by omega
      obtain ⟨x, hx, _⟩ := drop_get (L := X) (i := i) (by have := HL0.out; omega)
      obtain ⟨b, off, rfl, hb, hc⟩ := HX.out.2.2 (by omega)
      obtain ⟨c0, c1⟩ := hc i x hx
      have hbel : Below T0 w wr := HS.out.toBelow hbo (fun g hg => by cases hg) hT
      have d0 := (hbel.cell (p := ⟨b, off + i * 2, none⟩) (by show b < T0; omega)).trans ((HK0.out.cell (p := ⟨b, off + i * 2, none⟩) hb).trans c0)
      have d1 := (hbel.cell (p := ⟨b, off + i * 2 + 1, none⟩) (by show b < T0; omega)).trans ((HK0.out.cell (p := ⟨b, off + i * 2 + 1, none⟩) hb).trans c1)
      have HA : Hid (Below wr.heap.size wr (wr.alloc (cObj x))) := (Below.refl _ _).alloc (Nat.le_refl _) _
      have HN := toHid (alloc_new wr (cObj x))
      have HLx := toHid (HL.out x (List.mem_of_getElem? hx))
      have HTK := toHid (posC_take hx)
      have hblr : b < wr.heap.size := by have := HS.out.size; have := HK0.out.size; omega
      clear c0 c1 hc hx hbel
      go_upto_region 3 with fail
      have HI1 := toHid (HI.out.below HA.out)
      have HS1 := toHid (HS.out.trans (TStep.below (bo := bo) (v := v) HA.out))
      generalize wr.alloc (cObj x) = W1 at HA HN HI1 HS1 ⊢
      generalize wr.heap.size = bx at HN ⊢
      have x0 := cell_of HN.out 0
      have x1 := cell_of HN.out 1
      simp at x0 x1
      have hbx := blkB_lt HN.out
      clear d0 d1 hblr HA HI HS
      by_cases hp : 0 < x.n
      · have hc1 := tally1_any T0 bo (posC (X.take i)) (onceC x) W1 v (Nat.le_trans hT HS1.out.size) HI1.out (by have := posC_len (X.take i); rw [List.length_take] at this; omega) (lie_ahead hw0 HK0.out hT hbo HI1.out HS1.out HLx.out)
        have HC : Hid (Calls Tryd.prog 47 #[.slice x.a x.l x.c, .int .i64 1, .pointer (some ⟨bo, 0, none⟩)] W1 fun e w' => e = .returned (.tuple #[]) ∧ ∃ v', TInv T0 bo (posC (X.take i) ++ [onceC x]) w' v' ∧ TStep bo v v' W1 w') := hc1
        rw [if_pos hp] at HTK
        clear hc1
        go_wp2_with fail
        refine HC.out.mono ?_
        rintro e w1 ⟨rfl, v1, hi1, hs1⟩
        have HI2 := toHid hi1
        have HS2 := toHid (HS1.out.trans hs1)
        clear hi1 hs1 x0 x1
        go_wp2_with fail
        go_roundg (l - (i + 1))
        case measure => omega
        case rel =>
          refine ⟨i + 1, v1, by omega, Nat.le_refl _, by go_num, ?_, HS2.out⟩
          rw [HTK.out]
          exact HI2.out
      · rw [if_neg hp] at HTK
        have hp' : ¬ ((0 : Int) < x.n) := hp
        clear hp
        go_wp2_with fail
        go_roundg (l - (i + 1))
        case measure => omega
        case rel =>
          refine ⟨i + 1, v, by omega, Nat.le_refl _, by go_num, ?_, HS1.out⟩
          rw [HTK.out]
          exact HI1.out
    · have he : i = l := by omega
      subst he
      have HTK : Hid (X.take i = X) := List.take_of_length_le (by have := HL0.out; omega)
      go_wp2_with fail
      go_end0
      refine ⟨rfl, v, ?_, HS.out⟩
      have h1 := HI.out
      rw [HTK.out] at h1
      exact h1
end Go.Proofs.YtcfifihlfomccaaDoor
