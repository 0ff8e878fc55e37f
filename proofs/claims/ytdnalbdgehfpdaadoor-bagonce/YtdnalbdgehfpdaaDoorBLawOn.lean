/-
  What is proved here: the law BagOnce answers true of any bag; what was there is as it was.
-/
import Derived.Test.YtdnalbdgehfpdaaDoorQBAS
import Derived.Test.YtdnalbdgehfpdaaDoorQBAT
import Derived.Test.YtdnalbdgehfpdaaDoorQBAU
namespace Go.Proofs.YtdnalbdgehfpdaaDoor
open Go.RowKit
set_option linter.unusedVariables false
set_option linter.unusedSimpArgs false

set_option maxHeartbeats 4000000 in
set_option maxRecDepth 100000 in
/-- A bag that is too long, whatever it holds. -/
theorem check_long (a : Option Addr) (l c : Nat) (w : World) (hl : 2000 < l) (hl2 : l ≤ 9223372036854775807) :
    Calls Tryd.prog 7 #[.slice a l c] w fun e w' => e = .returned (.int .i64 2) ∧ Below w.heap.size w w' := by
  have hb' : (2000 : Int) < l := by omega
  go_enter Tryd.func7, Tryd.ntmps7
  go_wp2_with fail
  go_ret
  exact ⟨rfl, Below.refl _ _⟩

theorem same_rb {w : World} {X : List Cn} {a a' : Option Addr} {l c l' c' : Nat} (h : RB w X a l) (h' : RB w X a' l') :
    Calls Tryd.prog 12 #[.slice a l c, .slice a' l' c'] w fun e w' => e = .returned (.bool true) ∧ Below w.heap.size w w' := by
  obtain ⟨F, hF, hat, _, hok⟩ := h.cts
  obtain ⟨G, hG, hat', _, hok'⟩ := h'.cts
  have hc := sameBag_ref F G a a' l c l' c' w hat hat' (fun x hx => ⟨(hok x hx).1, by have := (hok x hx).2.2.2.2.2; omega⟩) (fun x hx => ⟨(hok' x hx).1, by have := (hok' x hx).2.2.2.2.2; omega⟩)
  have hl : likeB F G = true := (like_cn _ _).2 (by rw [hF, hG])
  rw [hl] at hc
  exact hc

/-- The bag of one empty row, as it is written down. -/
theorem rb_empty {B : Nat} {w : World} (hB : B ≤ w.heap.size) (hT : Tabs B w) {b : Nat} (h : w.heap[b]? = some (.cells #[.slice none 0 0, .int .i64 1] 39 (0, 0))) : RB w [([], 1)] (some ⟨b, 0, none⟩) 1 := by
  have := rb_mk hB hT (F := [⟨1, none, 0, 0, []⟩]) (a := some ⟨b, 0, none⟩) (l := 1) fit_empty ⟨rfl, by decide, fun _ => ⟨b, 0, rfl, blkB_lt h, fun i x hx => by
    match i, hx with
    | 0, hx => simp at hx; subst hx; exact ⟨cell_of h 0, cell_of h 1⟩
    | i + 1, hx => simp at hx⟩⟩ fun x hx => by
    rw [List.mem_singleton] at hx
    subst hx
    exact ⟨by unfold LiesS; rfl, Nat.le_refl _⟩
  exact this

set_option maxHeartbeats 4000000 in
set_option maxRecDepth 100000 in
theorem once_bad (z : Int) (hz : z ≠ 0) (a : Option Addr) (l c : Nat) (w : World) (hT : Tabs w.heap.size w) (hC : ∀ W, Below w.heap.size w W → Calls Tryd.prog 7 #[.slice a l c] W fun e w' => e = .returned (.int .i64 z) ∧ Below W.heap.size W w') :
    Calls Tryd.prog 5 #[.slice a l c] w fun e w' => e = .returned (.bool true) ∧ Below w.heap.size w w' := by
  have HD := toHid (dist_bad z hz a l c w hC)
  have HT := toHid hT
  have hz' : (z != 0) = true := by simp [hz]
  clear hz hC hT
  go_enter Tryd.func5, Tryd.ntmps5
  go_wp2_with fail
  refine HD.out.mono ?_
  rintro e w1 ⟨rfl, k1⟩
  have HK1 := toHid k1
  clear k1
  go_wp2_with fail
  refine (bagged_true w.heap.size w1 HK1.out.size (HT.out.below HK1.out)).mono ?_
  rintro e w2 ⟨rfl, k2⟩
  have HK2 := toHid (HK1.out.trans (k2.mono HK1.out.size))
  clear k2
  go_wp2_with fail
  refine (bagged_true w.heap.size w2 HK2.out.size (HT.out.below HK2.out)).mono ?_
  rintro e w3 ⟨rfl, k3⟩
  have HK3 := toHid (HK2.out.trans (k3.mono HK2.out.size))
  clear k3
  go_wp2_with fail
  go_ret
  exact ⟨rfl, HK3.out⟩

set_option maxHeartbeats 8000000 in
set_option maxRecDepth 100000 in
theorem once_good (X : List Cn) (a : Option Addr) (l c : Nat) (w : World) (hT : Tabs w.heap.size w) (hX : RB w X a l) :
    Calls Tryd.prog 5 #[.slice a l c] w fun e w' => e = .returned (.bool true) ∧ Below w.heap.size w w' := by
  have HD := toHid (dist_good w.heap.size X a l c w (Nat.le_refl _) hT hX)
  have HT := toHid hT
  have HX := toHid hX
  clear hT hX
  go_enter Tryd.func5, Tryd.ntmps5
  go_wp2_with fail
  refine HD.out.mono ?_
  rintro e w1 ⟨⟨a1, l1, c1, rfl, h1⟩, k1⟩
  have HK1 := toHid k1
  have HR1 := toHid h1
  clear k1 h1
  go_wp2_with fail
  refine (bagged_true w.heap.size w1 HK1.out.size (HT.out.below HK1.out)).mono ?_
  rintro e w2 ⟨rfl, k2⟩
  have HK2 := toHid (HK1.out.trans (k2.mono HK1.out.size))
  have HR2 := toHid (HR1.out.below k2)
  clear k2 HR1
  go_wp2_with fail
  refine (dist_good w.heap.size (posX X) a1 l1 c1 w2 HK2.out.size (HT.out.below HK2.out) HR2.out).mono ?_
  rintro e w3 ⟨⟨a3, l3, c3, rfl, h3⟩, k3⟩
  have HK3 := toHid (HK2.out.trans (k3.mono HK2.out.size))
  rw [posX_twice] at h3
  have HSB := toHid (same_rb (c := c1) (c' := c3) (HR2.out.below k3) h3)
  clear k3 h3 HR2
  go_wp2_with fail
  refine HSB.out.mono ?_
  rintro e w4 ⟨rfl, k4⟩
  have HK4 := toHid (HK3.out.trans (k4.mono HK3.out.size))
  clear k4 HSB
  have a4 : Below w4.heap.size w4 (w4.alloc (.cells #[.slice none 0 0, .int .i64 1] 39)) := (Below.refl _ _).alloc (Nat.le_refl _) _
  have HK5 := toHid (HK4.out.trans (a4.mono HK4.out.size))
  have HJ := toHid (join_rb w.heap.size X [([], 1)] 0 a (some ⟨w4.heap.size, 0, none⟩) l c 1 1 _ HK5.out.size (HT.out.below HK5.out) (HX.out.below HK5.out) (rb_empty HK5.out.size (HT.out.below HK5.out) (alloc_new w4 _)))
  clear a4
  go_wp2_with fail
  refine HJ.out.mono ?_
  rintro e w5 ⟨hj, k5⟩
  rcases hj with ⟨_, _, _, hn⟩ | ⟨Z, a5, l5, c5, rfl, h5, hc⟩
  · exact absurd (joins_empty HX.out.1) hn
  have hZ : Z = X := bag_ext _ _ h5.1.bag HX.out.1.bag fun r => by rw [hc, join_empty]
  subst hZ
  have HK6 := toHid (HK5.out.trans (k5.mono HK5.out.size))
  have HSB := toHid (same_rb (c := c5) (c' := c) h5 (HX.out.below HK6.out))
  clear k5 hc h5 HJ
  go_wp2_with fail
  refine HSB.out.mono ?_
  rintro e w6 ⟨rfl, k6⟩
  have HK7 := toHid (HK6.out.trans (k6.mono HK6.out.size))
  have hX7 := HX.out.below HK7.out
  obtain ⟨hf, M, m1, m2, m3, m4⟩ := hX7
  have HA := toHid (add_any w.heap.size Z Z (-1) 0 0 0 a a l c l c w6 HK7.out.size (HT.out.below HK7.out) (by decide) rfl (fun W kW => by have h := check_bag M a l c w6 W m2 kW; rw [m4] at h; exact h) (fun W kW => by have h := check_bag M a l c w6 W m2 kW; rw [m4] at h; exact h) (fun _ => HX.out.below HK7.out) (fun _ => HX.out.below HK7.out))
  clear k6 HSB hf m1 m2 m3 m4
  go_wp2_with fail
  refine HA.out.mono ?_
  rintro e w7 ⟨hh, k7⟩
  have HK8 := toHid (HK7.out.trans (k7.mono HK7.out.size))
  rcases hh with ⟨h0, _⟩ | ⟨_, Y, y1, y2, y3⟩
  · exact absurd rfl h0
  have hf0 : Fit [] := ⟨by decide, ⟨List.Pairwise.nil, fun c hc => by cases hc⟩, fun c hc => (by cases hc), fun c hc => by cases hc⟩
  have hY : Y = [] := bag_ext _ _ y1 hf0.bag fun r => by rw [y2]; show _ = (0 : Int); omega
  subst hY
  rcases y3 with ⟨_, a8, l8, c8, rfl, h8⟩ | ⟨hn, _⟩
  case inr => exact absurd hf0 hn
  have hl8 : l8 = 0 := by
    obtain ⟨F, hF, hat, hl, _⟩ := h8.cts
    exact hl
  subst hl8
  clear k7 h8 y1 y2 HA
  go_wp2_with fail
  go_ret
  exact ⟨rfl, HK8.out⟩

/-- The law, of any bag that reads. -/
theorem law_once (a : Option Addr) (l c : Nat) (w : World) (hT : Tabs w.heap.size w) (hl : l ≤ 9223372036854775807) (hM : l ≤ 1000000 → ∃ M, BagArg w M a l) :
    Calls Tryd.prog 5 #[.slice a l c] w fun e w' => e = .returned (.bool true) ∧ Below w.heap.size w w' := by
  by_cases h : 2000 < l
  · exact once_bad 2 (by decide) a l c w hT fun W kW => check_long a l c W h hl
  · obtain ⟨M, hm⟩ := hM (by omega)
    by_cases h0 : bagE M = 0
    · exact once_good _ a l c w hT (hm.rb h0)
    · exact once_bad _ h0 a l c w hT fun W kW => check_bag M a l c w W hm.bag kW
end Go.Proofs.YtdnalbdgehfpdaaDoor
