/-
  What is proved here: what the texts BBagged, BArg, BSameR, FBags, FTold, FJoinA prove, in one text.
-/
import Derived.Test.YtbjkpbeijkmoeaaGreatDoorQBAT
import Derived.Test.YtbjkpbeijkmoeaaGreatDoorQBAL
import Derived.Test.YtbjkpbeijkmoeaaGreatDoorQBAP
import Derived.Test.YtbjkpbeijkmoeaaGreatDoorQBAD
import Derived.Test.YtbjkpbeijkmoeaaGreatDoorRows
import Derived.Test.YtbjkpbeijkmoeaaGreatDoorBgAll
namespace Go.Proofs.YtbjkpbeijkmoeaaGreatDoor
open Go.RowKit
set_option linter.unusedVariables false

set_option linter.unusedSimpArgs false

theorem lies_num {w : World} {b : Nat} {n : Int} (h : w.heap[b]? = some (vObj 2 n ⟨#[]⟩ none 0 0)) : LiesS w [numT n] (some ⟨b, 0, none⟩) 1 := by
  unfold LiesS
  refine ⟨b, 0, rfl, rfl, by omega, blkB_lt h, ?_, by unfold LiesS; rfl⟩
  unfold numT LiesT
  exact ⟨by decide, none, 0, 0, cell_of h 0, cell_of h 1, cell_of h 2, cell_of h 3, Nat.le_refl _, by unfold LiesS; rfl⟩

/-- The counts that the closed fact writes down. -/
abbrev litC (b1 b2 : Nat) (n : Int) : List Ct := [⟨1, some ⟨b1, 0, none⟩, 1, 1, [numT 1]⟩, ⟨n, some ⟨b2, 0, none⟩, 1, 1, [numT 2]⟩]

theorem same_lit {w : World} {b b1 b2 : Nat} {n : Int} (h1 : w.heap[b1]? = some (vObj 2 1 ⟨#[]⟩ none 0 0)) (h2 : w.heap[b2]? = some (vObj 2 2 ⟨#[]⟩ none 0 0)) (h : w.heap[b]? = some (.cells #[.slice (some ⟨b1, 0, none⟩) 1 1, .int .i64 1, .slice (some ⟨b2, 0, none⟩) 1 1, .int .i64 n] 32 (0, 0))) {a : Option Addr} {l c : Nat} (hr : RB w (bagN n) a l) :
    Calls Tryz.prog 14 #[.slice a l c, .slice (some ⟨b, 0, none⟩) 2 2] w fun e w' => e = .returned (.bool true) ∧ Below w.heap.size w w' := by
  obtain ⟨F, hF, hat, _, hok⟩ := hr.cts
  have hw : ∀ n : Int, wtL [numT n] ≤ 1099511627776 := fun n => by simp [wtL, wtT, numT]
  have hc := sameBag_ref F (litC b1 b2 n) a (some ⟨b, 0, none⟩) l c 2 2 w hat ⟨rfl, by decide, fun _ => ⟨b, 0, rfl, blkB_lt h, fun i x hx => by
    match i, hx with
    | 0, hx => simp at hx; subst hx; exact ⟨cell_of h 0, cell_of h 1⟩
    | 1, hx => simp at hx; subst hx; exact ⟨cell_of h 2, cell_of h 3⟩
    | i + 2, hx => simp at hx⟩⟩ (fun x hx => ⟨(hok x hx).1, by have := (hok x hx).2.2.2.2.2; omega⟩) (fun x hx => by
    simp only [List.mem_cons, List.not_mem_nil, or_false] at hx
    rcases hx with rfl | rfl
    · exact ⟨lies_num h1, hw 1⟩
    · exact ⟨lies_num h2, hw 2⟩)
  have hl : likeB F (litC b1 b2 n) = true := (like_cn _ _).2 (by rw [hF]; rfl)
  rw [hl] at hc
  exact hc

set_option maxHeartbeats 8000000 in
set_option maxRecDepth 100000 in
theorem bagged_true (B : Nat) (w : World) (hB : B ≤ w.heap.size) (hT : Tabs B w) : Calls Tryz.prog 8 #[] w fun e w' => e = .returned (.bool true) ∧ Below w.heap.size w w' := by
  have HTB := toHid hT
  clear hT
  go_enter Tryz.func8, Tryz.ntmps8
  go_wp2_with fail
  refine (numB_any 2 _).mono ?_
  rintro e w1 ⟨rfl, k1⟩
  have HK1 := toHid k1
  clear k1
  go_wp2_with fail
  refine (numB_any 1 _).mono ?_
  rintro e w2 ⟨rfl, k2⟩
  have a1 : Below w1.heap.size w1 (w1.alloc (vObj 2 2 ⟨#[]⟩ none 0 0)) := (Below.refl _ _).alloc (Nat.le_refl _) _
  have r1 : w2.heap[w1.heap.size]? = some (vObj 2 2 ⟨#[]⟩ none 0 0) := (k2.block _ (by simp)).trans (alloc_new w1 _)
  have HK2 := toHid ((HK1.out.trans (a1.mono HK1.out.size)).trans (k2.mono (Nat.le_trans HK1.out.size a1.size)))
  have HR1 := toHid r1
  clear a1 k2 r1
  go_wp2_with fail
  refine (numB_any 2 _).mono ?_
  rintro e w3 ⟨rfl, k3⟩
  have a2 : Below w2.heap.size w2 (w2.alloc (vObj 2 1 ⟨#[]⟩ none 0 0)) := (Below.refl _ _).alloc (Nat.le_refl _) _
  have r2 : w3.heap[w2.heap.size]? = some (vObj 2 1 ⟨#[]⟩ none 0 0) := (k3.block _ (by simp)).trans (alloc_new w2 _)
  have h23 := a2.trans (k3.mono a2.size)
  have r1 := (h23.block _ (blkB_lt HR1.out)).trans HR1.out
  have HK3 := toHid (HK2.out.trans (h23.mono HK2.out.size))
  have a3 : Below w3.heap.size w3 ((w3.alloc (vObj 2 2 ⟨#[]⟩ none 0 0)).alloc (.cells #[.slice (some ⟨w1.heap.size, 0, none⟩) 1 1, .slice (some ⟨w2.heap.size, 0, none⟩) 1 1, .slice (some ⟨w3.heap.size, 0, none⟩) 1 1] 30)) := ((Below.refl _ _).alloc (Nat.le_refl _) _).alloc (by simp) _
  have r3 : ((w3.alloc (vObj 2 2 ⟨#[]⟩ none 0 0)).alloc (.cells #[.slice (some ⟨w1.heap.size, 0, none⟩) 1 1, .slice (some ⟨w2.heap.size, 0, none⟩) 1 1, .slice (some ⟨w3.heap.size, 0, none⟩) 1 1] 30)).heap[w3.heap.size]? = some (vObj 2 2 ⟨#[]⟩ none 0 0) := (Below.heap_alloc _ _ _ (by simp)).trans (alloc_new w3 _)
  have rr : ((w3.alloc (vObj 2 2 ⟨#[]⟩ none 0 0)).alloc (.cells #[.slice (some ⟨w1.heap.size, 0, none⟩) 1 1, .slice (some ⟨w2.heap.size, 0, none⟩) 1 1, .slice (some ⟨w3.heap.size, 0, none⟩) 1 1] 30)).heap[w3.heap.size + 1]? = some (.cells #[.slice (some ⟨w1.heap.size, 0, none⟩) 1 1, .slice (some ⟨w2.heap.size, 0, none⟩) 1 1, .slice (some ⟨w3.heap.size, 0, none⟩) 1 1] 30) := alloc_two w3 _ _
  have HK4 := toHid (HK3.out.trans (a3.mono HK3.out.size))
  have HOF := toHid (of_any B [⟨1, some ⟨w1.heap.size, 0, none⟩, 1, 1, [numT 2]⟩, ⟨1, some ⟨w2.heap.size, 0, none⟩, 1, 1, [numT 1]⟩, ⟨1, some ⟨w3.heap.size, 0, none⟩, 1, 1, [numT 2]⟩] (some ⟨w3.heap.size + 1, 0, none⟩) 3 3 ((w3.alloc (vObj 2 2 ⟨#[]⟩ none 0 0)).alloc (.cells #[.slice (some ⟨w1.heap.size, 0, none⟩) 1 1, .slice (some ⟨w2.heap.size, 0, none⟩) 1 1, .slice (some ⟨w3.heap.size, 0, none⟩) 1 1] 30)) (Nat.le_trans hB HK4.out.size) (HTB.out.below (HK4.out.mono hB)) ⟨rfl, by decide, fun x hx => by
      simp only [List.mem_cons, List.not_mem_nil, or_false] at hx
      rcases hx with rfl | rfl | rfl <;> rfl, fun _ => ⟨_, 0, rfl, trivial, blkB_lt rr, fun i x hx => by
        match i, hx with
        | 0, hx => simp at hx; subst hx; exact cell_of rr 0
        | 1, hx => simp at hx; subst hx; exact cell_of rr 1
        | 2, hx => simp at hx; subst hx; exact cell_of rr 2
        | i + 3, hx => simp at hx⟩⟩ fun x hx => by
      have hw : ∀ n : Int, wtL [numT n] ≤ 1099511627776 := fun n => by simp [wtL, wtT, numT]
      simp only [List.mem_cons, List.not_mem_nil, or_false] at hx
      rcases hx with rfl | rfl | rfl
      · exact ⟨lies_num ((a3.block _ (blkB_lt r1)).trans r1), (right_num 2 (by decide) (by decide)).2.2, hw 2⟩
      · exact ⟨lies_num ((a3.block _ (blkB_lt r2)).trans r2), (right_num 1 (by decide) (by decide)).2.2, hw 1⟩
      · exact ⟨lies_num r3, (right_num 2 (by decide) (by decide)).2.2, hw 2⟩)
  clear a2 k3 h23 r1 r2 r3 rr a3
  go_wp2_with fail
  refine HOF.out.mono ?_
  rintro e w4 ⟨hend, k4⟩
  have HK5 := toHid (HK4.out.trans (k4.mono HK4.out.size))
  rcases hend with ⟨h0, _⟩ | ⟨_, B1, _, hend⟩
  · exact absurd h0 (by decide)
  obtain ⟨Z, z1, z2, z3⟩ := tal_end (Nat.le_trans hB HK5.out.size) (HTB.out.below (HK5.out.mono hB)) hend
  have hZ : Z = bagN 2 := bag_ext _ _ z1 (fit_bag 2 (by decide) (by decide)).bag fun r => by rw [z2, cnt_of]; rfl
  subst hZ
  rcases z3 with ⟨_, a, l, c, rfl, hrb⟩ | ⟨hn, _⟩
  case inr => exact absurd (fit_bag 2 (by decide) (by decide)) hn
  have HRB := toHid hrb
  have HJ := toHid (join_rb B (bagN 2) (bagN 2) 1 a a l c l c w4 (Nat.le_trans hB HK5.out.size) (HTB.out.below (HK5.out.mono hB)) hrb hrb)
  clear hend k4 hrb z1 z2 HOF
  go_wp2_with fail
  refine HJ.out.mono ?_
  rintro e w5 ⟨hj, k5⟩
  have HK6 := toHid (HK5.out.trans (k5.mono HK5.out.size))
  rcases hj with ⟨_, _, _, hn⟩ | ⟨Z, a', l', c', rfl, hrb', hc⟩
  · exact absurd joins_bag hn
  have hZ : Z = bagN 4 := bag_ext _ _ hrb'.1.bag (fit_bag 4 (by decide) (by decide)).bag fun r => by rw [hc, join_bag]
  subst hZ
  have HRB2 := toHid hrb'
  have HRB1 := toHid (HRB.out.below k5)
  clear k5 hc hrb' HJ HRB
  go_wp2_with fail
  refine (numB_any 1 _).mono ?_
  rintro e w6 ⟨rfl, k1⟩
  have HK7 := toHid (HK6.out.trans (k1.mono HK6.out.size))
  have HRB1a := toHid (HRB1.out.below k1)
  have HRB2a := toHid (HRB2.out.below k1)
  clear k1
  go_wp2_with fail
  refine (numB_any 2 _).mono ?_
  rintro e w7 ⟨rfl, k2⟩
  have a1 : Below w6.heap.size w6 (w6.alloc (vObj 2 1 ⟨#[]⟩ none 0 0)) := (Below.refl _ _).alloc (Nat.le_refl _) _
  have r1 : w7.heap[w6.heap.size]? = some (vObj 2 1 ⟨#[]⟩ none 0 0) := (k2.block _ (by simp)).trans (alloc_new w6 _)
  have h12 := a1.trans (k2.mono a1.size)
  have HK8 := toHid (HK7.out.trans (h12.mono HK7.out.size))
  have a2 : Below w7.heap.size w7 ((w7.alloc (vObj 2 2 ⟨#[]⟩ none 0 0)).alloc (.cells #[.slice (some ⟨w6.heap.size, 0, none⟩) 1 1, .int .i64 1, .slice (some ⟨w7.heap.size, 0, none⟩) 1 1, .int .i64 2] 32)) := ((Below.refl _ _).alloc (Nat.le_refl _) _).alloc (by simp) _
  have r2 : ((w7.alloc (vObj 2 2 ⟨#[]⟩ none 0 0)).alloc (.cells #[.slice (some ⟨w6.heap.size, 0, none⟩) 1 1, .int .i64 1, .slice (some ⟨w7.heap.size, 0, none⟩) 1 1, .int .i64 2] 32)).heap[w7.heap.size]? = some (vObj 2 2 ⟨#[]⟩ none 0 0) := (Below.heap_alloc _ _ _ (by simp)).trans (alloc_new w7 _)
  have rr : ((w7.alloc (vObj 2 2 ⟨#[]⟩ none 0 0)).alloc (.cells #[.slice (some ⟨w6.heap.size, 0, none⟩) 1 1, .int .i64 1, .slice (some ⟨w7.heap.size, 0, none⟩) 1 1, .int .i64 2] 32)).heap[w7.heap.size + 1]? = some (.cells #[.slice (some ⟨w6.heap.size, 0, none⟩) 1 1, .int .i64 1, .slice (some ⟨w7.heap.size, 0, none⟩) 1 1, .int .i64 2] 32) := alloc_two w7 _ _
  have HSB := toHid (same_lit (c := c) ((a2.block _ (blkB_lt r1)).trans r1) r2 rr (RB.below a2 (RB.below h12 HRB1a.out)))
  have HKB := toHid (HK8.out.trans (a2.mono HK8.out.size))
  have HRB2b := toHid (RB.below a2 (RB.below h12 HRB2a.out))
  clear a1 k2 r1 h12 a2 r2 rr
  go_wp2_with fail
  refine HSB.out.mono ?_
  rintro e w8 ⟨rfl, k3⟩
  have HK8x := toHid (HKB.out.trans (k3.mono HKB.out.size))
  have HRB2c := toHid (HRB2b.out.below k3)
  clear k3 HSB HKB
  go_wp2_with fail
  refine (numB_any 1 _).mono ?_
  rintro e w9 ⟨rfl, k1⟩
  have HK9 := toHid (HK8x.out.trans (k1.mono HK8x.out.size))
  have HRB2ca := toHid (HRB2c.out.below k1)
  clear k1
  go_wp2_with fail
  refine (numB_any 2 _).mono ?_
  rintro e w10 ⟨rfl, k2⟩
  have a1 : Below w9.heap.size w9 (w9.alloc (vObj 2 1 ⟨#[]⟩ none 0 0)) := (Below.refl _ _).alloc (Nat.le_refl _) _
  have r1 : w10.heap[w9.heap.size]? = some (vObj 2 1 ⟨#[]⟩ none 0 0) := (k2.block _ (by simp)).trans (alloc_new w9 _)
  have h12 := a1.trans (k2.mono a1.size)
  have HK10 := toHid (HK9.out.trans (h12.mono HK9.out.size))
  have a2 : Below w10.heap.size w10 ((w10.alloc (vObj 2 2 ⟨#[]⟩ none 0 0)).alloc (.cells #[.slice (some ⟨w9.heap.size, 0, none⟩) 1 1, .int .i64 1, .slice (some ⟨w10.heap.size, 0, none⟩) 1 1, .int .i64 4] 32)) := ((Below.refl _ _).alloc (Nat.le_refl _) _).alloc (by simp) _
  have r2 : ((w10.alloc (vObj 2 2 ⟨#[]⟩ none 0 0)).alloc (.cells #[.slice (some ⟨w9.heap.size, 0, none⟩) 1 1, .int .i64 1, .slice (some ⟨w10.heap.size, 0, none⟩) 1 1, .int .i64 4] 32)).heap[w10.heap.size]? = some (vObj 2 2 ⟨#[]⟩ none 0 0) := (Below.heap_alloc _ _ _ (by simp)).trans (alloc_new w10 _)
  have rr : ((w10.alloc (vObj 2 2 ⟨#[]⟩ none 0 0)).alloc (.cells #[.slice (some ⟨w9.heap.size, 0, none⟩) 1 1, .int .i64 1, .slice (some ⟨w10.heap.size, 0, none⟩) 1 1, .int .i64 4] 32)).heap[w10.heap.size + 1]? = some (.cells #[.slice (some ⟨w9.heap.size, 0, none⟩) 1 1, .int .i64 1, .slice (some ⟨w10.heap.size, 0, none⟩) 1 1, .int .i64 4] 32) := alloc_two w10 _ _
  have HSB := toHid (same_lit (c := c') ((a2.block _ (blkB_lt r1)).trans r1) r2 rr (RB.below a2 (RB.below h12 HRB2ca.out)))
  have HKB := toHid (HK10.out.trans (a2.mono HK10.out.size))
  clear a1 k2 r1 h12 a2 r2 rr
  go_wp2_with fail
  refine HSB.out.mono ?_
  rintro e w11 ⟨rfl, k3⟩
  have HK10x := toHid (HKB.out.trans (k3.mono HKB.out.size))
  clear k3 HSB HKB
  go_wp2_with fail
  go_ret
  exact ⟨rfl, HK10x.out⟩

set_option linter.unusedSimpArgs false

section
variable {H : Type} {enc : TypeId × Value → H} {w : World} {base : Nat} {spare : Nat → Bool} {held : Bool}

theorem bulk_part {d : DataW H} {l : List (DataW H)} (h : d ∈ l) : Rows.uptoBulk d ≤ Rows.uptoBulkAll l := by
  induction l with
  | nil => cases h
  | cons x r ih =>
    simp only [Rows.uptoBulkAll]
    rcases List.mem_cons.1 h with e | e
    · subst e; omega
    · have := ih e; omega

/-- A value that reads: its four cells, how its list reads, and that the list is the lesser. -/
theorem trod_weight {fuel : Nat} {cs : List Value} {x : DataW H × List MemPlace} (h : DataW.trod enc Tryz.prog w base spare held fuel 45 cs = some x) :
    ∃ k n s a l c m y, cs = [.int .i64 k, .int .i64 n, .string s, .slice a l c] ∧ s.size ≤ maxLen ∧ fuel = m + 1 ∧ DataW.trod enc Tryz.prog w base spare held m 29 [.slice a l c] = some y ∧ Rows.uptoBulk y.1 + 1 ≤ Rows.uptoBulk x.1 := by
  obtain ⟨k, n, s, a, l, c, m, y, rfl, _, _, hs, rfl, hy⟩ := trod_value h
  refine ⟨k, n, s, a, l, c, m, y, rfl, hs, rfl, hy, ?_⟩
  obtain ⟨xs, m', e, rfl, hlen, hxs, hf⟩ := DataW.trod_struct Tryz.underlying45 h
  obtain rfl : m = m' := by omega
  have f3 : DataW.trod enc Tryz.prog w base spare held m 29 (([.int .i64 k, .int .i64 n, .string s, .slice a l c].drop 3).take (Tryz.prog.cellsOf 29)) = xs[3]? := hf 3 _ rfl
  rw [cells1l] at f3
  have g3 : DataW.trod enc Tryz.prog w base spare held m 29 [.slice a l c] = xs[3]? := f3
  rw [hy] at g3
  have hm : y ∈ xs := List.mem_of_getElem? g3.symm
  have := bulk_part (List.mem_map_of_mem (f := (·.1)) hm)
  simp only [Rows.uptoBulk]
  omega

/-- What reads is a tree that lies in memory. -/
theorem tree_of : ∀ (fuel : Nat) {a : Option Addr} {l c : Nat} {y : DataW H × List MemPlace}, DataW.trod enc Tryz.prog w base spare held fuel 29 [.slice a l c] = some y → l ≤ c ∧ ∃ L, LiesS w L a l ∧ wtL L ≤ Rows.uptoBulk y.1 := by
  have hm : maxLen ≤ 9223372036854775807 := by unfold maxLen; decide
  intro fuel
  induction fuel using Nat.strongRecOn with
  | _ fuel ih =>
  intro a l c y h
  rcases DataW.trod_slice Tryz.underlying29 h with ⟨e, rfl⟩ | ⟨a', l', c', elems, rest, m, hfu, e, rfl, _, h1, h2, hlen, hel, _⟩
  · simp at e
    obtain ⟨_, rfl, _⟩ := e
    refine ⟨Nat.zero_le _, [], by unfold LiesS; rfl, ?_⟩
    simp [wtL, Rows.uptoBulk]
  · simp at e
    obtain ⟨rfl, rfl, rfl⟩ := e
    refine ⟨h1, ?_⟩
    have one : ∀ i, i < l → ∃ z, elems[i]? = some z ∧ ∃ k n s2 a2 l2 c2 L2, w.cell? (a'.add (i * 4) |>.add 0) = some (.int .i64 k) ∧ w.cell? (a'.add (i * 4) |>.add 1) = some (.int .i64 n) ∧ w.cell? (a'.add (i * 4) |>.add 2) = some (.string s2) ∧ w.cell? (a'.add (i * 4) |>.add 3) = some (.slice a2 l2 c2) ∧ s2.size ≤ maxLen ∧ l2 ≤ c2 ∧ LiesS w L2 a2 l2 ∧ wtL L2 + 1 ≤ Rows.uptoBulk z.1 := by
      intro i hi
      have hi2 := hel i hi
      obtain ⟨z, hz⟩ : ∃ z, elems[i]? = some z := ⟨elems[i], by simp [hlen, hi]⟩
      refine ⟨z, hz, ?_⟩
      rw [hz, cells4, Option.bind_eq_some_iff] at hi2
      obtain ⟨cs, hcs, ht⟩ := hi2
      obtain ⟨c0, c1, c2, c3, rfl, q0, q1, q2, q3⟩ := cells_four hcs
      obtain ⟨k, n, s2, a2, l2, cc, m2, y2, e2, hs2, hm2, ht2, hb2⟩ := trod_weight ht
      simp only [List.cons.injEq, and_true] at e2
      obtain ⟨rfl, rfl, rfl, rfl⟩ := e2
      obtain ⟨hlc, L2, hL2, hw2⟩ := ih m2 (by omega) ht2
      exact ⟨k, n, s2, a2, l2, cc, L2, q0, q1, q2, q3, hs2, hlc, hL2, by omega⟩
    by_cases h0 : l = 0
    · subst h0
      refine ⟨[], by unfold LiesS; rfl, ?_⟩
      simp only [wtL, Rows.uptoBulk]
      omega
    · obtain ⟨b, off, sp⟩ := a'
      have hsp : sp = none ∧ b < w.heap.size := by
        obtain ⟨z, _, k, n, s2, a2, l2, c2, m2, q0, _⟩ := one 0 (by omega)
        rw [Nat.zero_mul, add_zero, add_zero] at q0
        exact spot_none q0
      obtain ⟨rfl, hb⟩ := hsp
      simp only [add_none] at one
      have all : ∀ j, j ≤ l → ∃ ts : List T, ts.length = j ∧ LiesS w ts (some ⟨b, off + (l - j) * 4, none⟩) j ∧ wtL ts ≤ Rows.uptoBulkAll ((elems.drop (l - j)).map (·.1)) + 1 := by
        intro j
        induction j with
        | zero =>
          intro _
          refine ⟨[], rfl, by unfold LiesS; rfl, ?_⟩
          simp only [wtL]
          omega
        | succ j ihj =>
          intro hj
          obtain ⟨ts, hl, hts, hw⟩ := ihj (by omega)
          obtain ⟨z, hz, k, n, s2, a2, l2, c2, L2, q0, q1, q2, q3, hs2, hlc, hL2, hw2⟩ := one (l - (j + 1)) (by omega)
          refine ⟨.node k n s2 L2 :: ts, by simp [hl], ?_, ?_⟩
          · unfold LiesS
            refine ⟨b, _, rfl, by omega, by omega, hb, ?_, ?_⟩
            · unfold LiesT
              exact ⟨by omega, a2, l2, c2, q0, q1, q2, q3, hlc, hL2⟩
            · rw [show off + (l - (j + 1)) * 4 + 4 = off + (l - j) * 4 from by omega, hl]
              exact hts
          · have e : elems.drop (l - (j + 1)) = z :: elems.drop (l - j) := by
              rw [show l - j = l - (j + 1) + 1 from by omega]
              obtain ⟨hlt, rfl⟩ := List.getElem?_eq_some_iff.1 hz
              exact (List.drop_eq_getElem_cons hlt)
            rw [e]
            simp only [wtL, wtT, List.map_cons, Rows.uptoBulkAll]
            omega
      obtain ⟨ts, hl, hts, hw⟩ := all l (Nat.le_refl _)
      rw [Nat.sub_self, Nat.zero_mul, Nat.add_zero] at hts
      rw [Nat.sub_self, List.drop_zero] at hw
      refine ⟨ts, hts, ?_⟩
      simp only [Rows.uptoBulk]
      omega

theorem cells2c : Tryz.prog.cellsOf 32 = 2 := by kernel_rfl
theorem cells1r : Tryz.prog.cellsOf 30 = 1 := by kernel_rfl
theorem cells1j : Tryz.prog.cellsOf 3 = 1 := by kernel_rfl

theorem trod_same {P : Program} {t t' e : TypeId} (h1 : P.underlying t = some (.slice e)) (h2 : P.underlying t' = some (.slice e)) (fuel : Nat) (a : Option Addr) (l c : Nat) : DataW.trod enc P w base spare held fuel t [.slice a l c] = DataW.trod enc P w base spare held fuel t' [.slice a l c] := by
  cases fuel with
  | zero => rfl
  | succ m =>
    unfold DataW.trod
    rw [h1, h2]
    cases a with
    | none => cases l <;> cases c <;> rfl
    | some _ => rfl

/-- A row reads as a list of values does. -/
theorem trod_row {fuel : Nat} {a : Option Addr} {l c : Nat} {y : DataW H × List MemPlace} (h : DataW.trod enc Tryz.prog w base spare held fuel 30 [.slice a l c] = some y) : DataW.trod enc Tryz.prog w base spare held fuel 29 [.slice a l c] = some y :=
  (trod_same Tryz.underlying29 Tryz.underlying30 fuel a l c).trans h

theorem len2 {cs : List Value} (h : cs.length = 2) : ∃ c0 c1, cs = [c0, c1] := by
  match cs, h with
  | [c0, c1], _ => exact ⟨c0, c1, rfl⟩

theorem bulk_pos (d : DataW H) : 1 ≤ Rows.uptoBulk d := by
  cases d with
  | lit x => cases x <;> simp [Rows.uptoBulk]
  | _ => simp [Rows.uptoBulk]

theorem bulk_len {q : Nat} : ∀ l : List (DataW H), (∀ d ∈ l, q ≤ Rows.uptoBulk d) → l.length * q ≤ Rows.uptoBulkAll l
  | [], _ => by simp [Rows.uptoBulkAll]
  | d :: r, h => by
    have h1 := h d (List.mem_cons_self ..)
    have h2 := bulk_len r fun x hx => h x (List.mem_cons_of_mem _ hx)
    simp only [Rows.uptoBulkAll, List.length_cons, Nat.add_mul]
    omega

/-- A count that reads: its row, how often it stands there. -/
theorem trod_count {fuel : Nat} {cs : List Value} {x : DataW H × List MemPlace} (h : DataW.trod enc Tryz.prog w base spare held fuel 32 cs = some x) :
    ∃ a l c n m y, cs = [.slice a l c, .int .i64 n] ∧ (Lit.int .i64 n).wf = true ∧ DataW.trod enc Tryz.prog w base spare held m 29 [.slice a l c] = some y ∧ 3 ≤ Rows.uptoBulk x.1 := by
  obtain ⟨xs, m, rfl, rfl, hlen, hxs, hf⟩ := DataW.trod_struct Tryz.underlying32 h
  rw [cells2c] at hlen
  obtain ⟨c0, c1, rfl⟩ := len2 hlen
  have f0 : DataW.trod enc Tryz.prog w base spare held m 30 (([c0, c1].drop 0).take (Tryz.prog.cellsOf 30)) = xs[0]? := hf 0 _ rfl
  have f1 : DataW.trod enc Tryz.prog w base spare held m 3 (([c0, c1].drop 1).take (Tryz.prog.cellsOf 3)) = xs[1]? := hf 1 _ rfl
  have hx : xs.length = 2 := hxs
  obtain ⟨y0, hy0⟩ : ∃ y, xs[0]? = some y := ⟨xs[0], by simp [hx]⟩
  obtain ⟨y1, hy1⟩ : ∃ y, xs[1]? = some y := ⟨xs[1], by simp [hx]⟩
  rw [hy0, cells1r] at f0
  rw [hy1, cells1j] at f1
  have g0 : DataW.trod enc Tryz.prog w base spare held m 30 [c0] = some y0 := f0
  have g1 : DataW.trod enc Tryz.prog w base spare held m 3 [c1] = some y1 := f1
  obtain ⟨a, l, c, rfl⟩ := slice_form Tryz.underlying30 g0
  obtain ⟨n, e1, _, wn⟩ := DataW.trod_int Tryz.underlying3 g1
  simp only [List.cons.injEq, and_true] at e1
  subst e1
  refine ⟨a, l, c, n, m, y0, rfl, wn, trod_row g0, ?_⟩
  have h5 := bulk_len (q := 1) (xs.map (·.1)) fun d _ => bulk_pos d
  rw [List.length_map, hx] at h5
  simp only [Rows.uptoBulk]
  omega

/-- What is known of a bag that reads. -/
structure BagArg (w : World) (M : List (Ct × Int)) (a : Option Addr) (l : Nat) : Prop where
  bag : BagIn w M a l
  rows : RowsIn M
  told : ∀ x e, (x, e) ∈ M → RowTold x.L e

/-- A bag that reads: one that is known, if it isn't too long for any. -/
theorem bag_in (B : Nat) (hB : B ≤ w.heap.size) (hT : Tabs B w) {fuel : Nat} {a : Option Addr} {l c : Nat} {y : DataW H × List MemPlace} (h : DataW.trod enc Tryz.prog w base spare held fuel 24 [.slice a l c] = some y) : l ≤ 9223372036854775807 ∧ (l ≤ 1000000 → ∃ M, BagArg w M a l) := by
  obtain ⟨h1, h2, h3⟩ := slice_rows Tryz.underlying24 cells2c (by omega) h
  refine ⟨h2, fun hl6 => ?_⟩
  by_cases h0 : l = 0
  · subst h0
    exact ⟨[], ⟨⟨rfl, by omega, fun h => absurd h (Nat.lt_irrefl _)⟩, fun x e hx => by cases hx⟩, fun x e hx => (by cases hx), fun x e hx => by cases hx⟩
  · obtain ⟨b, off, ha, hb, hall⟩ := h3 (by omega)
    obtain ⟨M, hl, hM⟩ := list_of (fun i (q : Ct × Int) => (w.cell? ⟨b, off + i * 2, none⟩ = some (.slice q.1.a q.1.l q.1.c) ∧ w.cell? ⟨b, off + i * 2 + 1, none⟩ = some (.int .i64 q.1.n)) ∧ LiesS w q.1.L q.1.a q.1.l ∧ q.1.l ≤ q.1.c ∧ InL q.1.L ∧ ∃ es, ValsAt w q.1.a q.1.l es ∧ q.2 = rowErr es ∧ (firstE es = 0 ↔ ∀ t ∈ q.1.L, Ck 6 t) ∧ es = q.1.L.map (chk 6)) l (fun i hi => by
      obtain ⟨m, cs, z, q1, q2, q3⟩ := hall i hi
      obtain ⟨a', l', c', n, m', y', rfl, wn, hy, _⟩ := trod_count q3
      obtain ⟨hlc, LL, hLL, hin⟩ := tree_in m' hy
      obtain ⟨es, he, hck⟩ := valsB_at B w hB hT LL a' l' hin hLL
      exact ⟨(⟨n, a', l', c', LL⟩, rowErr es), ⟨q2 0 _ rfl, q2 1 _ rfl⟩, hLL, hlc, hin, es, he, rfl, hck⟩)
    have hm : ∀ x e, (x, e) ∈ M → LiesS w x.L x.a x.l ∧ x.l ≤ x.c ∧ InL x.L ∧ ∃ es, ValsAt w x.a x.l es ∧ e = rowErr es ∧ (firstE es = 0 ↔ ∀ t ∈ x.L, Ck 6 t) ∧ es = x.L.map (chk 6) := fun x e hx => by
      obtain ⟨i, hi⟩ := List.getElem?_of_mem hx
      exact (hM i _ hi).2
    have ht : ∀ x e, (x, e) ∈ M → RowTold x.L e := fun x e hx => by
      obtain ⟨g1, g2, g3, es, g4, g5, g6⟩ := hm x e hx
      exact ⟨B, w, x.a, x.l, es, hB, hT, g3, g1, g4, g5, g6⟩
    have hr : ∀ x e, (x, e) ∈ M → e = 0 → RightR x.L := fun x e hx h0 => ⟨((ht x e hx).zero.1 h0).1, ((ht x e hx).zero.1 h0).2, (ht x e hx).inl⟩
    refine ⟨M, ⟨⟨by rw [List.length_map]; exact hl.symm, hl6, fun _ => ⟨b, off, ha, hb, fun i x hx => ?_⟩⟩, fun x e hx => ?_⟩, fun x e hx => ?_, ht⟩
    · rw [List.getElem?_map] at hx
      obtain ⟨q, hq, rfl⟩ := Option.map_eq_some_iff.1 hx
      exact (hM i q hq).1
    · obtain ⟨g1, g2, g3, es, g4, g5, g6⟩ := hm x e hx
      exact ⟨g1, es, g4, g5, fun h0 => by have := (hr x e hx h0).wt; omega⟩
    · obtain ⟨g1, g2, g3, es, g4, g5, g6⟩ := hm x e hx
      refine ⟨g2, g3, fun h0 => ⟨?_, (hr x e hx h0).wt⟩⟩
      rw [g1.length.1]
      exact (hr x e hx h0).1

/-- How long a bag is, against its bulk. -/
theorem bag_len {fuel : Nat} {a : Option Addr} {l c : Nat} {y : DataW H × List MemPlace} (h : DataW.trod enc Tryz.prog w base spare held fuel 24 [.slice a l c] = some y) : l * 3 ≤ Rows.uptoBulk y.1 := by
  rcases DataW.trod_slice Tryz.underlying24 h with ⟨e, rfl⟩ | ⟨a', l', c', elems, rest, m, hfu, e, rfl, _, h1, h2, hlen, hel, _⟩
  · simp at e
    obtain ⟨_, rfl, _⟩ := e
    omega
  · simp at e
    obtain ⟨rfl, rfl, rfl⟩ := e
    have h3 := bulk_len (q := 3) (elems.map (·.1)) fun d hd => by
      obtain ⟨z, hz, rfl⟩ := List.mem_map.1 hd
      obtain ⟨i, hi⟩ := List.getElem?_of_mem hz
      have hil : i < l := by have := (List.getElem?_eq_some_iff.1 hi).1; omega
      have h4 := hel i hil
      rw [hi, Option.bind_eq_some_iff] at h4
      obtain ⟨cs, _, ht⟩ := h4
      obtain ⟨_, _, _, _, _, _, _, _, _, h5⟩ := trod_count ht
      exact h5
    rw [List.length_map, hlen] at h3
    simp only [Rows.uptoBulk]
    omega
end

theorem BagArg.rb {w : World} {M : List (Ct × Int)} {a : Option Addr} {l : Nat} (h : BagArg w M a l) (h0 : bagE M = 0) : RB w (M.map fun y => y.1.cn) a l := ⟨(fit_iff h.told).1 h0, M, rfl, h.bag, h.rows, h0⟩

set_option linter.unusedSimpArgs false

set_option maxHeartbeats 4000000 in
set_option maxRecDepth 100000 in
/-- A bag that is too long, whatever it holds. -/
theorem check_long (a : Option Addr) (l c : Nat) (w : World) (hl : 2000 < l) (hl2 : l ≤ 9223372036854775807) :
    Calls Tryz.prog 28 #[.slice a l c] w fun e w' => e = .returned (.int .i64 2) ∧ Below w.heap.size w w' := by
  have hb' : (2000 : Int) < l := by omega
  go_enter Tryz.func28, Tryz.ntmps28
  go_wp2_with fail
  go_ret
  exact ⟨rfl, Below.refl _ _⟩

theorem same_rb {w : World} {X : List Cn} {a a' : Option Addr} {l c l' c' : Nat} (h : RB w X a l) (h' : RB w X a' l') :
    Calls Tryz.prog 14 #[.slice a l c, .slice a' l' c'] w fun e w' => e = .returned (.bool true) ∧ Below w.heap.size w w' := by
  obtain ⟨F, hF, hat, _, hok⟩ := h.cts
  obtain ⟨G, hG, hat', _, hok'⟩ := h'.cts
  have hc := sameBag_ref F G a a' l c l' c' w hat hat' (fun x hx => ⟨(hok x hx).1, by have := (hok x hx).2.2.2.2.2; omega⟩) (fun x hx => ⟨(hok' x hx).1, by have := (hok' x hx).2.2.2.2.2; omega⟩)
  have hl : likeB F G = true := (like_cn _ _).2 (by rw [hF, hG])
  rw [hl] at hc
  exact hc

/-- The bag of one empty row, as it is written down. -/
theorem rb_empty {B : Nat} {w : World} (hB : B ≤ w.heap.size) (hT : Tabs B w) {b : Nat} (h : w.heap[b]? = some (.cells #[.slice none 0 0, .int .i64 1] 32 (0, 0))) : RB w [([], 1)] (some ⟨b, 0, none⟩) 1 := by
  have := rb_mk hB hT (F := [⟨1, none, 0, 0, []⟩]) (a := some ⟨b, 0, none⟩) (l := 1) fit_empty ⟨rfl, by decide, fun _ => ⟨b, 0, rfl, blkB_lt h, fun i x hx => by
    match i, hx with
    | 0, hx => simp at hx; subst hx; exact ⟨cell_of h 0, cell_of h 1⟩
    | i + 1, hx => simp at hx⟩⟩ fun x hx => by
    rw [List.mem_singleton] at hx
    subst hx
    exact ⟨by unfold LiesS; rfl, Nat.le_refl _⟩
  exact this

set_option linter.unusedSimpArgs false

set_option maxHeartbeats 4000000 in
set_option maxRecDepth 100000 in
theorem bags_any (B : Nat) (X : List Cn) (ga : Option Addr) (gl gc : Nat) (z : Int) (F : List Ct) (a : Option Addr) (l c : Nat) (W : World) (hB : B ≤ W.heap.size) (hT : Tabs B W) (hF : F.map Ct.cn = X) (hat : CtsAt W F a l) (hr : ∀ x ∈ F, LiesS W x.L x.a x.l ∧ InL x.L ∧ wtL x.L ≤ 1099511627776)
    (hc : (bagX X = 0 ∧ z = 0 ∧ RB W X ga gl) ∨ (bagX X ≠ 0 ∧ z = bagX X ∧ gl = 0)) :
    Calls Tryz.prog 9 #[.slice ga gl gc, .int .i64 z, .slice a l c] W fun e w' => e = .returned (.bool true) ∧ Below W.heap.size W w' := by
  obtain ⟨O, o1, o2, o3⟩ := told_all B W hB hT F hr
  have e : (O.map fun y => y.1.cn) = X := by rw [← hF, ← o1, List.map_map]; rfl
  have hE : bagE O = bagX X := by rw [bagE_is o3, e]
  have hck := checkBag_ref O a l c W W ⟨by rw [o1]; exact hat, o2⟩ (Below.refl _ _)
  rw [hE] at hck
  have HCK := toHid hck
  have HF := toHid hF
  have HAT := toHid hat
  have HR := toHid hr
  clear hB hT hF hat hr o1 o2 o3 e hE hck
  rcases hc with ⟨h0, rfl, hrb⟩ | ⟨h0, rfl, rfl⟩
  · rw [h0] at HCK
    have HSB : Hid (∀ W', Below W.heap.size W W' → Calls Tryz.prog 14 #[.slice ga gl gc, .slice a l c] W' fun e w' => e = .returned (.bool true) ∧ Below W'.heap.size W' w') := fun W' k => by
      obtain ⟨G, hG, hat', _, hok⟩ := (hrb.below k).cts
      have hc := sameBag_ref G F ga a gl gc l c W' hat' (HAT.out.below k) (fun x hx => ⟨(hok x hx).1, by have := (hok x hx).2.2.2.2.2; omega⟩) (fun x hx => ⟨LiesS.below k _ _ _ (HR.out x hx).1, (HR.out x hx).2.2⟩)
      have hl : likeB G F = true := (like_cn _ _).2 (by rw [hG, HF.out])
      rw [hl] at hc
      exact hc
    clear hrb h0
    go_enter Tryz.func9, Tryz.ntmps9
    go_wp2_with fail
    refine HCK.out.mono ?_
    rintro e w1 ⟨rfl, k1⟩
    have HK1 := toHid k1
    clear k1
    go_wp2_with fail
    refine (HSB.out w1 HK1.out).mono ?_
    rintro e w2 ⟨rfl, k2⟩
    have HK2 := toHid (HK1.out.trans (k2.mono HK1.out.size))
    clear k2
    go_wp2_with fail
    go_ret
    exact ⟨rfl, HK2.out⟩
  · generalize bagX X = z at HCK h0
    have hz : (z != 0) = true := by simp [h0]
    have hzz : (z == z) = true := by simp
    clear h0
    go_enter Tryz.func9, Tryz.ntmps9
    go_wp2_with fail
    refine HCK.out.mono ?_
    rintro e w1 ⟨rfl, k1⟩
    have HK1 := toHid k1
    clear k1
    go_wp2_with fail
    go_ret
    exact ⟨rfl, HK1.out⟩

/-- What the reference makes is the bag of what it is handed. -/
theorem ref_bag {D E : List Ct} (hp : E.Perm D) (hs : E.Pairwise fun x y => ordL x.L y.L ≤ 0) : IsBag ((nzC (tgCs E)).map Ct.cn) ∧ ∀ r, cnt ((nzC (tgCs E)).map Ct.cn) r = cnt (D.map Ct.cn) r := by
  have e : (nzC (tgCs E)).map Ct.cn = (tgF (E.map Ct.cn)).filter fun c => !(c.2 == 0) := by
    show ((tgCs E).filter fun c => !(c.n == 0)).map Ct.cn = _
    rw [← tgCs_cn, List.filter_map]
    rfl
  have hs2 : (E.map Ct.cn).Pairwise fun x y => ordL x.1 y.1 ≤ 0 := List.pairwise_map.2 hs
  obtain ⟨h1, h2⟩ := tg_bag hs2
  rw [e]
  exact ⟨h1, fun r => (h2 r).trans (cnt_perm (hp.map Ct.cn) r)⟩

theorem ref_mem {P : Ct → Prop} (hP : ∀ p (n : Int), P p → P { p with n := n }) {D E : List Ct} (hp : E.Perm D) (h : ∀ x ∈ D, P x) : ∀ x ∈ nzC (tgCs E), P x := fun x hx => tgCs_mem hP E (fun y hy => h y (hp.mem_iff.1 hy)) [] (fun y hy => by cases hy) x (List.mem_filter.1 hx).1

theorem ref_len (E : List Ct) : (nzC (tgCs E)).length ≤ E.length := by
  have h1 := tgCs_len E E.length
  rw [List.take_length] at h1
  exact Nat.le_trans (List.length_filter_le _ _) h1

theorem told_here : True := trivial

set_option linter.unusedSimpArgs false

/-- What Join tells where the counts of those that meet may be multiplied, or may not. -/
def JoinSaid (k : Nat) (D : List (Ct × Ct)) (w' : World) (sa : Option Addr) (sl : Nat) (ze : Int) : Prop := (D.any overC = true → ze = 9 ∧ sl = 0) ∧ (D.any overC = false → Told w' (cnt (D.map (joinP k))) sa sl ze)

theorem JoinSaid.below {k : Nat} {D : List (Ct × Ct)} {w w' : World} (kb : Below w.heap.size w w') {sa : Option Addr} {sl : Nat} {ze : Int} (h : JoinSaid k D w sa sl ze) : JoinSaid k D w' sa sl ze := ⟨h.1, fun h0 => (h.2 h0).below kb⟩

theorem join_said (B : Nat) (M N : List (Ct × Int)) (k : Nat) (a a' : Option Addr) (l c l' c' : Nat) (w : World) (hB : B ≤ w.heap.size) (hT : Tabs B w) (hM : BagArg w M a l) (hN : BagArg w N a' l') (hE : joinE M N k = 0) :
    Calls Tryz.prog 17 #[.slice a l c, .slice a' l' c', .int .i64 k] w fun e w' => (∃ sa sl sc ze, e = .returned (.tuple #[.slice sa sl sc, .int .i64 ze]) ∧ JoinSaid k (meetL k (M.map (·.1)) (N.map (·.1))) w' sa sl ze) ∧ Below w.heap.size w w' := by
  refine (join_any B M N k a a' l c l' c' w hB hT hM.bag hN.bag hM.rows hN.rows).mono ?_
  rintro e w' ⟨h, kb⟩
  refine ⟨?_, kb⟩
  have hk : ((k : Int)).toNat = k := rfl
  rcases h with ⟨h0, _⟩ | ⟨_, h⟩
  · exact absurd hE h0
  · rw [hk] at h
    rcases h with ⟨h1, rfl⟩ | ⟨h1, B1, _, hend⟩
    · exact ⟨none, 0, 0, 9, rfl, fun _ => ⟨rfl, rfl⟩, fun h2 => (by rw [h1] at h2; cases h2)⟩
    · obtain ⟨sa, sl, sc, ze, rfl, htd⟩ := tal_told (Nat.le_trans hB kb.size) (hT.below (kb.mono hB)) hend
      exact ⟨sa, sl, sc, ze, rfl, fun h2 => (by rw [h1] at h2; cases h2), fun _ => htd⟩

/-- The reference's product of two counts. -/
theorem reckon_mul (x y : Ct) (hx : SmallN x) (hy : SmallN y) : ∃ pk pn pf : Int, (overC (x, y) = true → pf ≠ 0 ∨ 1099511627776 < pn ∨ pn < -1099511627776) ∧ (overC (x, y) = false → pf = 0 ∧ pn = x.n * y.n ∧ -1099511627776 ≤ pn ∧ pn ≤ 1099511627776) ∧ ∀ w, Calls Tryz.prog 19 #[.string ⟨#[42]⟩, .agg #[.int .i64 2, .int .i64 x.n, .string ⟨#[]⟩, .slice none 0 0], .agg #[.int .i64 2, .int .i64 y.n, .string ⟨#[]⟩, .slice none 0 0]] w fun e w' => e = .returned (.tuple #[.agg #[.int .i64 pk, .int .i64 pn, .string ⟨#[]⟩, .slice none 0 0], .int .i64 pf]) ∧ Below w.heap.size w w' := by
  obtain ⟨_, x1, x2⟩ := hx
  have ho := over_is (x := x) hy
  obtain ⟨_, y1, y2⟩ := hy
  have hr : ∀ w, _ := fun w => BG.reckonOf_mul x.n y.n ⟨#[]⟩ ⟨#[]⟩ none none 0 0 0 0 w (by omega) (by omega)
  generalize x.n * y.n = p at ho hr
  by_cases hin : -9223372036854775808 ≤ p ∧ p ≤ 9223372036854775807
  · refine ⟨2, p, 0, fun h => ?_, fun h => ?_, fun w => (hr w).mono fun e w' h => ⟨h.1.1 hin, h.2⟩⟩
    · rw [ho, decide_eq_true_eq] at h
      omega
    · rw [ho, decide_eq_false_iff_not] at h
      exact ⟨rfl, rfl, by omega, by omega⟩
  · refine ⟨0, 0, 4, fun h => .inl (by decide), fun h => ?_, fun w => (hr w).mono fun e w' h => ⟨h.1.2 hin, h.2⟩⟩
    rw [ho, decide_eq_false_iff_not] at h
    omega
def bad9 (b : Bool) : Int := if b then 9 else 0

/-- The counts that the law has made of pairs that meet. -/
structure PairsOk (w4 : World) (k : Nat) (D : List (Ct × Ct)) (Q : List Ct) (v : Value) (wr : World) : Prop where
  cn : Q.map Ct.cn = D.map (joinP k)
  no : D.any overC = false
  row : wr.ownsRow w4.heap.size 32 2 v Q.length (ctRow Q)
  lie : ∀ y ∈ Q, LieA (fun g => v.ownBlock ≠ some g) wr y.L y.a y.l

theorem PairsOk.below {w4 : World} {k : Nat} {D : List (Ct × Ct)} {Q : List Ct} {v : Value} {wr wr' : World} (kb : Below wr.heap.size wr wr') (h : PairsOk w4 k D Q v wr) : PairsOk w4 k D Q v wr' :=
  ⟨h.cn, h.no, rowK1 h.row fun g hg => kb.block g (rowLt h.row hg).2, fun y hy => LieA.kept kb.size (fun g hg hl => ⟨hg, kb.block g hl⟩) _ _ _ (h.lie y hy)⟩

theorem pairs_none (w4 : World) (k : Nat) (F G : List Ct) : PairsOk w4 k (meetL k (F.take 0) G) [] (.slice none 0 0) w4 := by
  rw [List.take_zero]
  exact ⟨rfl, rfl, World.ownsRow_nil _ _ _ _, fun y hy => by cases hy⟩

theorem PairsOk.len {w4 : World} {k : Nat} {D : List (Ct × Ct)} {Q : List Ct} {v : Value} {wr : World} (h : PairsOk w4 k D Q v wr) : Q.length = D.length := by
  have := congrArg List.length h.cn
  simpa using this

/-- What has been made of all pairs. -/
theorem pairs_end {w w4 : World} {k : Nat} {F G : List Ct} {Q : List Ct} {v : Value} {wr : World} (h : PairsOk w4 k (meetL k F G) Q v wr) (hx : ∀ x ∈ F, JoinOk w k x) (hy : ∀ y ∈ G, JoinOk w k y) (hy2 : ∀ y ∈ G, SmallN y) (hm : F.length * G.length ≤ 20000) : ∃ va ql vc, v = .slice va ql vc ∧ CtsAt wr Q va ql ∧ (∀ y ∈ Q, LiesS wr y.L y.a y.l ∧ InL y.L ∧ wtL y.L ≤ 1099511627776) ∧ absS Q ≤ 2305843009213693952 := by
  have hpair : ∀ q ∈ Q, ∃ p ∈ meetL k F G, q.cn = joinP k p := fun q hq => by
    have : q.cn ∈ Q.map Ct.cn := List.mem_map.2 ⟨q, hq, rfl⟩
    rw [h.cn] at this
    obtain ⟨p, hp, e⟩ := List.mem_map.1 this
    exact ⟨p, hp, e.symm⟩
  have hmem : ∀ p ∈ meetL k F G, p.1 ∈ F ∧ p.2 ∈ G := fun p hp => by
    unfold meetL at hp
    obtain ⟨x, hx1, hp⟩ := List.mem_flatMap.1 hp
    unfold meetY at hp
    split at hp
    · cases hp
    · obtain ⟨y, hy1, rfl⟩ := List.mem_map.1 hp
      exact ⟨hx1, (List.mem_filter.1 hy1).1⟩
  have hQ : Q.length ≤ 20000 := by
    rw [h.len]
    exact Nat.le_trans (meetL_len k G F) hm
  obtain ⟨va, vc, rfl⟩ := row_slice h.row
  refine ⟨va, Q.length, vc, rfl, ctsOwn (R := Q) h.row (by omega), fun q hq => ?_, ?_⟩
  · obtain ⟨p, hp, e⟩ := hpair q hq
    have eL : q.L = p.1.L ++ p.2.L.drop k := congrArg Prod.fst e
    have hj1 := hx _ (hmem p hp).1
    have hj2 := hy _ (hmem p hp).2
    refine ⟨LieA.lies _ _ _ (h.lie q hq), ?_⟩
    rw [eL]
    refine ⟨(inL_iff _).2 fun t ht => ?_, ?_⟩
    · rcases List.mem_append.1 ht with ht | ht
      · exact (inL_iff _).1 hj1.inl t ht
      · exact (inL_iff _).1 hj2.inl t (List.mem_of_mem_drop ht)
    · have h5 := wtL_append p.1.L (p.2.L.drop k)
      have h6 := wtL_drop p.2.L k
      have h7 := hj1.wt
      have h8 := hj2.wt
      omega
  · have h5 := absS_bound 1099511627776 Q fun q hq => by
      obtain ⟨p, hp, e⟩ := hpair q hq
      have eN : q.n = p.1.n * p.2.n := congrArg Prod.snd e
      have ho : overC p = false := by
        have h1 := List.any_eq_false.1 h.no p hp
        simpa using h1
      rw [eN, Int.natAbs_mul]
      exact over_not ho (hy2 _ (hmem p hp).2)
    omega
/-- One row behind the other. -/
theorem concat_two (A : Nat → Prop) (xL yR : List T) (xa ya : Option Addr) (xl xc yl yc bs : Nat) (W : World) (hb : W.heap[bs]? = some (.cells #[.slice xa xl xc, .slice ya yl yc] 30 (0, 0))) (hx : LieA A W xL xa xl) (hy : LieA A W yR ya yl) (hs : xl + yl ≤ 1000) (hA : ∀ g, W.heap.size ≤ g → A g) :
    Calls Tryz.prog 21 #[.slice (some ⟨bs, 0, none⟩) 2 2] W fun e w' => (∃ a1 c1, e = .returned (.slice a1 (xl + yl) c1) ∧ LieA A w' (xL ++ yR) a1 (xl + yl)) ∧ Below W.heap.size W w' := by
  have hlx := (LieA.lies _ _ _ hx).length.1
  have hly := (LieA.lies _ _ _ hy).length.1
  have hP := concat_any A [⟨0, xa, xl, xc, xL⟩, ⟨0, ya, yl, yc, yR⟩] bs 2 W rfl (by decide) (blkB_lt hb) (fun i z hz => by
    match i, hz with
    | 0, hz => simp at hz; subst hz; exact (cell_of hb 0).trans rfl
    | 1, hz => simp at hz; subst hz; exact (cell_of hb 1).trans rfl
    | i + 2, hz => simp at hz) (fun z hz => by
    simp at hz
    rcases hz with rfl | rfl
    · exact hx
    · exact hy) (by simp [lenS]; omega)
  refine hP.mono ?_
  rintro e w' ⟨⟨v1, cs, rfl, h1, h2⟩, h3⟩
  have e1 : lenS [⟨0, xa, xl, xc, xL⟩, ⟨0, ya, yl, yc, yR⟩] = xl + yl := by simp [lenS]
  have e2 : ([⟨0, xa, xl, xc, xL⟩, ⟨0, ya, yl, yc, yR⟩] : List Ct).flatMap (·.L) = xL ++ yR := by simp
  rw [e1] at h1
  rw [e2] at h2
  obtain ⟨a1, c1, rfl, hq⟩ := conc_row A (l := xl + yl) h1 h2 (by rw [List.length_append]; omega) hA
  exact ⟨⟨a1, c1, rfl, hq⟩, h3⟩

/-- One count more. -/
theorem PairsOk.snoc {w4 : World} {k : Nat} {D : List (Ct × Ct)} {Q : List Ct} {v v' : Value} {wr uc w5 : World} {q : Ct} {p : Ct × Ct} {o : Obj} (h : PairsOk w4 k D Q v wr) (kc : Below wr.heap.size wr uc) (hq : LieA (fun g => v.ownBlock ≠ some g) uc q.L q.a q.l) (hown : w5.ownsRow w4.heap.size 32 2 v' (Q.length + 1) (ctRow Q ++ q.cells)) (hgrow : (uc.alloc o).grownBy w5 v.ownBlock) (hob : v'.ownBlock = v.ownBlock ∨ v'.ownBlock = some (uc.alloc o).heap.size) (hj : q.cn = joinP k p) (ho : overC p = false) : PairsOk w4 k (D ++ [p]) (Q ++ [q]) v' w5 := by
  have hA : Below uc.heap.size uc (uc.alloc o) := (Below.refl _ _).alloc (Nat.le_refl _) _
  have hnew : ∀ g, v'.ownBlock = some g → v.ownBlock = some g ∨ uc.heap.size ≤ g := fun g hg => by
    rcases hob with e | e
    · exact .inl (e ▸ hg)
    · rw [e] at hg
      injection hg with e
      exact .inr (by rw [← e]; exact hA.size)
  have hkeep : ∀ g, v.ownBlock ≠ some g → g < uc.heap.size → v'.ownBlock ≠ some g ∧ w5.heap[g]? = uc.heap[g]? := fun g hg hl => ⟨fun e => (hnew g e).elim hg (by omega), (hgrow.block g (Nat.lt_of_lt_of_le hl hA.size) (fun e => hg e.symm)).trans (hA.block g hl)⟩
  have hsz : uc.heap.size ≤ w5.heap.size := Nat.le_trans hA.size hgrow.size
  refine ⟨?_, ?_, ?_, fun y hy => ?_⟩
  · rw [List.map_append, List.map_append, h.cn, List.map_singleton, List.map_singleton, hj]
  · rw [List.any_append, h.no, List.any_cons, List.any_nil, ho]
    rfl
  · rw [ctRow_snoc, List.length_append]
    exact hown
  · rcases List.mem_append.1 hy with hy | hy
    · exact LieA.kept hsz hkeep _ _ _ (LieA.kept kc.size (fun g hg hl => ⟨hg, kc.block g hl⟩) _ _ _ (h.lie y hy))
    · have : y = q := by simpa using hy
      subst this
      exact LieA.kept hsz hkeep _ _ _ hq

theorem PairsOk.grown {w4 : World} {k : Nat} {D : List (Ct × Ct)} {Q : List Ct} {v : Value} {wr uc w5 : World} {o : Obj} (h : PairsOk w4 k D Q v wr) (k4 : Below w4.heap.size w4 wr) (kc : Below wr.heap.size wr uc) (hgrow : (uc.alloc o).grownBy w5 v.ownBlock) : Below w4.heap.size w4 w5 := by
  have k1 := k4.trans (kc.mono k4.size)
  have k2 := k1.alloc k1.size o
  exact k2.grown hgrow k2.size fun g hg => (rowLt h.row hg).1
end Go.Proofs.YtbjkpbeijkmoeaaGreatDoor
