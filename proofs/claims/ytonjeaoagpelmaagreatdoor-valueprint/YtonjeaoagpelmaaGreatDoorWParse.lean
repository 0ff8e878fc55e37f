/-
  What is proved here: see the remark of the text Parse (the parts of it that this seat needs).
-/
import Derived.Test.YtonjeaoagpelmaaGreatDoorWItems
namespace Go.Proofs.YtonjeaoagpelmaaGreatDoor
open Go.RowKit
set_option linter.unusedVariables false

set_option maxHeartbeats 2000000 in
set_option maxRecDepth 100000 in
theorem parse_list (B : Nat) (text : ByteArray) (l : List Item) (w : World) (hB : B ≤ w.heap.size) (ht : text.size ≤ 4000) (hT : Tabs B w) (hP : Pow10 B w)
    (hR : ∀ W, B ≤ W.heap.size → Tabs B W → Pow10 B W → Calls Tryz.prog 26 #[.string text] W fun e w' => ∃ g cap, e = .returned (.tuple #[.agg #[.int .i64 4, .int .i64 0, .string ⟨#[]⟩, .slice (some ⟨g, 0, none⟩) l.length cap], .int .i64 0, .int .i64 0]) ∧ w'.ownsRow W.heap.size 24 4 (.slice (some ⟨g, 0, none⟩) l.length cap) l.length (rowOf l) ∧ Below W.heap.size W w')
    (hlen : l.length ≤ 30) (hK : ∀ i, i < l.length → ∀ W, B ≤ W.heap.size → Tabs B W → Calls Tryz.prog 20 #[(valsOf l).at i, .int .i64 1] W fun e w'' => e = .returned (.int .i64 0) ∧ Below W.heap.size W w'') :
    Calls Tryz.prog 14 #[.string text] w fun e w' => ∃ g cap, e = .returned (.tuple #[.agg #[.int .i64 4, .int .i64 0, .string ⟨#[]⟩, .slice (some ⟨g, 0, none⟩) l.length cap], .int .i64 0, .int .i64 0]) ∧ w'.ownsRow w.heap.size 24 4 (.slice (some ⟨g, 0, none⟩) l.length cap) l.length (rowOf l) ∧ Below w.heap.size w w' := by
  have HR := toHid hR
  have HK := toHid hK
  clear hR hK
  have hb0 : Below w.heap.size w (w.alloc (.cells #[.int .i64 0, .int .i64 0, .string ⟨#[]⟩, .slice none 0 0] 24)) := (Below.refl _ _).alloc (Nat.le_refl _) _
  have hx0 := alloc_new w (.cells #[.int .i64 0, .int .i64 0, .string ⟨#[]⟩, .slice none 0 0] 24)
  have hz0 : (w.alloc (.cells #[.int .i64 0, .int .i64 0, .string ⟨#[]⟩, .slice none 0 0] 24)).heap.size = w.heap.size + 1 := by simp
  have hbig : ¬ (4000 : Int) < (text.size : Int) := by omega
  have H0 := toHid hx0
  clear hx0
  go_enter Tryz.func14, Tryz.ntmps14
  go_wp2_with fail
  refine (HR.out _ (by omega) (hT.below (hb0.mono hB)) (hP.below (hb0.mono hB))).mono ?_
  rintro e w1 ⟨g, cap, rfl, ho, hb1⟩
  rw [hz0] at ho hb1
  have hs1 := hb1.size
  rw [hz0] at hs1
  have b0 : w1.heap[w.heap.size]? = some (.cells #[.int .i64 0, .int .i64 0, .string ⟨#[]⟩, .slice none 0 0] 24 (0, 0)) := by rw [hb1.block _ (by omega)]; exact H0.out
  have hT1 : Tabs B w1 := (hT.below (hb0.mono hB)).below (hb1.mono (by omega))
  have hww : Below w.heap.size w w1 := hb0.trans (hb1.mono (by omega))
  have x0 := cell_of b0 0
  have x1 := cell_of b0 1
  have x2 := cell_of b0 2
  have x3 := cell_of b0 3
  have y0 := free_of b0 0
  have y1 := free_of b0 1
  have y2 := free_of b0 2
  have y3 := free_of b0 3
  simp at x0 x1 x2 x3
  have B0 := toHid b0
  clear b0 HR H0 hb0 hz0 hb1
  go_wp2_with fail
  have q1 := put4_here B0.out (.int .i64 4) (.int .i64 0) (.string ⟨#[]⟩) (.slice (some ⟨g, 0, none⟩) l.length cap)
  have e1 := put4_below w1 w.heap.size (.int .i64 4) (.int .i64 0) (.string ⟨#[]⟩) (.slice (some ⟨g, 0, none⟩) l.length cap)
  have z1 : (put4 w1 w.heap.size (.int .i64 4) (.int .i64 0) (.string ⟨#[]⟩) (.slice (some ⟨g, 0, none⟩) l.length cap)).heap.size = w1.heap.size := by simp [put4, World.setCell]
  have o1 : (put4 w1 w.heap.size (.int .i64 4) (.int .i64 0) (.string ⟨#[]⟩) (.slice (some ⟨g, 0, none⟩) l.length cap)).ownsRow (w.heap.size + 1) 24 4 (.slice (some ⟨g, 0, none⟩) l.length cap) l.length (rowOf l) :=
    ownsRow_setCell_below (ownsRow_setCell_below (ownsRow_setCell_below (ownsRow_setCell_below ho (a := ⟨w.heap.size, 0, none⟩) (by show w.heap.size < _; omega) (.int .i64 4)) (a := ⟨w.heap.size, 1, none⟩) (by show w.heap.size < _; omega) (.int .i64 0)) (a := ⟨w.heap.size, 2, none⟩) (by show w.heap.size < _; omega) (.string ⟨#[]⟩)) (a := ⟨w.heap.size, 3, none⟩) (by show w.heap.size < _; omega) (.slice (some ⟨g, 0, none⟩) l.length cap)
  have eP : (((w1.setCell ⟨w.heap.size, 0, none⟩ (.int .i64 4)).setCell ⟨w.heap.size, 1, none⟩ (.int .i64 0)).setCell ⟨w.heap.size, 2, none⟩ (.string ⟨#[]⟩)).setCell ⟨w.heap.size, 3, none⟩ (.slice (some ⟨g, 0, none⟩) l.length cap) = put4 w1 w.heap.size (.int .i64 4) (.int .i64 0) (.string ⟨#[]⟩) (.slice (some ⟨g, 0, none⟩) l.length cap) := rfl
  rw [eP]
  clear eP
  generalize put4 w1 w.heap.size (.int .i64 4) (.int .i64 0) (.string ⟨#[]⟩) (.slice (some ⟨g, 0, none⟩) l.length cap) = V at q1 e1 z1 o1 ⊢
  clear x0 x1 x2 x3 y0 y1 y2 y3 B0
  have hTV : Tabs B V := hT1.below (e1.mono hB)
  have hg := row_lt o1
  refine (check_list g 0 l.length cap (valsOf l) V hlen hg.2 (items_at o1) (fun i hi W kW => HK.out i hi W (by have := kW.size; omega) (hTV.below (kW.mono (by omega))))).mono ?_
  rintro e w2 ⟨rfl, hb2⟩
  have b2 : w2.heap[w.heap.size]? = some (.cells #[.int .i64 4, .int .i64 0, .string ⟨#[]⟩, (.slice (some ⟨g, 0, none⟩) l.length cap)] 24 (0, 0)) := by rw [hb2.block _ (by omega)]; exact q1
  have o2 := row_kept o1 (fun k _ hk => hb2.block k hk)
  have x0 := cell_of b2 0
  have x1 := cell_of b2 1
  have x2 := cell_of b2 2
  have x3 := cell_of b2 3
  have y0 := free_of b2 0
  have y1 := free_of b2 1
  have y2 := free_of b2 2
  have y3 := free_of b2 3
  simp at x0 x1 x2 x3
  have B2 := toHid b2
  clear b2 HK q1 o1
  go_wp2_with fail
  have q3 := put4_here B2.out (.int .i64 4) (.int .i64 0) (.string ⟨#[]⟩) (.slice (some ⟨g, 0, none⟩) l.length cap)
  have e3 := put4_below w2 w.heap.size (.int .i64 4) (.int .i64 0) (.string ⟨#[]⟩) (.slice (some ⟨g, 0, none⟩) l.length cap)
  have o3 : (put4 w2 w.heap.size (.int .i64 4) (.int .i64 0) (.string ⟨#[]⟩) (.slice (some ⟨g, 0, none⟩) l.length cap)).ownsRow (w.heap.size + 1) 24 4 (.slice (some ⟨g, 0, none⟩) l.length cap) l.length (rowOf l) :=
    ownsRow_setCell_below (ownsRow_setCell_below (ownsRow_setCell_below (ownsRow_setCell_below o2 (a := ⟨w.heap.size, 0, none⟩) (by show w.heap.size < _; omega) (.int .i64 4)) (a := ⟨w.heap.size, 1, none⟩) (by show w.heap.size < _; omega) (.int .i64 0)) (a := ⟨w.heap.size, 2, none⟩) (by show w.heap.size < _; omega) (.string ⟨#[]⟩)) (a := ⟨w.heap.size, 3, none⟩) (by show w.heap.size < _; omega) (.slice (some ⟨g, 0, none⟩) l.length cap)
  have eP : (((w2.setCell ⟨w.heap.size, 0, none⟩ (.int .i64 4)).setCell ⟨w.heap.size, 1, none⟩ (.int .i64 0)).setCell ⟨w.heap.size, 2, none⟩ (.string ⟨#[]⟩)).setCell ⟨w.heap.size, 3, none⟩ (.slice (some ⟨g, 0, none⟩) l.length cap) = put4 w2 w.heap.size (.int .i64 4) (.int .i64 0) (.string ⟨#[]⟩) (.slice (some ⟨g, 0, none⟩) l.length cap) := rfl
  rw [eP]
  clear eP
  generalize put4 w2 w.heap.size (.int .i64 4) (.int .i64 0) (.string ⟨#[]⟩) (.slice (some ⟨g, 0, none⟩) l.length cap) = Z at q3 e3 o3 ⊢
  have t0 := cell_of q3 0
  have t1 := cell_of q3 1
  have t2 := cell_of q3 2
  have t3 := cell_of q3 3
  simp at t0 t1 t2 t3
  refine bodyPost_ret (v := .tuple #[.agg #[.int .i64 4, .int .i64 0, .string ⟨#[]⟩, (.slice (some ⟨g, 0, none⟩) l.length cap)], .int .i64 0, .int .i64 0]) (by simp [results, Tryz.results14, go_sem, t0, t1, t2, t3]) rfl ⟨g, cap, rfl, ?_, ?_⟩
  · refine ⟨o3.1, ?_⟩
    rcases o3.2 with h0 | ⟨g', cap', cur, f1, f2, f3⟩
    · exact .inl h0
    · exact .inr ⟨g', cap', cur, f1, by omega, f3⟩
  · exact ((hww.trans e1).trans (hb2.mono (by omega))).trans e3

end Go.Proofs.YtonjeaoagpelmaaGreatDoor
