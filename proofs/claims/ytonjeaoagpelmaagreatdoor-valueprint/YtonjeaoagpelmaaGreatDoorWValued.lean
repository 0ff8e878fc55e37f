/-
  What is proved here: see the remark of the text Valued (the parts of it that this seat needs).
-/
import Derived.Test.YtonjeaoagpelmaaGreatDoorWPrint
namespace Go.Proofs.YtonjeaoagpelmaaGreatDoor
open Go.RowKit
set_option linter.unusedVariables false

/-- The scalars of the closed fact are in order with themselves. -/
theorem order_closed (i : Nat) (hi : i < 3) (w : World) : Calls Tryz.prog 27 #[(valsOf closedItems).at i, (valsOf closedItems).at i] w fun e w' => e = .returned (.int .i64 0) ∧ Below w.heap.size w w' :=
  order_empty _ _ _ none none 0 0 0 0 0 w (by omega) (by omega) (.inl rfl) (fun _ => rfl) (fun h => absurd h (Nat.lt_irrefl _)) (fun h => absurd h (Nat.lt_irrefl _))

theorem firstNZ_zero (z : Int) : ∀ n i, firstNZ (fun _ => 0) i n z = z := by
  intro n
  induction n with
  | zero => intro i; rfl
  | succ n ih => intro i; rw [firstNZ, if_pos rfl, ih]

theorem same_closed (g cap b cap' : Nat) (w : World) (hg : g < w.heap.size) (hb : b < w.heap.size) (h1 : ListAt w g 0 3 (valsOf closedItems)) (h2 : ListAt w b 0 3 (valsOf closedItems)) :
    Calls Tryz.prog 15 #[.agg #[.int .i64 4, .int .i64 0, .string ⟨#[]⟩, .slice (some ⟨g, 0, none⟩) 3 cap], .agg #[.int .i64 4, .int .i64 0, .string ⟨#[]⟩, .slice (some ⟨b, 0, none⟩) 3 cap']] w fun e w' => e = .returned (.bool true) ∧ Below w.heap.size w w' := by
  have := same_of 4 0 ⟨#[]⟩ (some ⟨g, 0, none⟩) 3 cap 4 0 ⟨#[]⟩ (some ⟨b, 0, none⟩) 3 cap' 0 w (fun w' k => by
    have hs := k.size
    have := order_lists 4 0 ⟨#[]⟩ g 0 3 cap b 0 3 cap' (valsOf closedItems) (valsOf closedItems) (fun _ => 0) 0 w' (by omega) (by omega) (listAt_below h1 hg k) (listAt_below h2 hb k) (by omega) (by omega) (fun _ => rfl) (fun h => absurd h (Nat.lt_irrefl _)) (fun h => absurd h (Nat.lt_irrefl _))
      (fun i hi _ w'' _ => order_closed i hi w'')
    rw [firstNZ_zero] at this
    exact this)
  exact this

/-- The list that the law writes. -/
def closedCells : Array Value := #[.int .i64 2, .int .i64 (-7), .string ⟨#[]⟩, .slice none 0 0, .int .i64 3, .int .i64 0, .string ⟨#[105, 116, 39, 115]⟩, .slice none 0 0, .int .i64 0, .int .i64 0, .string ⟨#[]⟩, .slice none 0 0]

theorem closed_at (w : World) (t : TypeId) : ListAt (w.alloc (.cells closedCells t)) w.heap.size 0 3 (valsOf closedItems) := by
  intro i hi
  have h := fun j => cell_of (alloc_new w (.cells closedCells t)) j
  have h3 : i = 0 ∨ i = 1 ∨ i = 2 := by omega
  rcases h3 with rfl | rfl | rfl
  · exact ⟨h 0, h 1, h 2, h 3⟩
  · exact ⟨h 4, h 5, h 6, h 7⟩
  · exact ⟨h 8, h 9, h 10, h 11⟩

set_option maxHeartbeats 4000000 in
set_option maxRecDepth 100000 in
theorem valued_true (B : Nat) (w : World) (hB : B ≤ w.heap.size) (hT : Tabs B w) (hP : Pow10 B w) :
    Calls Tryz.prog 6 #[] w fun e w' => e = .returned (.bool true) ∧ Below w.heap.size w w' := by
  go_enter Tryz.func6, Tryz.ntmps6
  go_wp2_with fail
  refine (num_any _ _).mono ?_
  rintro e w1 ⟨rfl, b1⟩
  go_wp2_with fail
  refine (str_any _ _).mono ?_
  rintro e w2 ⟨rfl, b2⟩
  have s2 : w.heap.size ≤ w2.heap.size := Nat.le_trans b1.size b2.size
  have b12 : Below w.heap.size w w2 := b1.trans (b2.mono b1.size)
  clear b1 b2
  go_wp2_with fail
  refine (list_any _ _ _ _).mono ?_
  rintro e w3 ⟨rfl, b3⟩
  have l3 : ListAt w3 w2.heap.size 0 3 (valsOf closedItems) := listAt_below (closed_at w2 24) (by simp) b3
  have s3 : w2.heap.size + 1 ≤ w3.heap.size := by have := b3.size; simpa using this
  have b33 : Below w.heap.size w w3 := (b12.alloc s2 _).trans (b3.mono (by simp; omega))
  have L3 := toHid l3
  clear b3 b12 l3
  go_wp2_with fail
  refine (print_closed B w2.heap.size 3 w3 (by omega) (hT.below (b33.mono hB)) (hP.below (b33.mono hB)) (by omega) L3.out).mono ?_
  rintro e w4 ⟨rfl, b4⟩
  have s4 := b4.size
  have b44 : Below w.heap.size w w4 := b33.trans (b4.mono (by omega))
  clear b33 b4 L3
  unfold closedText
  go_wp2_with fail
  have cP := parse_closed B w4 (by omega) (hT.below (b44.mono hB)) (hP.below (b44.mono hB))
  unfold closedText at cP
  refine cP.mono ?_
  rintro e w5 ⟨g, cap, rfl, ho, b5⟩
  have s5 := b5.size
  have b55 : Below w.heap.size w w5 := b44.trans (b5.mono (by omega))
  have hgl := row_lt ho
  have L5 := toHid (items_at (l := closedItems) ho)
  clear b44 b5 ho cP
  go_wp2_with fail
  have hx := alloc_new w5 (.cells #[.int .i64 4, .int .i64 0, .string ⟨#[]⟩, .slice (some ⟨g, 0, none⟩) 3 cap] 24)
  have x0 := cell_of hx 0
  have x1 := cell_of hx 1
  have x2 := cell_of hx 2
  have x3 := cell_of hx 3
  simp only [List.getElem?_toArray, List.getElem?_cons_zero, List.getElem?_cons_succ] at x0 x1 x2 x3
  clear hx
  have b6 : Below w5.heap.size w5 (w5.alloc (.cells #[.int .i64 4, .int .i64 0, .string ⟨#[]⟩, .slice (some ⟨g, 0, none⟩) 3 cap] 24)) := (Below.refl _ _).alloc (Nat.le_refl _) _
  have s6 : (w5.alloc (.cells #[.int .i64 4, .int .i64 0, .string ⟨#[]⟩, .slice (some ⟨g, 0, none⟩) 3 cap] 24)).heap.size = w5.heap.size + 1 := by simp
  have hg5 := hgl.2
  have b56 := b55.trans (b6.mono (by omega))
  generalize w5.alloc (.cells #[.int .i64 4, .int .i64 0, .string ⟨#[]⟩, .slice (some ⟨g, 0, none⟩) 3 cap] 24) = W6 at x0 x1 x2 x3 b6 s6 b56 ⊢
  have L6 := toHid (listAt_below L5.out hg5 b6)
  have s7 : w5.heap.size < W6.heap.size := by omega
  have s8 : g < W6.heap.size := by omega
  have s9 : w.heap.size ≤ W6.heap.size := by omega
  clear b6 s6 hgl hg5 L5 b55 s5 s4 s3 s2 hT hP
  generalize w5.heap.size = m at x0 x1 x2 x3 s7 ⊢
  have D6 : Below W6.heap.size W6 W6.drew := (Below.refl _ _).drew
  go_region_held3 (fun w' => w'.cell? ⟨m, 0, none⟩ = some (.int .i64 4) ∧ w'.cell? ⟨m, 1, none⟩ = some (.int .i64 0) ∧ w'.cell? ⟨m, 2, none⟩ = some (.string ⟨#[]⟩) ∧ w'.cell? ⟨m, 3, none⟩ = some (.slice (some ⟨g, 0, none⟩) 3 cap))
    (first
      | exact S4
      | exact S3
      | exact S25
      | exact S2
      | exact S1
      | exact ⟨x0, x1, x2, x3⟩
      | go_keep)
    (first
      | (go_at_call 12; refine (num_any _ _).mono ?_; rintro e u1 ⟨rfl, h1⟩; have k1 : Below W6.heap.size W6 u1 := D6.trans h1; have S1 : u1.cell? ⟨m, 0, none⟩ = some (.int .i64 4) ∧ u1.cell? ⟨m, 1, none⟩ = some (.int .i64 0) ∧ u1.cell? ⟨m, 2, none⟩ = some (.string ⟨#[]⟩) ∧ u1.cell? ⟨m, 3, none⟩ = some (.slice (some ⟨g, 0, none⟩) 3 cap) := ⟨(k1.cell (p := ⟨m, 0, none⟩) s7).trans x0, (k1.cell (p := ⟨m, 1, none⟩) s7).trans x1, (k1.cell (p := ⟨m, 2, none⟩) s7).trans x2, (k1.cell (p := ⟨m, 3, none⟩) s7).trans x3⟩)
      | (go_at_call 13; refine (str_any _ _).mono ?_; rintro e u2 ⟨rfl, h2⟩; have k2 : Below W6.heap.size W6 u2 := k1.trans (h2.mono k1.size); have S2 : u2.cell? ⟨m, 0, none⟩ = some (.int .i64 4) ∧ u2.cell? ⟨m, 1, none⟩ = some (.int .i64 0) ∧ u2.cell? ⟨m, 2, none⟩ = some (.string ⟨#[]⟩) ∧ u2.cell? ⟨m, 3, none⟩ = some (.slice (some ⟨g, 0, none⟩) 3 cap) := ⟨(k2.cell (p := ⟨m, 0, none⟩) s7).trans x0, (k2.cell (p := ⟨m, 1, none⟩) s7).trans x1, (k2.cell (p := ⟨m, 2, none⟩) s7).trans x2, (k2.cell (p := ⟨m, 3, none⟩) s7).trans x3⟩; have k25 : Below W6.heap.size W6 (u2.alloc (.cells #[.int .i64 2, .int .i64 (-7), .string ⟨#[]⟩, .slice none 0 0, .int .i64 3, .int .i64 0, .string ⟨#[105, 116, 39, 115]⟩, .slice none 0 0, .int .i64 0, .int .i64 0, .string ⟨#[]⟩, .slice none 0 0] 24)) := k2.alloc k2.size _; have S25 : (u2.alloc (.cells #[.int .i64 2, .int .i64 (-7), .string ⟨#[]⟩, .slice none 0 0, .int .i64 3, .int .i64 0, .string ⟨#[105, 116, 39, 115]⟩, .slice none 0 0, .int .i64 0, .int .i64 0, .string ⟨#[]⟩, .slice none 0 0] 24)).cell? ⟨m, 0, none⟩ = some (.int .i64 4) ∧ (u2.alloc (.cells #[.int .i64 2, .int .i64 (-7), .string ⟨#[]⟩, .slice none 0 0, .int .i64 3, .int .i64 0, .string ⟨#[105, 116, 39, 115]⟩, .slice none 0 0, .int .i64 0, .int .i64 0, .string ⟨#[]⟩, .slice none 0 0] 24)).cell? ⟨m, 1, none⟩ = some (.int .i64 0) ∧ (u2.alloc (.cells #[.int .i64 2, .int .i64 (-7), .string ⟨#[]⟩, .slice none 0 0, .int .i64 3, .int .i64 0, .string ⟨#[105, 116, 39, 115]⟩, .slice none 0 0, .int .i64 0, .int .i64 0, .string ⟨#[]⟩, .slice none 0 0] 24)).cell? ⟨m, 2, none⟩ = some (.string ⟨#[]⟩) ∧ (u2.alloc (.cells #[.int .i64 2, .int .i64 (-7), .string ⟨#[]⟩, .slice none 0 0, .int .i64 3, .int .i64 0, .string ⟨#[105, 116, 39, 115]⟩, .slice none 0 0, .int .i64 0, .int .i64 0, .string ⟨#[]⟩, .slice none 0 0] 24)).cell? ⟨m, 3, none⟩ = some (.slice (some ⟨g, 0, none⟩) 3 cap) := ⟨(k25.cell (p := ⟨m, 0, none⟩) s7).trans x0, (k25.cell (p := ⟨m, 1, none⟩) s7).trans x1, (k25.cell (p := ⟨m, 2, none⟩) s7).trans x2, (k25.cell (p := ⟨m, 3, none⟩) s7).trans x3⟩)
      | (go_at_call 11; refine (list_any _ _ _ _).mono ?_; rintro e u3 ⟨rfl, h3⟩; have l3 : ListAt u3 u2.heap.size 0 3 (valsOf closedItems) := listAt_below (closed_at u2 24) (by simp) h3; have k3 : Below W6.heap.size W6 u3 := k25.trans (h3.mono k25.size); have t3 : u2.heap.size < u3.heap.size := (by have := h3.size; simp at this; omega); have S3 : u3.cell? ⟨m, 0, none⟩ = some (.int .i64 4) ∧ u3.cell? ⟨m, 1, none⟩ = some (.int .i64 0) ∧ u3.cell? ⟨m, 2, none⟩ = some (.string ⟨#[]⟩) ∧ u3.cell? ⟨m, 3, none⟩ = some (.slice (some ⟨g, 0, none⟩) 3 cap) := ⟨(k3.cell (p := ⟨m, 0, none⟩) s7).trans x0, (k3.cell (p := ⟨m, 1, none⟩) s7).trans x1, (k3.cell (p := ⟨m, 2, none⟩) s7).trans x2, (k3.cell (p := ⟨m, 3, none⟩) s7).trans x3⟩)
      | (go_at_call 15; refine (same_closed g cap u2.heap.size 3 u3 (by have := k3.size; omega) t3 (listAt_below L6.out s8 k3) l3).mono ?_; rintro e u4 ⟨rfl, h4⟩; have k4 : Below W6.heap.size W6 u4 := k3.trans (h4.mono k3.size); have S4 : u4.cell? ⟨m, 0, none⟩ = some (.int .i64 4) ∧ u4.cell? ⟨m, 1, none⟩ = some (.int .i64 0) ∧ u4.cell? ⟨m, 2, none⟩ = some (.string ⟨#[]⟩) ∧ u4.cell? ⟨m, 3, none⟩ = some (.slice (some ⟨g, 0, none⟩) 3 cap) := ⟨(k4.cell (p := ⟨m, 0, none⟩) s7).trans x0, (k4.cell (p := ⟨m, 1, none⟩) s7).trans x1, (k4.cell (p := ⟨m, 2, none⟩) s7).trans x2, (k4.cell (p := ⟨m, 3, none⟩) s7).trans x3⟩))
  all_goals
    go_wp2_with fail
    go_ret
    exact ⟨rfl, b56.trans (k4.mono s9)⟩

end Go.Proofs.YtonjeaoagpelmaaGreatDoor
