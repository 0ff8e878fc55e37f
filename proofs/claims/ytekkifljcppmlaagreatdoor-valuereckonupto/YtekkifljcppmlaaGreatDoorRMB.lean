/-
  What is proved here: what the texts VCheck, VItems, VParse, VClosed, VPText, VPValue, VOrder, VPrint, VValued prove, in one text.
-/
import Derived.Test.YtekkifljcppmlaaGreatDoorRMA
import Derived.Test.YtekkifljcppmlaaGreatDoorShelf
import Derived.Maps.AppendAt
import Derived.OwnWalk
import Derived.Lib.AppendStr
namespace Go.Proofs.YtekkifljcppmlaaGreatDoor
open Go.RowKit
set_option linter.unusedVariables false

set_option maxHeartbeats 1000000 in
theorem within_list (n : Int) (s : ByteArray) (a : Option Addr) (l c : Nat) (lists z : Int) (w : World)
    (h : ∀ w', Below w.heap.size w w' → Calls Tryz.prog 64 #[.agg #[.int .i64 4, .int .i64 n, .string s, .slice a l c], .int .i64 lists] w' fun e w'' => e = .returned (.int .i64 z) ∧ Below w'.heap.size w' w'') :
    Calls Tryz.prog 43 #[.agg #[.int .i64 4, .int .i64 n, .string s, .slice a l c], .int .i64 lists] w fun e w' => e = .returned (.int .i64 z) ∧ Below w.heap.size w w' := by
  have HV := toHid h
  clear h
  go_enter Tryz.func43, Tryz.ntmps43
  go_wp2_with fail
  refine (HV.out _ ((Below.refl _ _).alloc (Nat.le_refl _) _)).mono ?_
  rintro e w' ⟨rfl, hb'⟩
  go_wp2_with fail
  go_ret
  exact ⟨rfl, ((Below.refl _ _).alloc (Nat.le_refl _) _).trans (hb'.mono (by simp))⟩

set_option maxHeartbeats 1000000 in
theorem within_text (n : Int) (s : ByteArray) (a : Option Addr) (l c : Nat) (lists z : Int) (w : World)
    (h : ∀ w', Below w.heap.size w w' → Calls Tryz.prog 65 #[.agg #[.int .i64 3, .int .i64 n, .string s, .slice a l c]] w' fun e w'' => e = .returned (.int .i64 z) ∧ Below w'.heap.size w' w'') :
    Calls Tryz.prog 43 #[.agg #[.int .i64 3, .int .i64 n, .string s, .slice a l c], .int .i64 lists] w fun e w' => e = .returned (.int .i64 z) ∧ Below w.heap.size w w' := by
  have HV := toHid h
  clear h
  go_enter Tryz.func43, Tryz.ntmps43
  go_wp2_with fail
  refine (HV.out _ ((Below.refl _ _).alloc (Nat.le_refl _) _)).mono ?_
  rintro e w' ⟨rfl, hb'⟩
  go_wp2_with fail
  go_ret
  exact ⟨rfl, ((Below.refl _ _).alloc (Nat.le_refl _) _).trans (hb'.mono (by simp))⟩

set_option maxHeartbeats 1000000 in
theorem within_plain (k n : Int) (s : ByteArray) (a : Option Addr) (l c : Nat) (lists z : Int) (w : World) (h4 : (k == 4) = false) (h3 : (k == 3) = false)
    (h : ∀ w', Below w.heap.size w w' → Calls Tryz.prog 66 #[.agg #[.int .i64 k, .int .i64 n, .string s, .slice a l c]] w' fun e w'' => e = .returned (.int .i64 z) ∧ Below w'.heap.size w' w'') :
    Calls Tryz.prog 43 #[.agg #[.int .i64 k, .int .i64 n, .string s, .slice a l c], .int .i64 lists] w fun e w' => e = .returned (.int .i64 z) ∧ Below w.heap.size w w' := by
  have HV := toHid h
  clear h
  go_enter Tryz.func43, Tryz.ntmps43
  go_wp2_with fail
  refine (HV.out _ ((Below.refl _ _).alloc (Nat.le_refl _) _)).mono ?_
  rintro e w' ⟨rfl, hb'⟩
  go_wp2_with fail
  go_ret
  exact ⟨rfl, ((Below.refl _ _).alloc (Nat.le_refl _) _).trans (hb'.mono (by simp))⟩

set_option maxHeartbeats 1000000 in
theorem check_of (v0 v1 : Int) (s : ByteArray) (a : Option Addr) (l c : Nat) (z : Int) (w : World)
    (h : ∀ w', Below w.heap.size w w' → Calls Tryz.prog 43 #[.agg #[.int .i64 v0, .int .i64 v1, .string s, .slice a l c], .int .i64 0] w' fun e w'' => e = .returned (.int .i64 z) ∧ Below w'.heap.size w' w'') :
    Calls Tryz.prog 26 #[.agg #[.int .i64 v0, .int .i64 v1, .string s, .slice a l c]] w fun e w' => e = .returned (.int .i64 z) ∧ Below w.heap.size w w' := by
  have HV := toHid h
  clear h
  go_enter Tryz.func26, Tryz.ntmps26
  go_wp2_with fail
  refine (HV.out _ ((Below.refl _ _).alloc (Nat.le_refl _) _)).mono ?_
  rintro e w' ⟨rfl, hb'⟩
  go_wp2_with fail
  go_ret
  exact ⟨rfl, ((Below.refl _ _).alloc (Nat.le_refl _) _).trans (hb'.mono (by simp))⟩

/-- A row of scalars, as one reads it. -/
def valsOf (l : List Item) : Vals := ⟨fun i => (l.getD i ⟨0, 0, ⟨#[]⟩, 0⟩).k, fun i => (l.getD i ⟨0, 0, ⟨#[]⟩, 0⟩).n, fun i => (l.getD i ⟨0, 0, ⟨#[]⟩, 0⟩).s, fun _ => none, fun _ => 0, fun _ => 0⟩

theorem rowOf_at (l : List Item) : ∀ i, i < l.length → (rowOf l)[i * 4]? = some (.int .i64 ((valsOf l).k i)) ∧ (rowOf l)[i * 4 + 1]? = some (.int .i64 ((valsOf l).n i)) ∧ (rowOf l)[i * 4 + 1 + 1]? = some (.string ((valsOf l).s i)) ∧ (rowOf l)[i * 4 + 1 + 1 + 1]? = some (.slice none 0 0) := by
  induction l with
  | nil => intro i hi; exact absurd hi (Nat.not_lt_zero _)
  | cons x l ih =>
    intro i hi
    have e : rowOf (x :: l) = [.int .i64 x.k, .int .i64 x.n, .string x.s, .slice none 0 0] ++ rowOf l := rfl
    rw [e]
    cases i with
    | zero => exact ⟨rfl, rfl, rfl, rfl⟩
    | succ i =>
      have hi' : i < l.length := by simpa using hi
      obtain ⟨h0, h1, h2, h3⟩ := ih i hi'
      have s0 : (i + 1) * 4 = i * 4 + 4 := by omega
      rw [s0]
      exact ⟨h0, h1, h2, h3⟩

theorem row_cell {B n : Nat} {e : TypeId} {g cap : Nat} {xs : List Value} {w : World} (h : w.ownsRow B e 4 (.slice (some ⟨g, 0, none⟩) n cap) n xs) (hn : 0 < n) (j : Nat) (u : Value) (hj : xs[j]? = some u) : w.cell? ⟨g, j, none⟩ = some u := by
  rcases h.2 with ⟨h0, _⟩ | ⟨g', cap', cur, e1, e2, e3, e4, e5, e6, e7⟩
  · simp at h0
  · simp at e1
    obtain ⟨rfl, _⟩ := e1
    rw [cell_of e3]
    rw [← e7] at hj
    rw [List.getElem?_take] at hj
    split at hj
    · simpa using hj
    · simp at hj

theorem items_at {B cap g : Nat} {l : List Item} {w : World} (h : w.ownsRow B 24 4 (.slice (some ⟨g, 0, none⟩) l.length cap) l.length (rowOf l)) : ListAt w g 0 l.length (valsOf l) := by
  intro i hi
  obtain ⟨h0, h1, h2, h3⟩ := rowOf_at l i hi
  have hn : 0 < l.length := by omega
  have z : 0 + i * 4 = i * 4 := by omega
  rw [z]
  exact ⟨row_cell h hn _ _ h0, row_cell h hn _ _ h1, row_cell h hn _ _ h2, row_cell h hn _ _ h3⟩

theorem row_lt {B n : Nat} {e : TypeId} {g cap : Nat} {xs : List Value} {w : World} (h : w.ownsRow B e 4 (.slice (some ⟨g, 0, none⟩) n cap) n xs) : B ≤ g ∧ g < w.heap.size := by
  rcases h.2 with ⟨h0, _⟩ | ⟨g', cap', cur, e1, e2, e3, _⟩
  · simp at h0
  · simp at e1
    obtain ⟨rfl, _⟩ := e1
    exact ⟨e2, (Array.getElem?_eq_some_iff.1 e3).1⟩

theorem firstErr_zero (es : Nat → Int) (h : ∀ i, es i = 0) : ∀ n i, firstErr es i n 0 = 0 := by
  intro n
  induction n with
  | zero => intro i; rfl
  | succ n ih => intro i; rw [firstErr, if_pos (h i), ih]

theorem listAt_below {w w' : World} {b off len : Nat} {V : Vals} (h : ListAt w b off len V) (hb : b < w.heap.size) (k : Below w.heap.size w w') : ListAt w' b off len V := by
  intro i hi
  obtain ⟨h0, h1, h2, h3⟩ := h i hi
  have c : ∀ o, w'.cell? ⟨b, o, none⟩ = w.cell? ⟨b, o, none⟩ := fun o => k.cell (p := ⟨b, o, none⟩) hb
  exact ⟨by rw [c]; exact h0, by rw [c]; exact h1, by rw [c]; exact h2, by rw [c]; exact h3⟩

/-- A list of values whose checks answer OK. -/
theorem check_list (b off len cap : Nat) (V : Vals) (w : World) (hlen : len ≤ 30) (hb : b < w.heap.size) (hat : ListAt w b off len V)
    (hel : ∀ i, i < len → ∀ w', Below w.heap.size w w' → Calls Tryz.prog 43 #[V.at i, .int .i64 1] w' fun e w'' => e = .returned (.int .i64 0) ∧ Below w'.heap.size w' w'') :
    Calls Tryz.prog 26 #[.agg #[.int .i64 4, .int .i64 0, .string ⟨#[]⟩, .slice (some ⟨b, off, none⟩) len cap]] w fun e w' => e = .returned (.int .i64 0) ∧ Below w.heap.size w w' := by
  refine check_of 4 0 ⟨#[]⟩ (some ⟨b, off, none⟩) len cap 0 w fun w1 k1 => ?_
  refine within_list 0 ⟨#[]⟩ (some ⟨b, off, none⟩) len cap 0 0 w1 fun w2 k2 => ?_
  have hb1 : b < w1.heap.size := by have := k1.size; omega
  have hb2 : b < w2.heap.size := by have := k2.size; omega
  have hat2 := listAt_below (listAt_below hat hb k1) hb1 k2
  have := checkList_any 4 0 ⟨#[]⟩ b off len cap 0 (fun _ => 0) V 0 w2 (fun _ _ => rfl) (fun h => absurd rfl h) (fun h => absurd rfl h) hlen (by omega) (by omega) hb2 hat2
    (fun i hi w' k' => hel i hi w' ((k1.trans (k2.mono k1.size)).trans (k'.mono (Nat.le_trans k1.size k2.size))))
  rw [firstErr_zero _ (fun _ => rfl)] at this
  exact this

set_option maxHeartbeats 2000000 in
set_option maxRecDepth 100000 in
theorem parse_list (B : Nat) (text : ByteArray) (l : List Item) (w : World) (hB : B ≤ w.heap.size) (ht : text.size ≤ 4000) (hT : Tabs B w) (hP : Pow10 B w)
    (hR : ∀ W, B ≤ W.heap.size → Tabs B W → Pow10 B W → Calls Tryz.prog 41 #[.string text] W fun e w' => ∃ g cap, e = .returned (.tuple #[.agg #[.int .i64 4, .int .i64 0, .string ⟨#[]⟩, .slice (some ⟨g, 0, none⟩) l.length cap], .int .i64 0, .int .i64 0]) ∧ w'.ownsRow W.heap.size 24 4 (.slice (some ⟨g, 0, none⟩) l.length cap) l.length (rowOf l) ∧ Below W.heap.size W w')
    (hlen : l.length ≤ 30) (hK : ∀ i, i < l.length → ∀ W, B ≤ W.heap.size → Tabs B W → Calls Tryz.prog 43 #[(valsOf l).at i, .int .i64 1] W fun e w'' => e = .returned (.int .i64 0) ∧ Below W.heap.size W w'') :
    Calls Tryz.prog 24 #[.string text] w fun e w' => ∃ g cap, e = .returned (.tuple #[.agg #[.int .i64 4, .int .i64 0, .string ⟨#[]⟩, .slice (some ⟨g, 0, none⟩) l.length cap], .int .i64 0, .int .i64 0]) ∧ w'.ownsRow w.heap.size 24 4 (.slice (some ⟨g, 0, none⟩) l.length cap) l.length (rowOf l) ∧ Below w.heap.size w w' := by
  have HR := toHid hR
  have HK := toHid hK
  clear hR hK
  have hb0 : Below w.heap.size w (w.alloc (.cells #[.int .i64 0, .int .i64 0, .string ⟨#[]⟩, .slice none 0 0] 24)) := (Below.refl _ _).alloc (Nat.le_refl _) _
  have hx0 := alloc_new w (.cells #[.int .i64 0, .int .i64 0, .string ⟨#[]⟩, .slice none 0 0] 24)
  have hz0 : (w.alloc (.cells #[.int .i64 0, .int .i64 0, .string ⟨#[]⟩, .slice none 0 0] 24)).heap.size = w.heap.size + 1 := by simp
  have hbig : ¬ (4000 : Int) < (text.size : Int) := by omega
  have H0 := toHid hx0
  clear hx0
  go_enter Tryz.func24, Tryz.ntmps24
  go_wp2_with fail
  refine (HR.out _ (by omega) (hT.below (hb0.mono hB)) (hP.below (hb0.mono hB))).mono ?_
  rintro e w1 ⟨g, cap, rfl, ho, hb1⟩
  rw [hz0] at ho hb1
  have hs1 := hb1.size
  rw [hz0] at hs1
  have b0 : w1.heap[w.heap.size]? = some (.cells #[.int .i64 0, .int .i64 0, .string ⟨#[]⟩, .slice none 0 0] 24 (0, 0)) := by rw [hb1.block _ (by omega)]; exact H0.out
  have hT1 : Tabs B w1 := (hT.below (hb0.mono hB)).below (hb1.mono (by omega))
  have hww : Below w.heap.size w w1 := hb0.trans (hb1.mono (by omega))
  have x0 := cell_of b0 0
  have x1 := cell_of b0 1
  have x2 := cell_of b0 2
  have x3 := cell_of b0 3
  have y0 := free_of b0 0
  have y1 := free_of b0 1
  have y2 := free_of b0 2
  have y3 := free_of b0 3
  simp at x0 x1 x2 x3
  have B0 := toHid b0
  clear b0 HR H0 hb0 hz0 hb1
  go_wp2_with fail
  have q1 := put4_here B0.out (.int .i64 4) (.int .i64 0) (.string ⟨#[]⟩) (.slice (some ⟨g, 0, none⟩) l.length cap)
  have e1 := put4_below w1 w.heap.size (.int .i64 4) (.int .i64 0) (.string ⟨#[]⟩) (.slice (some ⟨g, 0, none⟩) l.length cap)
  have z1 : (put4 w1 w.heap.size (.int .i64 4) (.int .i64 0) (.string ⟨#[]⟩) (.slice (some ⟨g, 0, none⟩) l.length cap)).heap.size = w1.heap.size := by simp [put4, World.setCell]
  have o1 : (put4 w1 w.heap.size (.int .i64 4) (.int .i64 0) (.string ⟨#[]⟩) (.slice (some ⟨g, 0, none⟩) l.length cap)).ownsRow (w.heap.size + 1) 24 4 (.slice (some ⟨g, 0, none⟩) l.length cap) l.length (rowOf l) :=
    ownsRow_setCell_below (ownsRow_setCell_below (ownsRow_setCell_below (ownsRow_setCell_below ho (a := ⟨w.heap.size, 0, none⟩) (by show w.heap.size < _; omega) (.int .i64 4)) (a := ⟨w.heap.size, 1, none⟩) (by show w.heap.size < _; omega) (.int .i64 0)) (a := ⟨w.heap.size, 2, none⟩) (by show w.heap.size < _; omega) (.string ⟨#[]⟩)) (a := ⟨w.heap.size, 3, none⟩) (by show w.heap.size < _; omega) (.slice (some ⟨g, 0, none⟩) l.length cap)
  have eP : (((w1.setCell ⟨w.heap.size, 0, none⟩ (.int .i64 4)).setCell ⟨w.heap.size, 1, none⟩ (.int .i64 0)).setCell ⟨w.heap.size, 2, none⟩ (.string ⟨#[]⟩)).setCell ⟨w.heap.size, 3, none⟩ (.slice (some ⟨g, 0, none⟩) l.length cap) = put4 w1 w.heap.size (.int .i64 4) (.int .i64 0) (.string ⟨#[]⟩) (.slice (some ⟨g, 0, none⟩) l.length cap) := rfl
  rw [eP]
  clear eP
  generalize put4 w1 w.heap.size (.int .i64 4) (.int .i64 0) (.string ⟨#[]⟩) (.slice (some ⟨g, 0, none⟩) l.length cap) = V at q1 e1 z1 o1 ⊢
  clear x0 x1 x2 x3 y0 y1 y2 y3 B0
  have hTV : Tabs B V := hT1.below (e1.mono hB)
  have hg := row_lt o1
  refine (check_list g 0 l.length cap (valsOf l) V hlen hg.2 (items_at o1) (fun i hi W kW => HK.out i hi W (by have := kW.size; omega) (hTV.below (kW.mono (by omega))))).mono ?_
  rintro e w2 ⟨rfl, hb2⟩
  have b2 : w2.heap[w.heap.size]? = some (.cells #[.int .i64 4, .int .i64 0, .string ⟨#[]⟩, (.slice (some ⟨g, 0, none⟩) l.length cap)] 24 (0, 0)) := by rw [hb2.block _ (by omega)]; exact q1
  have o2 := row_kept o1 (fun k _ hk => hb2.block k hk)
  have x0 := cell_of b2 0
  have x1 := cell_of b2 1
  have x2 := cell_of b2 2
  have x3 := cell_of b2 3
  have y0 := free_of b2 0
  have y1 := free_of b2 1
  have y2 := free_of b2 2
  have y3 := free_of b2 3
  simp at x0 x1 x2 x3
  have B2 := toHid b2
  clear b2 HK q1 o1
  go_wp2_with fail
  have q3 := put4_here B2.out (.int .i64 4) (.int .i64 0) (.string ⟨#[]⟩) (.slice (some ⟨g, 0, none⟩) l.length cap)
  have e3 := put4_below w2 w.heap.size (.int .i64 4) (.int .i64 0) (.string ⟨#[]⟩) (.slice (some ⟨g, 0, none⟩) l.length cap)
  have o3 : (put4 w2 w.heap.size (.int .i64 4) (.int .i64 0) (.string ⟨#[]⟩) (.slice (some ⟨g, 0, none⟩) l.length cap)).ownsRow (w.heap.size + 1) 24 4 (.slice (some ⟨g, 0, none⟩) l.length cap) l.length (rowOf l) :=
    ownsRow_setCell_below (ownsRow_setCell_below (ownsRow_setCell_below (ownsRow_setCell_below o2 (a := ⟨w.heap.size, 0, none⟩) (by show w.heap.size < _; omega) (.int .i64 4)) (a := ⟨w.heap.size, 1, none⟩) (by show w.heap.size < _; omega) (.int .i64 0)) (a := ⟨w.heap.size, 2, none⟩) (by show w.heap.size < _; omega) (.string ⟨#[]⟩)) (a := ⟨w.heap.size, 3, none⟩) (by show w.heap.size < _; omega) (.slice (some ⟨g, 0, none⟩) l.length cap)
  have eP : (((w2.setCell ⟨w.heap.size, 0, none⟩ (.int .i64 4)).setCell ⟨w.heap.size, 1, none⟩ (.int .i64 0)).setCell ⟨w.heap.size, 2, none⟩ (.string ⟨#[]⟩)).setCell ⟨w.heap.size, 3, none⟩ (.slice (some ⟨g, 0, none⟩) l.length cap) = put4 w2 w.heap.size (.int .i64 4) (.int .i64 0) (.string ⟨#[]⟩) (.slice (some ⟨g, 0, none⟩) l.length cap) := rfl
  rw [eP]
  clear eP
  generalize put4 w2 w.heap.size (.int .i64 4) (.int .i64 0) (.string ⟨#[]⟩) (.slice (some ⟨g, 0, none⟩) l.length cap) = Z at q3 e3 o3 ⊢
  have t0 := cell_of q3 0
  have t1 := cell_of q3 1
  have t2 := cell_of q3 2
  have t3 := cell_of q3 3
  simp at t0 t1 t2 t3
  refine bodyPost_ret (v := .tuple #[.agg #[.int .i64 4, .int .i64 0, .string ⟨#[]⟩, (.slice (some ⟨g, 0, none⟩) l.length cap)], .int .i64 0, .int .i64 0]) (by simp [results, Tryz.results24, go_sem, t0, t1, t2, t3]) rfl ⟨g, cap, rfl, ?_, ?_⟩
  · refine ⟨o3.1, ?_⟩
    rcases o3.2 with h0 | ⟨g', cap', cur, f1, f2, f3⟩
    · exact .inl h0
    · exact .inr ⟨g', cap', cur, f1, by omega, f3⟩
  · exact ((hww.trans e1).trans (hb2.mono (by omega))).trans e3

/-- The closed fact's text. -/
def closedText : ByteArray := ⟨#[91, 45, 55, 44, 39, 105, 116, 92, 39, 115, 39, 44, 110, 117, 108, 108, 93]⟩

/-- Its values. -/
def closedItems : List Item := [⟨2, -7, ⟨#[]⟩, 3⟩, ⟨3, 0, ⟨#[105, 116, 39, 115]⟩, 11⟩, ⟨0, 0, ⟨#[]⟩, 16⟩]

theorem digit_no (i : Nat) (h : ∀ h : i < closedText.size, ¬ (48 ≤ closedText[i].toNat ∧ closedText[i].toNat ≤ 57)) : ¬ digitAt closedText i := by
  rintro ⟨h1, h2⟩
  exact h h1 h2

theorem item1 : ScalarOk closedText 1 1 ⟨2, -7, ⟨#[]⟩, 3⟩ := by
  intro B r w h hB hT hP
  refine value_num B r 1 closedText 1 w h (by decide) (by decide) hB hT hP (by decide +kernel) (by decide +kernel) (by decide +kernel) (by decide +kernel) (by decide +kernel) 3 (-7) ?_
  intro B r w h hB hP
  refine number_any B r 1 2 3 true (-7) closedText w h (by decide) hB hP (by decide) (by decide +kernel) rfl (by decide) (by decide) ?_ ?_ (by decide +kernel) (by decide) (by decide) (by decide +kernel)
  · intro i h1 h2
    have : i = 2 := by omega
    subst this
    exact ⟨by decide, by decide, by decide⟩
  · exact digit_no 3 (fun _ => show ¬ (48 ≤ (44 : UInt8).toNat ∧ (44 : UInt8).toNat ≤ 57) by decide)

theorem item3 : ScalarOk closedText 12 1 ⟨0, 0, ⟨#[]⟩, 16⟩ := by
  intro B r w h hB hT hP
  exact value_null B r 12 closedText 1 w h (by decide) (by decide) hB hT hP (by decide +kernel)

theorem item2 : ScalarOk closedText 4 1 ⟨3, 0, ⟨#[105, 116, 39, 115]⟩, 11⟩ := by
  intro B r w h hB hT hP
  have plain : ∀ (p : Nat) (c : Nat), p + 1 ≤ closedText.size → begins closedText p ⟨#[92, 39]⟩ = false → begins closedText p ⟨#[92, 92]⟩ = false → begins closedText p ⟨#[92, 110]⟩ = false → Lib.decodeGo (closedText.extract p closedText.size) = (c, 1) → c ≠ 92 → c ≠ 10 → c ≠ 65533 → LetterOk closedText p (closedText.extract p (p + 1)) (p + 1) := by
    intro p c hp h1 h2 h3 hd c1 c2 c3 B r w h hB hT
    exact letter_plain B r p 1 c closedText w h (by omega) (by decide) hB hT h1 h2 h3 hd c1 c2 c3 hp
  have hq : LetterOk closedText 7 ⟨#[39]⟩ 9 := by
    intro B r w h hB hT
    exact letter_quote r 7 closedText w h (by decide) (by decide) (by decide +kernel)
  have hl : Letters closedText 5 [(closedText.extract 5 6, 6), (closedText.extract 6 7, 7), (⟨#[39]⟩, 9), (closedText.extract 9 10, 10)] 11 := by
    refine ⟨by decide, by decide +kernel, by decide +kernel, plain 5 105 (by decide) (by decide +kernel) (by decide +kernel) (by decide +kernel) (by decide +kernel) (by decide) (by decide) (by decide), ?_⟩
    refine ⟨by decide, by decide +kernel, by decide +kernel, plain 6 116 (by decide) (by decide +kernel) (by decide +kernel) (by decide +kernel) (by decide +kernel) (by decide) (by decide) (by decide), ?_⟩
    refine ⟨by decide, by decide +kernel, by decide +kernel, hq, ?_⟩
    refine ⟨by decide, by decide +kernel, by decide +kernel, plain 9 115 (by decide) (by decide +kernel) (by decide +kernel) (by decide +kernel) (by decide +kernel) (by decide) (by decide) (by decide), ?_⟩
    exact ⟨by decide, by decide +kernel, rfl⟩
  have hj : joined [(closedText.extract 5 6, 6), (closedText.extract 6 7, 7), (⟨#[39]⟩, 9), (closedText.extract 9 10, 10)] = [105, 116, 39, 115] := by decide +kernel
  have := value_text B r 4 closedText 1 w h (by decide) (by decide) hB hT hP (by decide +kernel) (by decide +kernel) (by decide +kernel) (by decide +kernel) 11 _ hl ?_
  · rw [hj] at this
    exact this
  · rintro d ⟨t, ht⟩
    have e : (joined (d ++ t)).length = 4 := by rw [ht, hj]; rfl
    have : joined (d ++ t) = joined d ++ joined t := by simp [joined]
    rw [this, List.length_append] at e
    omega

theorem closed_items : Items closedText 1 1 closedItems closedText.size := by
  refine ⟨item1, by decide, .inr ⟨by decide +kernel, by decide +kernel, ?_⟩⟩
  refine ⟨item2, by decide, .inr ⟨by decide +kernel, by decide +kernel, ?_⟩⟩
  exact ⟨item3, by decide, .inl ⟨rfl, by decide +kernel, rfl⟩⟩

theorem closed_check (B : Nat) : ∀ i, i < closedItems.length → ∀ W, B ≤ W.heap.size → Tabs B W → Calls Tryz.prog 43 #[(valsOf closedItems).at i, .int .i64 1] W fun e w'' => e = .returned (.int .i64 0) ∧ Below W.heap.size W w'' := by
  intro i hi W hB hT
  have h3 : i = 0 ∨ i = 1 ∨ i = 2 := by
    have : closedItems.length = 3 := rfl
    omega
  rcases h3 with rfl | rfl | rfl
  · exact within_plain 2 (-7) ⟨#[]⟩ none 0 0 1 0 W (by decide) (by decide) (fun w' _ => checkPlain_int (-7) w')
  · refine within_text 0 ⟨#[105, 116, 39, 115]⟩ none 0 0 1 0 W fun w1 k1 => ?_
    have := checkText_any 0 ⟨#[105, 116, 39, 115]⟩ none 0 0 true w1 (by decide) (by decide) (fun w' k' => ?_)
    · have hz : ((if (⟨#[105, 116, 39, 115]⟩ : ByteArray).size > 4000 then 2 else if true = true ∧ (0 : Int) = 0 ∧ (0 : Nat) = 0 then 0 else 6 : Int)) = 0 := by decide
      rw [hz] at this
      exact this
    · have hT' := hT.below ((k1.mono hB).trans (k'.mono (Nat.le_trans hB k1.size)))
      have hv : Lib.validD (⟨#[105, 116, 39, 115]⟩ : ByteArray).data.toList = true := by decide +kernel
      have c := Tryz.utf8_ValidString ⟨#[105, 116, 39, 115]⟩ w' (by decide) hT'.now
      rw [hv] at c
      exact c
  · exact within_plain 0 0 ⟨#[]⟩ none 0 0 1 0 W (by decide) (by decide) (fun w' _ => checkPlain_null w')

theorem parse_closed (B : Nat) (w : World) (hB : B ≤ w.heap.size) (hT : Tabs B w) (hP : Pow10 B w) :
    Calls Tryz.prog 24 #[.string closedText] w fun e w' => ∃ g cap, e = .returned (.tuple #[.agg #[.int .i64 4, .int .i64 0, .string ⟨#[]⟩, .slice (some ⟨g, 0, none⟩) 3 cap], .int .i64 0, .int .i64 0]) ∧ w'.ownsRow w.heap.size 24 4 (.slice (some ⟨g, 0, none⟩) 3 cap) 3 (rowOf closedItems) ∧ Below w.heap.size w w' :=
  parse_list B closedText closedItems w hB (by decide) hT hP
    (fun W hBW hTW hPW => readAll_list B closedText closedItems W hBW (by decide) (by decide) hTW hPW (by decide +kernel) (by decide +kernel) (by decide +kernel) (by decide +kernel) (by decide +kernel) closed_items (by decide) (by decide +kernel))
    (by decide) (closed_check B)

/-- A row of bytes of the call's own. -/
def Out (B : Nat) (w : World) (v : Value) (l : List UInt8) : Prop := w.ownsRow B BE 1 v l.length (Lib.byteCells l)

theorem Out.len {B : Nat} {w : World} {v : Value} {l : List UInt8} (h : Out B w v l) : ∃ a c, v = .slice a l.length c := by
  rcases h.2 with ⟨h0, h1⟩ | ⟨g, cap, cur, e1, _⟩
  · exact ⟨none, 0, by rw [h0, h1]⟩
  · exact ⟨_, _, e1⟩

theorem Out.nil (B : Nat) (w : World) : Out B w (.slice none 0 0) [] := ⟨rfl, .inl ⟨rfl, rfl⟩⟩

theorem Out.kept {B : Nat} {w w' : World} {v : Value} {l : List UInt8} (h : Out B w v l) (hk : ∀ k, B ≤ k → k < w.heap.size → w'.heap[k]? = w.heap[k]?) : Out B w' v l := row_kept h hk

theorem Out.alloc {B : Nat} {w : World} {v : Value} {l : List UInt8} (h : Out B w v l) (o : Obj) : Out B (w.alloc o) v l := h.kept fun k _ hk => Below.heap_alloc _ _ _ hk

theorem Out.below {B : Nat} {w w' : World} {v : Value} {l : List UInt8} (h : Out B w v l) (k : Below w.heap.size w w') : Out B w' v l := h.kept fun i _ hi => k.block i hi

theorem Out.grown {B : Nat} {a w w' : World} {v : Value} {l : List UInt8} (h : Out B w v l) (hb : Below B a w) (hg : w.grownBy w' v.ownBlock) (hB : B ≤ w.heap.size) : Below B a w' := hb.grown hg hB (fun k hk => row_block h k hk)

theorem out_of {B : Nat} {w : World} {v : Value} {n : Nat} {l m : List UInt8} {ys : List Value} (h : w.ownsRow B BE 1 v n (Lib.byteCells l ++ ys)) (e : ys = Lib.byteCells m) : Out B w v (l ++ m) := by
  subst e
  rw [← Lib.byteCells_append] at h
  have hl := h.1
  rw [Lib.byteCells_length] at hl
  have : n = (l ++ m).length := by omega
  subst this
  exact h

theorem two_new (w : World) (x y : Value) (t : TypeId) : ∀ j u, [x, y][j]? = some u → (w.alloc (.cells #[x, y] t)).cell? ((⟨w.heap.size, 0, none⟩ : Addr).add j) = some u :=
  World.news_of_block (cs := #[x, y]) (alloc_new w _)

theorem one_new (w : World) (x : Value) (t : TypeId) : ∀ j u, [x][j]? = some u → (w.alloc (.cells #[x] t)).cell? ((⟨w.heap.size, 0, none⟩ : Addr).add j) = some u :=
  World.news_of_block (cs := #[x]) (alloc_new w _)

/-- How a byte of a text is written. -/
def escB (c : UInt8) : List UInt8 := if c = 39 then [92, 39] else if c = 92 then [92, 92] else if c = 10 then [92, 110] else [c]

def escape (l : List UInt8) : List UInt8 := (l.map escB).flatten

theorem escape_take (s : ByteArray) (k : Nat) (h : k < s.size) : escape (s.data.toList.take (k + 1)) = escape (s.data.toList.take k) ++ escB s[k] := by
  have e : s.data.toList.take (k + 1) = s.data.toList.take k ++ [s[k]] := by
    rw [List.take_succ_eq_append_getElem (by simpa using h)]
    rfl
  rw [e]
  simp [escape]

theorem escape_len (l : List UInt8) : (escape l).length ≤ 2 * l.length := by
  induction l with
  | nil => simp [escape]
  | cons c l ih =>
    have e : escape (c :: l) = escB c ++ escape l := by simp [escape]
    have e2 : (escB c).length ≤ 2 := by
      unfold escB
      by_cases h1 : c = 39
      · simp [h1]
      · by_cases h2 : c = 92
        · simp [h2]
        · by_cases h3 : c = 10
          · simp [h3]
          · simp [h1, h2, h3]
    rw [e, List.length_append, List.length_cons]
    omega

set_option maxHeartbeats 4000000 in
set_option maxRecDepth 100000 in
theorem appendText_any (B : Nat) (sv : Value) (l : List UInt8) (s : ByteArray) (w : World) (h : Out B w sv l) (hB : B ≤ w.heap.size) (hl : l.length ≤ 1000000) (hs : s.size ≤ 4000) :
    Calls Tryz.prog 46 #[sv, .string s] w fun e w' => ∃ v', e = .returned v' ∧ Out B w' v' (l ++ ([39] ++ escape s.data.toList ++ [39])) ∧ Below B w w' := by
  obtain ⟨i0, hi, hz0, hz1, hz2⟩ := info_byte
  have H := toHid h
  obtain ⟨a0, c0, rfl⟩ := h.len
  clear h
  go_enter Tryz.func46, Tryz.ntmps46
  go_wp2_with (at_builtin; refine wpList_append_own _ rfl _ _ 53 rfl B BE i0 (.int .u8 0) 1 1 Tryz.underlying53 hi hz0 hz1 hz2 rfl (by decide) _ _ _ rfl (H.out.alloc _) ⟨w.heap.size, 0, none⟩ 1 1 [.int .u8 39] rfl rfl (one_new _ _ _) (fun x hx => by simp at hx; subst hx; rfl) (by unfold maxLen; omega) (by omega) (by simp; omega) ?_)
  intro v1 w1 hown1 hg1 _
  have o1 : Out B w1 v1 (l ++ [39]) := out_of hown1 rfl
  have hb1 : Below B w w1 := (H.out.alloc _).grown ((Below.refl _ _).alloc hB _) hg1 (by simp; omega)
  have O1 := toHid o1
  clear o1 hown1 hg1 H
  go_wp2_with fail
  have hz1' : B ≤ w1.heap.size := by have := hb1.size; omega
  go_loopg [0, 12] s.size (fun g s0 s12 wr => ∃ (k : Nat) (v : Value), k ≤ s.size ∧ s.size - k ≤ g ∧ s12 = .int .i64 k ∧ s0 = v ∧ B ≤ wr.heap.size ∧ Out B wr v (l ++ [39] ++ escape (s.data.toList.take k)) ∧ Below B w wr)
  case atStart => exact ⟨0, v1, Nat.zero_le _, by omega, rfl, rfl, hz1', by simpa [escape] using O1.out, hb1⟩
  case round =>
    clear O1 hb1 hz1'
    obtain ⟨k, v, hk, hg, rfl, rfl, hz, ho, hb⟩ := hrel
    have hlen := escape_len (s.data.toList.take k)
    have hlt2 : (s.data.toList.take k).length ≤ k := List.length_take_le _ _
    have hL0 : (l ++ [39] ++ escape (s.data.toList.take k)).length ≤ 1010000 := by simp only [List.length_append, List.length_cons, List.length_nil]; omega
    obtain ⟨L, hLL⟩ : ∃ L, L = l ++ [39] ++ escape (s.data.toList.take k) := ⟨_, rfl⟩
    rw [← hLL] at ho hL0
    have HLL := toHid hLL
    obtain ⟨a1, c1, hv⟩ := ho.len
    subst hv
    have OW := toHid ho
    clear ho hlen hlt2 hLL
    by_cases hlt : k < s.size
    · by_cases e1 : s[k] = 39
      · have hc : (s[k].toNat : Int) = 39 := by rw [e1]; rfl
        have HE := toHid (show escB s[k] = [92, 39] by rw [e1]; rfl)
        clear e1
        have hc1 : ((s[k].toNat : Int) == 39) = true := by rw [hc]; rfl
        go_wp2_with (at_builtin; refine wpList_append_own _ rfl _ _ 53 rfl B BE i0 (.int .u8 0) 1 1 Tryz.underlying53 hi hz0 hz1 hz2 rfl (by decide) _ _ _ rfl (OW.out.alloc _) ⟨wr.heap.size, 0, none⟩ 2 2 [.int .u8 92, .int .u8 39] rfl rfl (two_new _ _ _ _) (fun x hx => by simp at hx; rcases hx with rfl | rfl <;> rfl) (by unfold maxLen; omega) (by omega) (by simp; omega) ?_)
        intro v2 w2 hown2 hg2 _
        have o2 : Out B w2 v2 (L ++ [92, 39]) := out_of hown2 rfl
        have hb2 : Below B w w2 := hb.trans ((OW.out.alloc _).grown ((Below.refl _ _).alloc hz _) hg2 (by simp; omega))
        have hs2 : wr.heap.size ≤ w2.heap.size := by have := hg2.size; simp at this; omega
        have O2 := toHid o2
        clear o2 hown2 hg2
        go_wp2_with fail
        go_roundg (s.size - (k + 1))
        case measure => omega
        case rel => exact ⟨k + 1, v2, by omega, by omega, by go_num, rfl, by omega, by rw [escape_take s k hlt, HE.out, ← List.append_assoc, ← HLL.out]; exact O2.out, hb2⟩
      · by_cases e2 : s[k] = 92
        · have hc : (s[k].toNat : Int) = 92 := by rw [e2]; rfl
          have HE := toHid (show escB s[k] = [92, 92] by rw [e2]; rfl)
          clear e1 e2
          have hc1 : ((s[k].toNat : Int) == 39) = false := by rw [hc]; rfl
          go_wp2_with (at_builtin; refine wpList_append_own _ rfl _ _ 53 rfl B BE i0 (.int .u8 0) 1 1 Tryz.underlying53 hi hz0 hz1 hz2 rfl (by decide) _ _ _ rfl (OW.out.alloc _) ⟨wr.heap.size, 0, none⟩ 2 2 [.int .u8 92, .int .u8 92] rfl rfl (two_new _ _ _ _) (fun x hx => by simp at hx; rcases hx with rfl | rfl <;> rfl) (by unfold maxLen; omega) (by omega) (by simp; omega) ?_)
          intro v2 w2 hown2 hg2 _
          have o2 : Out B w2 v2 (L ++ [92, 92]) := out_of hown2 rfl
          have hb2 : Below B w w2 := hb.trans ((OW.out.alloc _).grown ((Below.refl _ _).alloc hz _) hg2 (by simp; omega))
          have hs2 : wr.heap.size ≤ w2.heap.size := by have := hg2.size; simp at this; omega
          have O2 := toHid o2
          clear o2 hown2 hg2
          go_wp2_with fail
          go_roundg (s.size - (k + 1))
          case measure => omega
          case rel => exact ⟨k + 1, v2, by omega, by omega, by go_num, rfl, by omega, by rw [escape_take s k hlt, HE.out, ← List.append_assoc, ← HLL.out]; exact O2.out, hb2⟩
        · by_cases e3 : s[k] = 10
          · have hc : (s[k].toNat : Int) = 10 := by rw [e3]; rfl
            have HE := toHid (show escB s[k] = [92, 110] by rw [e3]; rfl)
            clear e1 e2 e3
            have hc1 : ((s[k].toNat : Int) == 39) = false := by rw [hc]; rfl
            go_wp2_with (at_builtin; refine wpList_append_own _ rfl _ _ 53 rfl B BE i0 (.int .u8 0) 1 1 Tryz.underlying53 hi hz0 hz1 hz2 rfl (by decide) _ _ _ rfl (OW.out.alloc _) ⟨wr.heap.size, 0, none⟩ 2 2 [.int .u8 92, .int .u8 110] rfl rfl (two_new _ _ _ _) (fun x hx => by simp at hx; rcases hx with rfl | rfl <;> rfl) (by unfold maxLen; omega) (by omega) (by simp; omega) ?_)
            intro v2 w2 hown2 hg2 _
            have o2 : Out B w2 v2 (L ++ [92, 110]) := out_of hown2 rfl
            have hb2 : Below B w w2 := hb.trans ((OW.out.alloc _).grown ((Below.refl _ _).alloc hz _) hg2 (by simp; omega))
            have hs2 : wr.heap.size ≤ w2.heap.size := by have := hg2.size; simp at this; omega
            have O2 := toHid o2
            clear o2 hown2 hg2
            go_wp2_with fail
            go_roundg (s.size - (k + 1))
            case measure => omega
            case rel => exact ⟨k + 1, v2, by omega, by omega, by go_num, rfl, by omega, by rw [escape_take s k hlt, HE.out, ← List.append_assoc, ← HLL.out]; exact O2.out, hb2⟩
          · have HE := toHid (show escB s[k] = [s[k]] by unfold escB; rw [if_neg e1, if_neg e2, if_neg e3])
            have n1 : ((s[k].toNat : Int) == 39) = false := by simp; intro h; exact e1 (UInt8.toNat_inj.1 (by show _ = 39; omega))
            have n2 : ((s[k].toNat : Int) == 92) = false := by simp; intro h; exact e2 (UInt8.toNat_inj.1 (by show _ = 92; omega))
            have n3 : ((s[k].toNat : Int) == 10) = false := by simp; intro h; exact e3 (UInt8.toNat_inj.1 (by show _ = 10; omega))
            clear e1 e2 e3
            skip
            go_wp2_with (at_builtin; refine wpList_append_own _ rfl _ _ 53 rfl B BE i0 (.int .u8 0) 1 1 Tryz.underlying53 hi hz0 hz1 hz2 rfl (by decide) _ _ _ rfl (OW.out.alloc _) ⟨wr.heap.size, 0, none⟩ 1 1 [.int .u8 (s[k].toNat : Int)] rfl rfl (one_new _ _ _) (fun x hx => by simp at hx; subst hx; rfl) (by unfold maxLen; omega) (by omega) (by simp; omega) ?_)
            intro v2 w2 hown2 hg2 _
            have o2 : Out B w2 v2 (L ++ [s[k]]) := out_of hown2 rfl
            have hb2 : Below B w w2 := hb.trans ((OW.out.alloc _).grown ((Below.refl _ _).alloc hz _) hg2 (by simp; omega))
            have hs2 : wr.heap.size ≤ w2.heap.size := by have := hg2.size; simp at this; omega
            have O2 := toHid o2
            clear o2 hown2 hg2
            go_wp2_with fail
            go_roundg (s.size - (k + 1))
            case measure => omega
            case rel => exact ⟨k + 1, v2, by omega, by omega, by go_num, rfl, by omega, by rw [escape_take s k hlt, HE.out, ← List.append_assoc, ← HLL.out]; exact O2.out, hb2⟩
    · have hkk : k = s.size := by omega
      subst hkk
      go_wp2_with (at_builtin; refine wpList_append_own _ rfl _ _ 53 rfl B BE i0 (.int .u8 0) 1 1 Tryz.underlying53 hi hz0 hz1 hz2 rfl (by decide) _ _ _ rfl (OW.out.alloc _) ⟨wr.heap.size, 0, none⟩ 1 1 [.int .u8 39] rfl rfl (one_new _ _ _) (fun x hx => by simp at hx; subst hx; rfl) (by unfold maxLen; omega) (by omega) (by simp; omega) ?_)
      intro v2 w2 hown2 hg2 _
      have o2 : Out B w2 v2 (L ++ [39]) := out_of hown2 rfl
      have hb2 : Below B w w2 := hb.trans ((OW.out.alloc _).grown ((Below.refl _ _).alloc hz _) hg2 (by simp; omega))
      have O2 := toHid o2
      clear o2 hown2 hg2
      go_wp2_with fail
      go_ret
      refine ⟨v2, rfl, ?_, hb2⟩
      have e : s.data.toList.take s.size = s.data.toList := List.take_of_length_le (by simp)
      have := O2.out
      rw [HLL.out, e] at this
      simpa [List.append_assoc] using this

theorem Pow10.mono {B C : Nat} {w : World} (h : Pow10 B w) (hBC : B ≤ C) : Pow10 C w := fun w' k => h w' (k.mono hBC)

theorem Tabs.mono {B C : Nat} {w : World} (h : Tabs B w) (hBC : B ≤ C) : Tabs C w := fun w' k => h w' (k.mono hBC)

set_option maxHeartbeats 2000000 in
set_option maxRecDepth 100000 in
theorem appendValue_null (B : Nat) (sv : Value) (l : List UInt8) (w : World) (h : Out B w sv l) (hB : B ≤ w.heap.size) (hl : l.length ≤ 4000) :
    Calls Tryz.prog 27 #[sv, .agg #[.int .i64 0, .int .i64 0, .string ⟨#[]⟩, .slice none 0 0]] w fun e w' => ∃ v', e = .returned v' ∧ Out B w' v' (l ++ [110, 117, 108, 108]) ∧ Below B w w' := by
  obtain ⟨i0, hi, hz0, hz1, hz2⟩ := info_byte
  have H := toHid h
  obtain ⟨a0, c0, rfl⟩ := h.len
  clear h
  have hbig : ¬ (4000 : Int) < (l.length : Int) := by omega
  go_enter Tryz.func27, Tryz.ntmps27
  go_wp2_with (at_builtin; refine Lib.wpList_append_own_string _ rfl _ _ 53 9 rfl B BE i0 Tryz.underlying53 Tryz.underlying9 hi hz0 hz1 hz2 _ _ _ rfl (H.out.alloc _) ⟨#[110, 117, 108, 108]⟩ rfl ?c3 ?c4 ?c5 ?_)
  case c3 => unfold maxLen; omega
  case c4 => omega
  case c5 => omega
  intro v1 w1 hown1 hg1 _
  have o1 : Out B w1 v1 (l ++ [110, 117, 108, 108]) := out_of hown1 rfl
  have hb1 : Below B w w1 := (H.out.alloc _).grown ((Below.refl _ _).alloc hB _) hg1 (by simp; omega)
  have O1 := toHid o1
  clear o1 hown1 hg1
  go_wp2_with fail
  go_ret
  exact ⟨v1, rfl, O1.out, hb1⟩

set_option maxHeartbeats 2000000 in
set_option maxRecDepth 100000 in
theorem appendValue_int (B : Nat) (sv : Value) (l : List UInt8) (n : Int) (w : World) (h : Out B w sv l) (hB : B ≤ w.heap.size) (hl : l.length ≤ 4000) (hn0 : -9223372036854775808 ≤ n) (hn1 : n ≤ 9223372036854775807) (hP : Pow10 B w) :
    Calls Tryz.prog 27 #[sv, .agg #[.int .i64 2, .int .i64 n, .string ⟨#[]⟩, .slice none 0 0]] w fun e w' => ∃ v', e = .returned v' ∧ Out B w' v' (l ++ Lib.itoa n) ∧ Below B w w' := by
  have H := toHid h
  obtain ⟨a0, c0, rfl⟩ := h.len
  have hb0 : ∀ o, Below B w (w.alloc o) := fun o => (Below.refl _ _).alloc hB _
  have HP := toHid hP
  clear h hP
  have hbig : ¬ (4000 : Int) < (l.length : Int) := by omega
  go_enter Tryz.func27, Tryz.ntmps27
  go_wp2_with fail
  refine (Tryz.strconv_AppendInt_10 B l.length n hn0 hn1 _ _ _ (H.out.alloc _) (by simp; omega) (by omega) (HP.out.below (hb0 _))).mono ?_
  rintro e w1 ⟨v1, rfl, hown1, hb1, _⟩
  have o1 : Out B w1 v1 (l ++ Lib.itoa n) := out_of hown1 rfl
  have O1 := toHid o1
  clear o1 hown1
  go_wp2_with fail
  go_ret
  exact ⟨v1, rfl, O1.out, (hb0 _).trans hb1⟩

set_option maxHeartbeats 2000000 in
set_option maxRecDepth 100000 in
theorem appendValue_text (B : Nat) (sv : Value) (l : List UInt8) (s : ByteArray) (w : World) (h : Out B w sv l) (hB : B ≤ w.heap.size) (hl : l.length ≤ 4000) (hs : s.size ≤ 4000) :
    Calls Tryz.prog 27 #[sv, .agg #[.int .i64 3, .int .i64 0, .string s, .slice none 0 0]] w fun e w' => ∃ v', e = .returned v' ∧ Out B w' v' (l ++ ([39] ++ escape s.data.toList ++ [39])) ∧ Below B w w' := by
  have H := toHid h
  obtain ⟨a0, c0, rfl⟩ := h.len
  have hb0 : ∀ o, Below B w (w.alloc o) := fun o => (Below.refl _ _).alloc hB _
  clear h
  have hbig : ¬ (4000 : Int) < (l.length : Int) := by omega
  obtain ⟨Q, hQ⟩ : ∃ Q, Q = l ++ ([39] ++ escape s.data.toList ++ [39]) := ⟨_, rfl⟩
  rw [← hQ]
  have HQ := toHid hQ
  clear hQ
  go_enter Tryz.func27, Tryz.ntmps27
  go_wp2_with fail
  refine (appendText_any B _ l s _ (H.out.alloc _) (by simp; omega) (by omega) hs).mono ?_
  rintro e w1 ⟨v1, rfl, o1, hb1⟩
  rw [← HQ.out] at o1
  have O1 := toHid o1
  clear o1
  go_wp2_with fail
  go_ret
  exact ⟨v1, rfl, O1.out, (hb0 _).trans hb1⟩

/-- The first pieces of a list, with commas between. -/
def pieces (ps : Nat → List UInt8) : Nat → List UInt8
  | 0 => []
  | 1 => ps 0
  | k + 2 => pieces ps (k + 1) ++ [44] ++ ps (k + 1)

set_option maxHeartbeats 4000000 in
set_option maxRecDepth 100000 in
theorem appendList_any (B : Nat) (sv : Value) (l : List UInt8) (b off len cap : Nat) (V : Vals) (ps : Nat → List UInt8) (w : World) (h : Out B w sv l) (hB : B ≤ w.heap.size) (hb : b < B) (hat : ListAt w b off len V) (hlen : len ≤ 1000000)
    (hl : ∀ k, k ≤ len → (l ++ [91] ++ pieces ps k).length ≤ 3000)
    (hel : ∀ i, i < len → ∀ W sv L, B ≤ W.heap.size → Below B w W → Out B W sv L → L.length ≤ 4000 → Calls Tryz.prog 27 #[sv, V.at i] W fun e w' => ∃ v', e = .returned v' ∧ Out B w' v' (L ++ ps i) ∧ Below B W w') :
    Calls Tryz.prog 47 #[sv, .slice (some ⟨b, off, none⟩) len cap] w fun e w' => ∃ v', e = .returned v' ∧ Out B w' v' (l ++ [91] ++ pieces ps len ++ [93]) ∧ Below B w w' := by
  obtain ⟨i0, hi, hz0, hz1, hz2⟩ := info_byte
  have H := toHid h
  have HE := toHid hel
  have HL := toHid hl
  have hl0 := hl 0 (Nat.zero_le _)
  have hl00 : l.length ≤ 3000 := by simp at hl0; omega
  have HAT := toHid hat
  obtain ⟨a0, c0, rfl⟩ := h.len
  obtain ⟨Q, hQ⟩ : ∃ Q, Q = l ++ [91] ++ pieces ps len ++ [93] := ⟨_, rfl⟩
  rw [← hQ]
  have HQ := toHid hQ
  clear hQ h hel hl hl0 hat
  go_enter Tryz.func47, Tryz.ntmps47
  go_wp2_with (at_builtin; refine wpList_append_own _ rfl _ _ 53 rfl B BE i0 (.int .u8 0) 1 1 Tryz.underlying53 hi hz0 hz1 hz2 rfl (by decide) _ _ _ rfl (H.out.alloc _) ⟨w.heap.size, 0, none⟩ 1 1 [.int .u8 91] rfl rfl (one_new _ _ _) (fun x hx => by simp at hx; subst hx; rfl) (by unfold maxLen; omega) (by omega) (by simp; omega) ?_)
  intro v1 w1 hown1 hg1 _
  have o1 : Out B w1 v1 (l ++ [91]) := out_of hown1 rfl
  have hb1 : Below B w w1 := (H.out.alloc _).grown ((Below.refl _ _).alloc hB _) hg1 (by simp; omega)
  have O1 := toHid o1
  have hz1' : B ≤ w1.heap.size := by have := hb1.size; omega
  clear o1 hown1 hg1 H
  go_wp2_with fail
  go_loopg [0, 12] len (fun g s0 s12 wr => ∃ (k : Nat) (v : Value), k ≤ len ∧ len - k ≤ g ∧ s12 = .int .i64 k ∧ s0 = v ∧ B ≤ wr.heap.size ∧ Out B wr v (l ++ [91] ++ pieces ps k) ∧ Below B w wr)
  case atStart => exact ⟨0, v1, Nat.zero_le _, by omega, rfl, rfl, hz1', by simpa [pieces] using O1.out, hb1⟩
  case round =>
    clear O1 hb1 hz1'
    obtain ⟨k, v, hk, hg, rfl, rfl, hz, ho, hbw⟩ := hrel
    have hL0 := HL.out k hk
    obtain ⟨L, hLL⟩ : ∃ L, L = l ++ [91] ++ pieces ps k := ⟨_, rfl⟩
    rw [← hLL] at ho hL0
    have HLL := toHid hLL
    obtain ⟨a1, c1, hv⟩ := ho.len
    subst hv
    have OW := toHid ho
    clear ho hLL
    by_cases hlt : k < len
    · obtain ⟨g0, g1, g2, g3⟩ := HAT.out k hlt
      have hbc : ∀ o, wr.cell? ⟨b, o, none⟩ = w.cell? ⟨b, o, none⟩ := fun o => hbw.cell (p := ⟨b, o, none⟩) hb
      have d0 := (hbc _).trans g0
      have d1 := (hbc _).trans g1
      have d2 := (hbc _).trans g2
      have d3 := (hbc _).trans g3
      clear g0 g1 g2 g3 hbc
      by_cases hk0 : k = 0
      · have HK0 := toHid hk0
        have hk1 : ¬ (0 : Int) < (k : Int) := by omega
        clear hk0
        go_wp2_with fail
        refine (HE.out k hlt _ _ L (by simp; omega) (hbw.alloc (by omega) _) (OW.out.alloc _) (by omega)).mono ?_
        rintro e w4 ⟨v4, rfl, o4, hb4⟩
        have O4 := toHid o4
        have hb5 : Below B w w4 := (hbw.alloc (by omega) _).trans hb4
        have hs4 : wr.heap.size ≤ w4.heap.size := by have := hb4.size; simp at this; omega
        clear o4 hb4
        go_wp2_with fail
        go_roundg (len - (k + 1))
        case measure => omega
        case rel =>
          refine ⟨k + 1, v4, by omega, by omega, by go_num, rfl, by omega, ?_, hb5⟩
          have e : L ++ ps k = l ++ [91] ++ pieces ps (k + 1) := by rw [HLL.out, HK0.out]; simp [pieces]
          rw [← e]
          exact O4.out
      · have HK0 := toHid hk0
        have hk1 : (0 : Int) < (k : Int) := by omega
        clear hk0
        go_wp2_with (at_builtin; refine wpList_append_own _ rfl _ _ 53 rfl B BE i0 (.int .u8 0) 1 1 Tryz.underlying53 hi hz0 hz1 hz2 rfl (by decide) _ _ _ rfl ((OW.out.alloc _).alloc _) ⟨wr.heap.size + 1, 0, none⟩ 1 1 [.int .u8 44] rfl rfl ?cn (fun x hx => by simp at hx; subst hx; rfl) (by unfold maxLen; omega) (by omega) (by simp; omega) ?_)
        case cn =>
          have := one_new (wr.alloc (.cells #[.int .i64 (V.k k), .int .i64 (V.n k), .string (V.s k), .slice (V.a k) (V.l k) (V.c k)] 24)) (.int .u8 44) BE
          rw [show (wr.alloc (.cells #[.int .i64 (V.k k), .int .i64 (V.n k), .string (V.s k), .slice (V.a k) (V.l k) (V.c k)] 24)).heap.size = wr.heap.size + 1 from by simp] at this
          exact this
        intro v2 w2 hown2 hg2 _
        have o2 : Out B w2 v2 (L ++ [44]) := out_of hown2 rfl
        have hb2 : Below B w w2 := hbw.trans (((OW.out.alloc _).alloc _).grown (((Below.refl _ _).alloc hz _).alloc (by simp; omega) _) hg2 (by simp; omega))
        have hs2 : wr.heap.size + 1 + 1 ≤ w2.heap.size := by have := hg2.size; simp at this; omega
        have hbx : w2.heap[wr.heap.size]? = some (.cells #[.int .i64 (V.k k), .int .i64 (V.n k), .string (V.s k), .slice (V.a k) (V.l k) (V.c k)] 24 (0, 0)) := by
          rw [hg2.block _ (by simp; omega) (fun e => by
            rcases OW.out.2 with ⟨q0, _⟩ | ⟨q1, q2, q3, q4, q5, q6, _⟩
            · rw [q0] at e; simp [Value.ownBlock] at e
            · rw [q4] at e
              simp [Value.ownBlock] at e
              have := (Array.getElem?_eq_some_iff.1 q6).1
              omega), Below.heap_alloc _ _ _ (by simp)]
          exact alloc_new _ _
        have x0 := cell_of hbx 0
        have x1 := cell_of hbx 1
        have x2 := cell_of hbx 2
        have x3 := cell_of hbx 3
        simp at x0 x1 x2 x3
        have O2 := toHid o2
        clear o2 hown2 hg2 hbx
        go_wp2_with fail
        refine (HE.out k hlt _ _ (L ++ [44]) (by omega) hb2 O2.out (by simp; omega)).mono ?_
        rintro e w4 ⟨v4, rfl, o4, hb4⟩
        have O4 := toHid o4
        have hb5 : Below B w w4 := hb2.trans hb4
        have hs4 : w2.heap.size ≤ w4.heap.size := hb4.size
        clear o4 hb4
        go_wp2_with fail
        go_roundg (len - (k + 1))
        case measure => omega
        case rel =>
          refine ⟨k + 1, v4, by omega, by omega, by go_num, rfl, by omega, ?_, hb5⟩
          have e : L ++ [44] ++ ps k = l ++ [91] ++ pieces ps (k + 1) := by
            obtain ⟨k', hk'⟩ : ∃ k', k = k' + 1 := ⟨k - 1, by have := HK0.out; omega⟩
            rw [HLL.out, hk']
            simp [pieces]
          rw [← e]
          exact O4.out
    · have hkk : k = len := by omega
      subst hkk
      go_wp2_with (at_builtin; refine wpList_append_own _ rfl _ _ 53 rfl B BE i0 (.int .u8 0) 1 1 Tryz.underlying53 hi hz0 hz1 hz2 rfl (by decide) _ _ _ rfl (OW.out.alloc _) ⟨wr.heap.size, 0, none⟩ 1 1 [.int .u8 93] rfl rfl (one_new _ _ _) (fun x hx => by simp at hx; subst hx; rfl) (by unfold maxLen; omega) (by omega) (by simp; omega) ?_)
      intro v2 w2 hown2 hg2 _
      have o2 : Out B w2 v2 (L ++ [93]) := out_of hown2 rfl
      have hb2 : Below B w w2 := hbw.trans ((OW.out.alloc _).grown ((Below.refl _ _).alloc hz _) hg2 (by simp; omega))
      have O2 := toHid o2
      clear o2 hown2 hg2
      go_wp2_with fail
      go_ret
      refine ⟨v2, rfl, ?_, hb2⟩
      rw [HQ.out, ← HLL.out]
      exact O2.out

/-- Of rows of answers the first that isn't 0; else z. -/
def firstNZ (es : Nat → Int) : Nat → Nat → Int → Int
  | _, 0, z => z
  | i, n + 1, z => if es i = 0 then firstNZ es (i + 1) n z else es i

set_option maxHeartbeats 4000000 in
set_option maxRecDepth 100000 in
theorem order_lists (k n : Int) (s : ByteArray) (b off l c b' off' l' c' : Nat) (V V' : Vals) (es : Nat → Int) (z : Int) (w : World) (hb : b < w.heap.size) (hb' : b' < w.heap.size) (hat : ListAt w b off l V) (hat' : ListAt w b' off' l' V') (hl : l ≤ 9223372036854775806) (hl' : l' ≤ 9223372036854775806)
    (hz0 : l = l' → z = 0) (hz1 : l < l' → z = -1) (hz2 : l' < l → z = 1)
    (hel : ∀ i, i < l → i < l' → ∀ w', Below w.heap.size w w' → Calls Tryz.prog 25 #[V.at i, V'.at i] w' fun e w'' => e = .returned (.int .i64 (es i)) ∧ Below w'.heap.size w' w'') :
    Calls Tryz.prog 25 #[.agg #[.int .i64 k, .int .i64 n, .string s, .slice (some ⟨b, off, none⟩) l c], .agg #[.int .i64 k, .int .i64 n, .string s, .slice (some ⟨b', off', none⟩) l' c']] w fun e w' => e = .returned (.int .i64 (firstNZ es 0 (min l l') z)) ∧ Below w.heap.size w w' := by
  have HE := toHid hel
  have HZ0 := toHid hz0
  have HZ1 := toHid hz1
  have HZ2 := toHid hz2
  have HA := toHid hat
  have HA' := toHid hat'
  clear hel hz0 hz1 hz2 hat hat'
  obtain ⟨R, hR⟩ : ∃ R, R = firstNZ es 0 (min l l') z := ⟨_, rfl⟩
  rw [← hR]
  have HR := toHid hR
  clear hR
  go_enter Tryz.func25, Tryz.ntmps25
  go_wp2_with fail
  go_loopg [5] (min l l') (fun g s5 wr => ∃ i : Nat, i ≤ min l l' ∧ min l l' - i ≤ g ∧ s5 = .int .i64 i ∧ Below (w.heap.size + 2) ((w.alloc (.cells #[.int .i64 k, .int .i64 n, .string s, .slice (some ⟨b, off, none⟩) l c] 24)).alloc (.cells #[.int .i64 k, .int .i64 n, .string s, .slice (some ⟨b', off', none⟩) l' c'] 24)) wr ∧ R = firstNZ es i (min l l' - i) z)
  case atStart => exact ⟨0, Nat.zero_le _, by omega, rfl, Below.refl _ _, HR.out⟩
  case round =>
    obtain ⟨i, hi, hg, rfl, hbw, hfe⟩ := hrel
    have HF := toHid hfe
    clear hfe HR
    have hzw : w.heap.size + 2 ≤ wr.heap.size := by have := hbw.size; simpa using this
    have hw0 : Below w.heap.size w wr := (((Below.refl _ _).alloc (Nat.le_refl _) _).alloc (by simp) _).trans (hbw.mono (by omega))
    have x3 : wr.cell? ⟨w.heap.size, 3, none⟩ = some (.slice (some ⟨b, off, none⟩) l c) := by
      rw [hbw.cell (by show w.heap.size < _; omega), cell_past _ _ _ _ (by simp)]
      simp
    have y3 : wr.cell? ⟨w.heap.size + 1, 3, none⟩ = some (.slice (some ⟨b', off', none⟩) l' c') := by
      rw [hbw.cell (by show w.heap.size + 1 < _; omega)]
      exact cell_of (alloc_two w _ _) 3
    by_cases hlt : i < min l l'
    · have h1 : i < l := by omega
      have h2 : i < l' := by omega
      obtain ⟨p0, p1, p2, p3⟩ := HA.out i h1
      obtain ⟨q0, q1, q2, q3⟩ := HA'.out i h2
      have hbc : ∀ o, wr.cell? ⟨b, o, none⟩ = w.cell? ⟨b, o, none⟩ := fun o => hw0.cell (p := ⟨b, o, none⟩) hb
      have hbc' : ∀ o, wr.cell? ⟨b', o, none⟩ = w.cell? ⟨b', o, none⟩ := fun o => hw0.cell (p := ⟨b', o, none⟩) hb'
      have c0 := (hbc _).trans p0
      have c1 := (hbc _).trans p1
      have c2 := (hbc _).trans p2
      have c3 := (hbc _).trans p3
      have d0 := (hbc' _).trans q0
      have d1 := (hbc' _).trans q1
      have d2 := (hbc' _).trans q2
      have d3 := (hbc' _).trans q3
      have i1 : (i : Int) < (l : Int) := by omega
      have i2 : (i : Int) < (l' : Int) := by omega
      clear p0 p1 p2 p3 q0 q1 q2 q3 hbc hbc' hlt
      go_wp2_with fail
      go_region_with (go_at_call 25; refine (HE.out i h1 h2 _ (hw0.drew)).mono ?_; rintro e w2 ⟨rfl, hb2⟩)
      all_goals
        have hb3 : Below wr.heap.size wr w2 := ((Below.refl _ _).drew).trans hb2
        by_cases he : es i = 0
        · have he' : (es i != 0) = false := by simp [he]
          have H2 := toHid he
          clear he hb2
          go_wp2_with fail
          go_roundg (min l l' - (i + 1))
          case measure => omega
          case rel =>
            refine ⟨i + 1, by omega, by omega, by go_num, hbw.trans (hb3.mono (by omega)), ?_⟩
            rw [HF.out, show min l l' - i = (min l l' - (i + 1)) + 1 from by omega, firstNZ, if_pos H2.out]
        · have he' : (es i != 0) = true := by simp [he]
          have H2 := toHid he
          clear he hb2
          go_wp2_with fail
          go_ret
          refine ⟨ret_int ?_, hw0.trans (hb3.mono (by omega))⟩
          rw [HF.out, show min l l' - i = (min l l' - (i + 1)) + 1 from by omega, firstNZ, if_neg H2.out]
    · have hii : i = min l l' := by omega
      have hR : R = z := by rw [HF.out, hii, Nat.sub_self]; rfl
      have HR := toHid hR
      clear HF hR HA HA' HE
      by_cases h1 : l < l'
      · have hz := toHid (HZ1.out h1)
        have e1 : ¬ (i : Int) < (l : Int) := by omega
        have e2 : (l : Int) < (l' : Int) := by omega
        have e3 : decide ((i : Int) < (l : Int)) = false := by simp; omega
        clear HZ0 HZ1 HZ2 hlt hii
        go_wp2_with fail
        go_ret
        exact ⟨ret_int (by rw [HR.out, hz.out]), hw0⟩
      · by_cases h2 : l' < l
        · have hz := toHid (HZ2.out h2)
          have e1 : (i : Int) < (l : Int) := by omega
          have e2 : ¬ (i : Int) < (l' : Int) := by omega
          have e3 : ¬ (l : Int) < (l' : Int) := by omega
          have e4 : (l' : Int) < (l : Int) := by omega
          clear HZ0 HZ1 HZ2 hlt hii
          go_wp2_with fail
          go_ret
          exact ⟨ret_int (by rw [HR.out, hz.out]), hw0⟩
        · have hz := toHid (HZ0.out (by omega))
          have e1 : ¬ (i : Int) < (l : Int) := by omega
          have e3 : ¬ (l : Int) < (l' : Int) := by omega
          have e4 : ¬ (l' : Int) < (l : Int) := by omega
          clear HZ0 HZ1 HZ2 hlt hii
          go_wp2_with fail
          go_ret
          exact ⟨ret_int (by rw [HR.out, hz.out]), hw0⟩

set_option maxHeartbeats 2000000 in
set_option maxRecDepth 100000 in
/-- Where a list has no values. -/
theorem order_empty (k n : Int) (s : ByteArray) (a a' : Option Addr) (l c l' c' : Nat) (z : Int) (w : World) (hl : l ≤ 9223372036854775806) (hl' : l' ≤ 9223372036854775806) (h0 : l = 0 ∨ l' = 0)
    (hz0 : l = l' → z = 0) (hz1 : l < l' → z = -1) (hz2 : l' < l → z = 1) :
    Calls Tryz.prog 25 #[.agg #[.int .i64 k, .int .i64 n, .string s, .slice a l c], .agg #[.int .i64 k, .int .i64 n, .string s, .slice a' l' c']] w fun e w' => e = .returned (.int .i64 z) ∧ Below w.heap.size w w' := by
  have HZ0 := toHid hz0
  have HZ1 := toHid hz1
  have HZ2 := toHid hz2
  clear hz0 hz1 hz2
  go_enter Tryz.func25, Tryz.ntmps25
  go_wp2_with fail
  go_loopg [5] 0 (fun g s5 wr => s5 = .int .i64 0 ∧ wr = (w.alloc (.cells #[.int .i64 k, .int .i64 n, .string s, .slice a l c] 24)).alloc (.cells #[.int .i64 k, .int .i64 n, .string s, .slice a' l' c'] 24))
  case atStart => exact ⟨rfl, rfl⟩
  case round =>
    obtain ⟨rfl, rfl⟩ := hrel
    have hw0 : Below w.heap.size w ((w.alloc (.cells #[.int .i64 k, .int .i64 n, .string s, .slice a l c] 24)).alloc (.cells #[.int .i64 k, .int .i64 n, .string s, .slice a' l' c'] 24)) := ((Below.refl _ _).alloc (Nat.le_refl _) _).alloc (by simp) _
    by_cases h1 : l < l'
    · have hz := toHid (HZ1.out h1)
      have e1 : ¬ (0 : Int) < (l : Int) := by omega
      have e2 : (l : Int) < (l' : Int) := by omega
      clear HZ0 HZ1 HZ2 h0
      go_wp2_with fail
      go_ret
      exact ⟨ret_int (by rw [hz.out]), hw0⟩
    · by_cases h2 : l' < l
      · have hz := toHid (HZ2.out h2)
        have e1 : (0 : Int) < (l : Int) := by omega
        have e2 : ¬ (0 : Int) < (l' : Int) := by omega
        have e3 : ¬ (l : Int) < (l' : Int) := by omega
        have e4 : (l' : Int) < (l : Int) := by omega
        clear HZ0 HZ1 HZ2 h0
        go_wp2_with fail
        go_ret
        exact ⟨ret_int (by rw [hz.out]), hw0⟩
      · have hz := toHid (HZ0.out (by omega))
        have e1 : ¬ (0 : Int) < (l : Int) := by omega
        have e3 : ¬ (l : Int) < (l' : Int) := by omega
        have e4 : ¬ (l' : Int) < (l : Int) := by omega
        clear HZ0 HZ1 HZ2 h0
        go_wp2_with fail
        go_ret
        exact ⟨ret_int (by rw [hz.out]), hw0⟩

set_option maxHeartbeats 1000000 in
theorem same_of (k n : Int) (s : ByteArray) (a : Option Addr) (l c : Nat) (k' n' : Int) (s' : ByteArray) (a' : Option Addr) (l' c' : Nat) (z : Int) (w : World)
    (h : ∀ w', Below w.heap.size w w' → Calls Tryz.prog 25 #[.agg #[.int .i64 k, .int .i64 n, .string s, .slice a l c], .agg #[.int .i64 k', .int .i64 n', .string s', .slice a' l' c']] w' fun e w'' => e = .returned (.int .i64 z) ∧ Below w'.heap.size w' w'') :
    Calls Tryz.prog 8 #[.agg #[.int .i64 k, .int .i64 n, .string s, .slice a l c], .agg #[.int .i64 k', .int .i64 n', .string s', .slice a' l' c']] w fun e w' => e = .returned (.bool (z == 0)) ∧ Below w.heap.size w w' := by
  have HV := toHid h
  clear h
  go_enter Tryz.func8, Tryz.ntmps8
  go_wp2_with fail
  refine (HV.out _ (((Below.refl _ _).alloc (Nat.le_refl _) _).alloc (by simp) _)).mono ?_
  rintro e w' ⟨rfl, hb'⟩
  go_wp2_with fail
  go_ret
  exact ⟨rfl, (((Below.refl _ _).alloc (Nat.le_refl _) _).alloc (by simp) _).trans (hb'.mono (by simp; omega))⟩

set_option maxHeartbeats 2000000 in
set_option maxRecDepth 100000 in
theorem appendValue_list (B : Nat) (sv : Value) (l : List UInt8) (a : Option Addr) (len cap : Nat) (Q : List UInt8) (w : World) (h : Out B w sv l) (hB : B ≤ w.heap.size) (hl : l.length ≤ 4000)
    (hA : ∀ W, B ≤ W.heap.size → Below B w W → Out B W sv l → Calls Tryz.prog 47 #[sv, .slice a len cap] W fun e w' => ∃ v', e = .returned v' ∧ Out B w' v' Q ∧ Below B W w') :
    Calls Tryz.prog 27 #[sv, .agg #[.int .i64 4, .int .i64 0, .string ⟨#[]⟩, .slice a len cap]] w fun e w' => ∃ v', e = .returned v' ∧ Out B w' v' Q ∧ Below B w w' := by
  have H := toHid h
  have HA := toHid hA
  clear hA
  obtain ⟨a0, c0, rfl⟩ := h.len
  have hb0 : ∀ o, Below B w (w.alloc o) := fun o => (Below.refl _ _).alloc hB _
  clear h
  have hbig : ¬ (4000 : Int) < (l.length : Int) := by omega
  go_enter Tryz.func27, Tryz.ntmps27
  go_wp2_with fail
  refine (HA.out _ (by simp; omega) (hb0 _) (H.out.alloc _)).mono ?_
  rintro e w1 ⟨v1, rfl, o1, hb1⟩
  have O1 := toHid o1
  clear o1
  go_wp2_with fail
  go_ret
  exact ⟨v1, rfl, O1.out, (hb0 _).trans hb1⟩

set_option maxHeartbeats 2000000 in
set_option maxRecDepth 100000 in
theorem print_of (k n : Int) (s : ByteArray) (a : Option Addr) (l c : Nat) (Q : List UInt8) (w : World) (hQ : Q.length ≤ 4000) (hQ0 : Q ≠ [])
    (hC : ∀ W, Below w.heap.size w W → Calls Tryz.prog 26 #[.agg #[.int .i64 k, .int .i64 n, .string s, .slice a l c]] W fun e w' => e = .returned (.int .i64 0) ∧ Below W.heap.size W w')
    (hA : ∀ W, Below w.heap.size w W → Calls Tryz.prog 27 #[.slice none 0 0, .agg #[.int .i64 k, .int .i64 n, .string s, .slice a l c]] W fun e w' => ∃ v', e = .returned v' ∧ Out W.heap.size w' v' Q ∧ Below W.heap.size W w') :
    Calls Tryz.prog 9 #[.agg #[.int .i64 k, .int .i64 n, .string s, .slice a l c]] w fun e w' => e = .returned (.tuple #[.string ⟨Q.toArray⟩, .int .i64 0]) ∧ Below w.heap.size w w' := by
  have HC := toHid hC
  have HA := toHid hA
  clear hC hA
  have hb0 : ∀ o, Below w.heap.size w (w.alloc o) := fun o => (Below.refl _ _).alloc (Nat.le_refl _) _
  go_enter Tryz.func9, Tryz.ntmps9
  go_wp2_with fail
  refine (HC.out _ (hb0 _)).mono ?_
  rintro e w1 ⟨rfl, hb1⟩
  have hz1 : w.heap.size + 1 ≤ w1.heap.size := by have := hb1.size; simpa using this
  have hw1 : Below w.heap.size w w1 := (hb0 _).trans (hb1.mono (by simp))
  have x0 : w1.cell? ⟨w.heap.size, 0, none⟩ = some (.int .i64 k) := by rw [hb1.cell (by simp)]; simp
  have x1 : w1.cell? ⟨w.heap.size, 1, none⟩ = some (.int .i64 n) := by rw [hb1.cell (by simp)]; simp
  have x2 : w1.cell? ⟨w.heap.size, 2, none⟩ = some (.string s) := by rw [hb1.cell (by simp)]; simp
  have x3 : w1.cell? ⟨w.heap.size, 3, none⟩ = some (.slice a l c) := by rw [hb1.cell (by simp)]; simp
  clear hb1
  go_wp2_with fail
  refine (HA.out _ hw1).mono ?_
  rintro e w2 ⟨v2, rfl, o2, hb2⟩
  have hw2 : Below w.heap.size w w2 := hw1.trans (hb2.mono (by omega))
  have O2 := toHid o2
  obtain ⟨g, cap, cur, hv, e2, e3, e4, e5, e6, e7⟩ : ∃ g cap cur, v2 = .slice (some ⟨g, 0, none⟩) Q.length cap ∧ w1.heap.size ≤ g ∧ w2.heap[g]? = some (.cells cur BE (0, 0)) ∧ Q.length ≤ cap ∧ cap ≤ maxLen ∧ cur.size = cap * 1 ∧ cur.toList.take (Q.length * 1) = Lib.byteCells Q := by
    rcases o2.2 with ⟨h0, h1⟩ | h1
    · exact absurd (List.length_eq_zero_iff.1 h1) hQ0
    · exact h1
  have hbig : ¬ (4000 : Int) < (Q.length : Int) := by omega
  clear o2
  rw [hv]
  have E3 := toHid e3
  have E7 := toHid e7
  have hcv := run_convert_bytes_back (P := Tryz.prog) w2 53 9 BE ⟨g, 0, none⟩ cap Q Tryz.underlying53 Tryz.underlying5 Tryz.underlying9 (fun j hj => by
    refine World.news_of_block e3 j _ ?_
    have h1 : (cur.toList.take (Q.length * 1))[j]? = some (.int .u8 (Q[j].toNat : Int)) := by
      rw [e7]
      simp [Lib.byteCells, hj]
    rw [List.getElem?_take] at h1
    split at h1
    · exact h1
    · simp at h1)
  clear hv e3 e7
  go_wp2_with fail
  go_ret2
  exact ⟨rfl, hw2⟩

/-- The pieces of the closed fact's values. -/
def closedPiece : Nat → List UInt8
  | 0 => [45, 55]
  | 1 => [39, 105, 116, 92, 39, 115, 39]
  | _ => [110, 117, 108, 108]

theorem closed_piece (B : Nat) (w : World) (hP : Pow10 B w) : ∀ i, i < 3 → ∀ W sv L, B ≤ W.heap.size → Below B w W → Out B W sv L → L.length ≤ 4000 → Calls Tryz.prog 27 #[sv, (valsOf closedItems).at i] W fun e w' => ∃ v', e = .returned v' ∧ Out B w' v' (L ++ closedPiece i) ∧ Below B W w' := by
  intro i hi W sv L hB hb ho hL
  have h3 : i = 0 ∨ i = 1 ∨ i = 2 := by omega
  rcases h3 with rfl | rfl | rfl
  · have := appendValue_int B sv L (-7) W ho hB hL (by decide) (by decide) (hP.below hb)
    rw [show Lib.itoa (-7) = closedPiece 0 by decide +kernel] at this
    exact this
  · have := appendValue_text B sv L ⟨#[105, 116, 39, 115]⟩ W ho hB hL (by decide)
    rw [show [39] ++ escape (⟨#[105, 116, 39, 115]⟩ : ByteArray).data.toList ++ [39] = closedPiece 1 by decide +kernel] at this
    exact this
  · exact appendValue_null B sv L W ho hB hL

/-- Print of the closed fact's list. -/
theorem print_closed (B b cap : Nat) (w : World) (hB : B ≤ w.heap.size) (hT : Tabs B w) (hP : Pow10 B w) (hb : b < w.heap.size) (hat : ListAt w b 0 3 (valsOf closedItems)) :
    Calls Tryz.prog 9 #[.agg #[.int .i64 4, .int .i64 0, .string ⟨#[]⟩, .slice (some ⟨b, 0, none⟩) 3 cap]] w fun e w' => e = .returned (.tuple #[.string closedText, .int .i64 0]) ∧ Below w.heap.size w w' := by
  refine print_of 4 0 ⟨#[]⟩ (some ⟨b, 0, none⟩) 3 cap closedText.data.toList w (by decide) (by decide) (fun W hW => ?_) (fun W hW => ?_)
  · exact check_list b 0 3 cap (valsOf closedItems) W (by omega) (by have := hW.size; omega) (listAt_below hat hb hW) (fun i hi W' kW => closed_check B i hi W' (by have := hW.size; have := kW.size; omega) (hT.below ((hW.mono hB).trans (kW.mono (by have := hW.size; omega)))))
  · have hs := hW.size
    refine appendValue_list W.heap.size (.slice none 0 0) [] (some ⟨b, 0, none⟩) 3 cap closedText.data.toList W (Out.nil _ _) (Nat.le_refl _) (by decide) (fun W' hB' hb' ho' => ?_)
    have hP' : Pow10 W.heap.size W' := (hP.below (hW.mono hB)).mono (by omega) |>.below hb'
    have := appendList_any W.heap.size (.slice none 0 0) [] b 0 3 cap (valsOf closedItems) closedPiece W' ho' hB' (by omega) (listAt_below (listAt_below hat hb hW) (by omega) hb') (by omega) (fun k hk => ?_) (closed_piece W.heap.size W' hP')
    · exact this
    · have h4 : k = 0 ∨ k = 1 ∨ k = 2 ∨ k = 3 := by omega
      rcases h4 with rfl | rfl | rfl | rfl <;> decide

/-- The scalars of the closed fact are in order with themselves. -/
theorem order_closed (i : Nat) (hi : i < 3) (w : World) : Calls Tryz.prog 25 #[(valsOf closedItems).at i, (valsOf closedItems).at i] w fun e w' => e = .returned (.int .i64 0) ∧ Below w.heap.size w w' :=
  order_empty _ _ _ none none 0 0 0 0 0 w (by omega) (by omega) (.inl rfl) (fun _ => rfl) (fun h => absurd h (Nat.lt_irrefl _)) (fun h => absurd h (Nat.lt_irrefl _))

theorem firstNZ_zero (z : Int) : ∀ n i, firstNZ (fun _ => 0) i n z = z := by
  intro n
  induction n with
  | zero => intro i; rfl
  | succ n ih => intro i; rw [firstNZ, if_pos rfl, ih]

theorem same_closed (g cap b cap' : Nat) (w : World) (hg : g < w.heap.size) (hb : b < w.heap.size) (h1 : ListAt w g 0 3 (valsOf closedItems)) (h2 : ListAt w b 0 3 (valsOf closedItems)) :
    Calls Tryz.prog 8 #[.agg #[.int .i64 4, .int .i64 0, .string ⟨#[]⟩, .slice (some ⟨g, 0, none⟩) 3 cap], .agg #[.int .i64 4, .int .i64 0, .string ⟨#[]⟩, .slice (some ⟨b, 0, none⟩) 3 cap']] w fun e w' => e = .returned (.bool true) ∧ Below w.heap.size w w' := by
  have := same_of 4 0 ⟨#[]⟩ (some ⟨g, 0, none⟩) 3 cap 4 0 ⟨#[]⟩ (some ⟨b, 0, none⟩) 3 cap' 0 w (fun w' k => by
    have hs := k.size
    have := order_lists 4 0 ⟨#[]⟩ g 0 3 cap b 0 3 cap' (valsOf closedItems) (valsOf closedItems) (fun _ => 0) 0 w' (by omega) (by omega) (listAt_below h1 hg k) (listAt_below h2 hb k) (by omega) (by omega) (fun _ => rfl) (fun h => absurd h (Nat.lt_irrefl _)) (fun h => absurd h (Nat.lt_irrefl _))
      (fun i hi _ w'' _ => order_closed i hi w'')
    rw [firstNZ_zero] at this
    exact this)
  exact this

/-- The list that the law writes. -/
def closedCells : Array Value := #[.int .i64 2, .int .i64 (-7), .string ⟨#[]⟩, .slice none 0 0, .int .i64 3, .int .i64 0, .string ⟨#[105, 116, 39, 115]⟩, .slice none 0 0, .int .i64 0, .int .i64 0, .string ⟨#[]⟩, .slice none 0 0]

theorem closed_at (w : World) (t : TypeId) : ListAt (w.alloc (.cells closedCells t)) w.heap.size 0 3 (valsOf closedItems) := by
  intro i hi
  have h := fun j => cell_of (alloc_new w (.cells closedCells t)) j
  have h3 : i = 0 ∨ i = 1 ∨ i = 2 := by omega
  rcases h3 with rfl | rfl | rfl
  · exact ⟨h 0, h 1, h 2, h 3⟩
  · exact ⟨h 4, h 5, h 6, h 7⟩
  · exact ⟨h 8, h 9, h 10, h 11⟩

set_option maxHeartbeats 4000000 in
set_option maxRecDepth 100000 in
theorem valued_true (B : Nat) (w : World) (hB : B ≤ w.heap.size) (hT : Tabs B w) (hP : Pow10 B w) :
    Calls Tryz.prog 7 #[] w fun e w' => e = .returned (.bool true) ∧ Below w.heap.size w w' := by
  go_enter Tryz.func7, Tryz.ntmps7
  go_wp2_with fail
  refine (num_any _ _).mono ?_
  rintro e w1 ⟨rfl, b1⟩
  go_wp2_with fail
  refine (str_any _ _).mono ?_
  rintro e w2 ⟨rfl, b2⟩
  have s2 : w.heap.size ≤ w2.heap.size := Nat.le_trans b1.size b2.size
  have b12 : Below w.heap.size w w2 := b1.trans (b2.mono b1.size)
  clear b1 b2
  go_wp2_with fail
  refine (list_any _ _ _ _).mono ?_
  rintro e w3 ⟨rfl, b3⟩
  have l3 : ListAt w3 w2.heap.size 0 3 (valsOf closedItems) := listAt_below (closed_at w2 24) (by simp) b3
  have s3 : w2.heap.size + 1 ≤ w3.heap.size := by have := b3.size; simpa using this
  have b33 : Below w.heap.size w w3 := (b12.alloc s2 _).trans (b3.mono (by simp; omega))
  have L3 := toHid l3
  clear b3 b12 l3
  go_wp2_with fail
  refine (print_closed B w2.heap.size 3 w3 (by omega) (hT.below (b33.mono hB)) (hP.below (b33.mono hB)) (by omega) L3.out).mono ?_
  rintro e w4 ⟨rfl, b4⟩
  have s4 := b4.size
  have b44 : Below w.heap.size w w4 := b33.trans (b4.mono (by omega))
  clear b33 b4 L3
  unfold closedText
  go_wp2_with fail
  have cP := parse_closed B w4 (by omega) (hT.below (b44.mono hB)) (hP.below (b44.mono hB))
  unfold closedText at cP
  refine cP.mono ?_
  rintro e w5 ⟨g, cap, rfl, ho, b5⟩
  have s5 := b5.size
  have b55 : Below w.heap.size w w5 := b44.trans (b5.mono (by omega))
  have hgl := row_lt ho
  have L5 := toHid (items_at (l := closedItems) ho)
  clear b44 b5 ho cP
  go_wp2_with fail
  have hx := alloc_new w5 (.cells #[.int .i64 4, .int .i64 0, .string ⟨#[]⟩, .slice (some ⟨g, 0, none⟩) 3 cap] 24)
  have x0 := cell_of hx 0
  have x1 := cell_of hx 1
  have x2 := cell_of hx 2
  have x3 := cell_of hx 3
  simp only [List.getElem?_toArray, List.getElem?_cons_zero, List.getElem?_cons_succ] at x0 x1 x2 x3
  clear hx
  have b6 : Below w5.heap.size w5 (w5.alloc (.cells #[.int .i64 4, .int .i64 0, .string ⟨#[]⟩, .slice (some ⟨g, 0, none⟩) 3 cap] 24)) := (Below.refl _ _).alloc (Nat.le_refl _) _
  have s6 : (w5.alloc (.cells #[.int .i64 4, .int .i64 0, .string ⟨#[]⟩, .slice (some ⟨g, 0, none⟩) 3 cap] 24)).heap.size = w5.heap.size + 1 := by simp
  have hg5 := hgl.2
  have b56 := b55.trans (b6.mono (by omega))
  generalize w5.alloc (.cells #[.int .i64 4, .int .i64 0, .string ⟨#[]⟩, .slice (some ⟨g, 0, none⟩) 3 cap] 24) = W6 at x0 x1 x2 x3 b6 s6 b56 ⊢
  have L6 := toHid (listAt_below L5.out hg5 b6)
  have s7 : w5.heap.size < W6.heap.size := by omega
  have s8 : g < W6.heap.size := by omega
  have s9 : w.heap.size ≤ W6.heap.size := by omega
  clear b6 s6 hgl hg5 L5 b55 s5 s4 s3 s2 hT hP
  generalize w5.heap.size = m at x0 x1 x2 x3 s7 ⊢
  have D6 : Below W6.heap.size W6 W6.drew := (Below.refl _ _).drew
  go_region_held3 (fun w' => w'.cell? ⟨m, 0, none⟩ = some (.int .i64 4) ∧ w'.cell? ⟨m, 1, none⟩ = some (.int .i64 0) ∧ w'.cell? ⟨m, 2, none⟩ = some (.string ⟨#[]⟩) ∧ w'.cell? ⟨m, 3, none⟩ = some (.slice (some ⟨g, 0, none⟩) 3 cap))
    (first
      | exact S4
      | exact S3
      | exact S25
      | exact S2
      | exact S1
      | exact ⟨x0, x1, x2, x3⟩
      | go_keep)
    (first
      | (go_at_call 22; refine (num_any _ _).mono ?_; rintro e u1 ⟨rfl, h1⟩; have k1 : Below W6.heap.size W6 u1 := D6.trans h1; have S1 : u1.cell? ⟨m, 0, none⟩ = some (.int .i64 4) ∧ u1.cell? ⟨m, 1, none⟩ = some (.int .i64 0) ∧ u1.cell? ⟨m, 2, none⟩ = some (.string ⟨#[]⟩) ∧ u1.cell? ⟨m, 3, none⟩ = some (.slice (some ⟨g, 0, none⟩) 3 cap) := ⟨(k1.cell (p := ⟨m, 0, none⟩) s7).trans x0, (k1.cell (p := ⟨m, 1, none⟩) s7).trans x1, (k1.cell (p := ⟨m, 2, none⟩) s7).trans x2, (k1.cell (p := ⟨m, 3, none⟩) s7).trans x3⟩)
      | (go_at_call 23; refine (str_any _ _).mono ?_; rintro e u2 ⟨rfl, h2⟩; have k2 : Below W6.heap.size W6 u2 := k1.trans (h2.mono k1.size); have S2 : u2.cell? ⟨m, 0, none⟩ = some (.int .i64 4) ∧ u2.cell? ⟨m, 1, none⟩ = some (.int .i64 0) ∧ u2.cell? ⟨m, 2, none⟩ = some (.string ⟨#[]⟩) ∧ u2.cell? ⟨m, 3, none⟩ = some (.slice (some ⟨g, 0, none⟩) 3 cap) := ⟨(k2.cell (p := ⟨m, 0, none⟩) s7).trans x0, (k2.cell (p := ⟨m, 1, none⟩) s7).trans x1, (k2.cell (p := ⟨m, 2, none⟩) s7).trans x2, (k2.cell (p := ⟨m, 3, none⟩) s7).trans x3⟩; have k25 : Below W6.heap.size W6 (u2.alloc (.cells #[.int .i64 2, .int .i64 (-7), .string ⟨#[]⟩, .slice none 0 0, .int .i64 3, .int .i64 0, .string ⟨#[105, 116, 39, 115]⟩, .slice none 0 0, .int .i64 0, .int .i64 0, .string ⟨#[]⟩, .slice none 0 0] 24)) := k2.alloc k2.size _; have S25 : (u2.alloc (.cells #[.int .i64 2, .int .i64 (-7), .string ⟨#[]⟩, .slice none 0 0, .int .i64 3, .int .i64 0, .string ⟨#[105, 116, 39, 115]⟩, .slice none 0 0, .int .i64 0, .int .i64 0, .string ⟨#[]⟩, .slice none 0 0] 24)).cell? ⟨m, 0, none⟩ = some (.int .i64 4) ∧ (u2.alloc (.cells #[.int .i64 2, .int .i64 (-7), .string ⟨#[]⟩, .slice none 0 0, .int .i64 3, .int .i64 0, .string ⟨#[105, 116, 39, 115]⟩, .slice none 0 0, .int .i64 0, .int .i64 0, .string ⟨#[]⟩, .slice none 0 0] 24)).cell? ⟨m, 1, none⟩ = some (.int .i64 0) ∧ (u2.alloc (.cells #[.int .i64 2, .int .i64 (-7), .string ⟨#[]⟩, .slice none 0 0, .int .i64 3, .int .i64 0, .string ⟨#[105, 116, 39, 115]⟩, .slice none 0 0, .int .i64 0, .int .i64 0, .string ⟨#[]⟩, .slice none 0 0] 24)).cell? ⟨m, 2, none⟩ = some (.string ⟨#[]⟩) ∧ (u2.alloc (.cells #[.int .i64 2, .int .i64 (-7), .string ⟨#[]⟩, .slice none 0 0, .int .i64 3, .int .i64 0, .string ⟨#[105, 116, 39, 115]⟩, .slice none 0 0, .int .i64 0, .int .i64 0, .string ⟨#[]⟩, .slice none 0 0] 24)).cell? ⟨m, 3, none⟩ = some (.slice (some ⟨g, 0, none⟩) 3 cap) := ⟨(k25.cell (p := ⟨m, 0, none⟩) s7).trans x0, (k25.cell (p := ⟨m, 1, none⟩) s7).trans x1, (k25.cell (p := ⟨m, 2, none⟩) s7).trans x2, (k25.cell (p := ⟨m, 3, none⟩) s7).trans x3⟩)
      | (go_at_call 21; refine (list_any _ _ _ _).mono ?_; rintro e u3 ⟨rfl, h3⟩; have l3 : ListAt u3 u2.heap.size 0 3 (valsOf closedItems) := listAt_below (closed_at u2 24) (by simp) h3; have k3 : Below W6.heap.size W6 u3 := k25.trans (h3.mono k25.size); have t3 : u2.heap.size < u3.heap.size := (by have := h3.size; simp at this; omega); have S3 : u3.cell? ⟨m, 0, none⟩ = some (.int .i64 4) ∧ u3.cell? ⟨m, 1, none⟩ = some (.int .i64 0) ∧ u3.cell? ⟨m, 2, none⟩ = some (.string ⟨#[]⟩) ∧ u3.cell? ⟨m, 3, none⟩ = some (.slice (some ⟨g, 0, none⟩) 3 cap) := ⟨(k3.cell (p := ⟨m, 0, none⟩) s7).trans x0, (k3.cell (p := ⟨m, 1, none⟩) s7).trans x1, (k3.cell (p := ⟨m, 2, none⟩) s7).trans x2, (k3.cell (p := ⟨m, 3, none⟩) s7).trans x3⟩)
      | (go_at_call 8; refine (same_closed g cap u2.heap.size 3 u3 (by have := k3.size; omega) t3 (listAt_below L6.out s8 k3) l3).mono ?_; rintro e u4 ⟨rfl, h4⟩; have k4 : Below W6.heap.size W6 u4 := k3.trans (h4.mono k3.size); have S4 : u4.cell? ⟨m, 0, none⟩ = some (.int .i64 4) ∧ u4.cell? ⟨m, 1, none⟩ = some (.int .i64 0) ∧ u4.cell? ⟨m, 2, none⟩ = some (.string ⟨#[]⟩) ∧ u4.cell? ⟨m, 3, none⟩ = some (.slice (some ⟨g, 0, none⟩) 3 cap) := ⟨(k4.cell (p := ⟨m, 0, none⟩) s7).trans x0, (k4.cell (p := ⟨m, 1, none⟩) s7).trans x1, (k4.cell (p := ⟨m, 2, none⟩) s7).trans x2, (k4.cell (p := ⟨m, 3, none⟩) s7).trans x3⟩))
  all_goals
    go_wp2_with fail
    go_ret
    exact ⟨rfl, b56.trans (k4.mono s9)⟩
end Go.Proofs.YtekkifljcppmlaaGreatDoor
