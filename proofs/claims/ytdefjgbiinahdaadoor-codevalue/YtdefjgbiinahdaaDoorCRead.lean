/-
  What is proved here: the reader's methods cut and number: what they answer and where they stand behind it.
-/
import Derived.Test.YtdefjgbiinahdaaDoorCFrame
namespace Go.Proofs.YtdefjgbiinahdaaDoor
open Go.RowKit
set_option linter.unusedVariables false

/-- The reader's type. -/
abbrev RT : TypeId := 71

/-- The reader stands at a place of the text, or it is torn. -/
def RdS (r tb : Nat) (text : List UInt8) (st : Option Nat) (w : World) : Prop :=
  RowB w tb 0 text ∧ tb < r ∧ r < w.heap.size ∧ match st with
    | some p => p ≤ text.length ∧ ∃ off c, w.heap[r]? = some (.cells #[.slice (some ⟨tb, off, none⟩) (text.length - p) c, .bool false] RT (0, 0)) ∧ text.length - p ≤ c ∧ c ≤ maxLen ∧ (p < text.length → off = p)
    | none => ∃ x, w.heap[r]? = some (.cells #[x, .bool true] RT (0, 0))

/-- Nothing that was there has changed but the reader. -/
structure Mv (r : Nat) (w w' : World) : Prop where
  os : w'.os = w.os
  tape : w'.tape = w.tape
  output : w'.output = w.output
  size : w.heap.size ≤ w'.heap.size
  block : ∀ k, k < w.heap.size → k ≠ r → w'.heap[k]? = w.heap[k]?

/-- The first bytes are cut off. -/
def cutP (text : List UInt8) (st : Option Nat) (n : Nat) : List UInt8 × Option Nat :=
  match st with
  | some p => if p + n ≤ text.length then ((text.drop p).take n, some (p + n)) else ([], none)
  | none => ([], none)

set_option maxHeartbeats 1000000 in
set_option maxRecDepth 100000 in
theorem cut_was (r n : Nat) (x : Value) (w : World) (h : w.heap[r]? = some (.cells #[x, .bool true] RT (0, 0))) :
    Calls Tryd.prog 48 #[.pointer (some ⟨r, 0, none⟩), .int .i64 n] w fun e w' => e = .returned (.slice none 0 0) ∧ w' = w.setCell ⟨r, 1, none⟩ (.bool true) := by
  have x1 := cell_of h 1
  have f1 := free_of h 1
  simp at x1
  clear h
  go_enter Tryd.func48, Tryd.ntmps48
  go_wp2_with fail
  go_ret
  exact ⟨rfl, rfl⟩

set_option maxHeartbeats 1000000 in
set_option maxRecDepth 100000 in
theorem cut_over (r n : Nat) (a : Option Addr) (l c : Nat) (w : World) (h : w.heap[r]? = some (.cells #[.slice a l c, .bool false] RT (0, 0))) (hn : l < n) (hl : l ≤ 9223372036854775807) (hn2 : n ≤ 9223372036854775807) :
    Calls Tryd.prog 48 #[.pointer (some ⟨r, 0, none⟩), .int .i64 n] w fun e w' => e = .returned (.slice none 0 0) ∧ w' = w.setCell ⟨r, 1, none⟩ (.bool true) := by
  have x0 := cell_of h 0
  have x1 := cell_of h 1
  have f1 := free_of h 1
  simp at x0 x1
  have hn' : (l : Int) < (n : Int) := by omega
  clear h
  go_enter Tryd.func48, Tryd.ntmps48
  go_wp2_with fail
  go_ret
  exact ⟨rfl, rfl⟩

set_option maxHeartbeats 1000000 in
set_option maxRecDepth 100000 in
theorem cut_fits (r n tb off : Nat) (l c : Nat) (w : World) (h : w.heap[r]? = some (.cells #[.slice (some ⟨tb, off, none⟩) l c, .bool false] RT (0, 0))) (hn : n ≤ l) (hl : l ≤ c) (hc : c ≤ 9223372036854775807) :
    Calls Tryd.prog 48 #[.pointer (some ⟨r, 0, none⟩), .int .i64 n] w fun e w' => e = .returned (.slice (some ⟨tb, off, none⟩) n n) ∧ ∃ off', (n < l → off' = off + n) ∧ w' = w.setCell ⟨r, 0, none⟩ (.slice (some ⟨tb, off', none⟩) (l - n) (c - n)) := by
  have x0 := cell_of h 0
  have x1 := cell_of h 1
  have f0 := free_of h 0
  have f1 := free_of h 1
  simp at x0 x1
  have hn' : ¬ (l : Int) < (n : Int) := by omega
  clear h
  go_enter Tryd.func48, Tryd.ntmps48
  go_wp2_with fail
  · go_ret
    exact ⟨rfl, off, fun h => by omega, by first | rfl | rw [show n - n = 0 from by omega]⟩
  · go_ret
    exact ⟨rfl, off + n, fun _ => rfl, rfl⟩

theorem set_two0 {w : World} {r : Nat} {x y : Value} {T : TypeId} (h : w.heap[r]? = some (.cells #[x, y] T (0, 0))) (v : Value) : (w.setCell ⟨r, 0, none⟩ v).heap[r]? = some (.cells #[v, y] T (0, 0)) := by
  simp [World.setCell, Array.getElem?_modify, h]

theorem set_two1 {w : World} {r : Nat} {x y : Value} {T : TypeId} (h : w.heap[r]? = some (.cells #[x, y] T (0, 0))) (v : Value) : (w.setCell ⟨r, 1, none⟩ v).heap[r]? = some (.cells #[x, v] T (0, 0)) := by
  simp [World.setCell, Array.getElem?_modify, h]

theorem Mv.refl (r : Nat) (w : World) : Mv r w w := ⟨rfl, rfl, rfl, Nat.le_refl _, fun _ _ _ => rfl⟩

theorem Mv.trans {r : Nat} {a b c : World} (h : Mv r a b) (k : Mv r b c) : Mv r a c :=
  ⟨k.os.trans h.os, k.tape.trans h.tape, k.output.trans h.output, Nat.le_trans h.size k.size, fun i hi hn => (k.block i (Nat.lt_of_lt_of_le hi h.size) hn).trans (h.block i hi hn)⟩

theorem Mv.set {r : Nat} (w : World) (o : Nat) (v : Value) : Mv r w (w.setCell ⟨r, o, none⟩ v) :=
  ⟨rfl, rfl, rfl, by simp [World.setCell], fun i _ hn => by simp [World.setCell, Array.getElem?_modify, Ne.symm hn]⟩

theorem Mv.below {r : Nat} {w w' : World} (k : Below w.heap.size w w') : Mv r w w' :=
  ⟨k.os, k.tape, k.output, k.size, fun i hi _ => k.block i hi⟩

theorem RowB.mv {r b off : Nat} {l : List UInt8} {w w' : World} (h : RowB w b off l) (k : Mv r w w') (hb : b < w.heap.size) (hr : b ≠ r) : RowB w' b off l := h.kept (k.block b hb hr)

/-- Bytes of the text that were cut off. -/
def Piece (tb : Nat) (a : Option Addr) (l : List UInt8) (w : World) : Prop := l = [] ∨ ∃ off, a = some ⟨tb, off, none⟩ ∧ RowB w tb off l

theorem rowB_part {w : World} {b off : Nat} {l : List UInt8} (h : RowB w b off l) (p n : Nat) : RowB w b (off + p) ((l.drop p).take n) := fun i hi => by
  have hi' : p + i < l.length := by simp at hi; omega
  have := h (p + i) hi'
  rw [show off + p + i = off + (p + i) from by omega, this]
  simp

theorem cut_any (r tb n : Nat) (text : List UInt8) (st : Option Nat) (w : World) (h : RdS r tb text st w) (hn : n ≤ 9223372036854775807) :
    Calls Tryd.prog 48 #[.pointer (some ⟨r, 0, none⟩), .int .i64 n] w fun e w' => ∃ a, e = .returned (.slice a (cutP text st n).1.length (cutP text st n).1.length) ∧ Piece tb a (cutP text st n).1 w' ∧ RdS r tb text (cutP text st n).2 w' ∧ Mv r w w' := by
  have hm : maxLen ≤ 9223372036854775807 := by unfold maxLen; decide
  obtain ⟨hrow, htb, hr, hst⟩ := h
  cases st with
  | none =>
    obtain ⟨x, hx⟩ := hst
    refine (cut_was r n x w hx).mono ?_
    rintro e w' ⟨rfl, rfl⟩
    refine ⟨none, rfl, .inl rfl, ⟨hrow.mv (Mv.set w 1 _) (by omega) (by omega), htb, by simpa [World.setCell] using hr, x, set_two1 hx _⟩, Mv.set w 1 _⟩
  | some p =>
    obtain ⟨hp, off, c, hx, hlc, hc, hoff⟩ := hst
    by_cases hfit : p + n ≤ text.length
    · have e1 : cutP text (some p) n = ((text.drop p).take n, some (p + n)) := by simp [cutP, hfit]
      have e2 : ((text.drop p).take n).length = n := by simp; omega
      rw [e1]
      refine (cut_fits r n tb off (text.length - p) c w hx (by omega) hlc (by omega)).mono ?_
      rintro e w' ⟨rfl, off', ho, rfl⟩
      have hrow' := hrow.mv (Mv.set (r := r) w 0 (.slice (some ⟨tb, off', none⟩) (text.length - p - n) (c - n))) (by omega) (by omega)
      refine ⟨some ⟨tb, off, none⟩, by rw [e2], ?_, ⟨hrow', htb, by simpa [World.setCell] using hr, by omega, off', c - n, ?_, by omega, by omega, fun h => ?_⟩, Mv.set w 0 _⟩
      · by_cases hn0 : n = 0
        · subst hn0; exact .inl (by simp)
        · refine .inr ⟨off, rfl, ?_⟩
          have := rowB_part hrow' p n
          rw [hoff (by omega)]
          rw [Nat.zero_add] at this
          exact this
      · rw [set_two0 hx, show text.length - (p + n) = text.length - p - n from by omega]
      · rw [ho (by omega), hoff (by omega)]
    · have e1 : cutP text (some p) n = ([], none) := by simp [cutP, hfit]
      rw [e1]
      refine (cut_over r n (some ⟨tb, off, none⟩) (text.length - p) c w hx (by omega) (by omega) hn).mono ?_
      rintro e w' ⟨rfl, rfl⟩
      exact ⟨none, rfl, .inl rfl, ⟨hrow.mv (Mv.set w 1 _) (by omega) (by omega), htb, by simpa [World.setCell] using hr, _, set_two1 hx _⟩, Mv.set w 1 _⟩
end Go.Proofs.YtdefjgbiinahdaaDoor
