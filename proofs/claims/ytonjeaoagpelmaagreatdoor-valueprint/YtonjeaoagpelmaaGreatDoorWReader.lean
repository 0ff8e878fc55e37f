/-
  What is proved here: see the remark of the text Reader (the parts of it that this seat needs).
-/
import Derived.Test.YtonjeaoagpelmaaGreatDoorWBase
import Derived.Test.YtonjeaoagpelmaaGreatDoorShelf
import Derived.Deep.QuietTactic
import Derived.BigQuiet
namespace Go.Proofs.YtonjeaoagpelmaaGreatDoor
open Go.RowKit
set_option linter.unusedVariables false

/-- A reader lies at the block r: its text, and where it stands. -/
def Rd (r : Nat) (text : ByteArray) (p : Nat) (w : World) : Prop := w.heap[r]? = some (.cells #[.string text, .int .i64 p] 91 (0, 0))

theorem Rd.lt {r : Nat} {text : ByteArray} {p : Nat} {w : World} (h : Rd r text p w) : r < w.heap.size := by
  unfold Rd at h
  exact (Array.getElem?_eq_some_iff.1 h).1

theorem Rd.text {r : Nat} {text : ByteArray} {p : Nat} {w : World} (h : Rd r text p w) : w.cell? ⟨r, 0, none⟩ = some (.string text) := by
  unfold Rd at h
  simp [World.cell?, h]

theorem Rd.place {r : Nat} {text : ByteArray} {p : Nat} {w : World} (h : Rd r text p w) : w.cell? ⟨r, 1, none⟩ = some (.int .i64 p) := by
  unfold Rd at h
  simp [World.cell?, h]

theorem Rd.free {r : Nat} {text : ByteArray} {p : Nat} {w : World} (h : Rd r text p w) (o : Nat) : w.frozen? ⟨r, o, none⟩ = false := by
  unfold Rd at h
  simp [World.frozen?, h]

/-- From w to w' the reader at r has come to p; nothing else that was there has changed. -/
structure Moved (r : Nat) (text : ByteArray) (p : Nat) (w w' : World) : Prop where
  os : w'.os = w.os
  tape : w'.tape = w.tape
  output : w'.output = w.output
  size : w.heap.size ≤ w'.heap.size
  block : ∀ k, k < w.heap.size → k ≠ r → w'.heap[k]? = w.heap[k]?
  here : Rd r text p w'

theorem Moved.refl {r : Nat} {text : ByteArray} {p : Nat} {w : World} (h : Rd r text p w) : Moved r text p w w := ⟨rfl, rfl, rfl, Nat.le_refl _, fun _ _ _ => rfl, h⟩

theorem Moved.trans {r : Nat} {text : ByteArray} {p q : Nat} {a b c : World} (h : Moved r text p a b) (k : Moved r text q b c) : Moved r text q a c :=
  ⟨k.os.trans h.os, k.tape.trans h.tape, k.output.trans h.output, Nat.le_trans h.size k.size, fun i hi hr => (k.block i (Nat.lt_of_lt_of_le hi h.size) hr).trans (h.block i hi hr), k.here⟩

/-- What leaves all that was there as it was leaves the reader. -/
theorem Moved.below {r : Nat} {text : ByteArray} {p : Nat} {a b c : World} (h : Moved r text p a b) (k : Below b.heap.size b c) : Moved r text p a c :=
  ⟨k.os.trans h.os, k.tape.trans h.tape, k.output.trans h.output, Nat.le_trans h.size k.size, fun i hi hr => (k.block i (Nat.lt_of_lt_of_le hi h.size)).trans (h.block i hi hr), by
    have := h.here.lt
    unfold Rd
    rw [k.block r this]
    exact h.here⟩

theorem Moved.of_below {r : Nat} {text : ByteArray} {p : Nat} {a c : World} (h : Rd r text p a) (k : Below a.heap.size a c) : Moved r text p a c := (Moved.refl h).below k

/-- The reader's place is written. -/
theorem Rd.step {r : Nat} {text : ByteArray} {p : Nat} {w : World} (h : Rd r text p w) (q : Nat) (v : Value) (hv : v = .int .i64 q) : Moved r text q w (w.setCell ⟨r, 1, none⟩ v) := by
  subst hv
  refine ⟨rfl, rfl, rfl, by simp [World.setCell], fun k _ hk => Below.heap_setCell _ _ _ _ hk, ?_⟩
  unfold Rd at *
  simp [World.setCell, Array.getElem?_modify, h]

theorem Rd.drewN {r : Nat} {text : ByteArray} {p : Nat} {w : World} (h : Rd r text p w) (n : Nat) : Rd r text p (w.drewN n) := h

theorem below_drewN (w : World) (n : Nat) : Below w.heap.size w (w.drewN n) := ⟨rfl, rfl, rfl, Nat.le_refl _, fun _ _ => rfl⟩

/-- Blocks that were there and are not the reader's read as they did. -/
theorem Moved.cell {r : Nat} {text : ByteArray} {p : Nat} {w w' : World} (h : Moved r text p w w') {a : Addr} (ha : a.block < w.heap.size) (hr : a.block ≠ r) : w'.cell? a = w.cell? a := World.cell?_of_block (w := w) (h.block a.block ha hr)

theorem Moved.frozen {r : Nat} {text : ByteArray} {p : Nat} {w w' : World} (h : Moved r text p w w') {a : Addr} (ha : a.block < w.heap.size) (hr : a.block ≠ r) : w'.frozen? a = w.frozen? a := World.frozen?_of_block (w := w) (h.block a.block ha hr)

set_option maxHeartbeats 1000000 in
theorem take_any (r p : Nat) (text word : ByteArray) (w : World) (h : Rd r text p w) (hp : p ≤ text.size) (ht : text.size ≤ 4000) (hw : word.size ≤ 4000) (b : Bool)
    (hb : Lib.hasPrefix (text.extract p text.size).data.toList word.data.toList = b) :
    Calls Tryz.prog 52 #[.pointer (some ⟨r, 0, none⟩), .string word] w fun e w' => e = .returned (.bool b) ∧ Moved r text (if b then p + word.size else p) w w' := by
  have h0 := h.text
  have h1 := h.place
  have h2 := h.free 1
  have HR := toHid h
  have HB : Hid (∀ w, Calls Tryz.prog 71 #[.string (text.extract p text.size), .string word] w fun e w' => e = .returned (.bool b) ∧ w' = w) := fun w => by rw [← hb]; exact Tryz.strings_HasPrefix _ _ _
  clear h hb
  go_enter Tryz.func52, Tryz.ntmps52
  go_wp2_with fail
  go_quiet ((go_at_call 71; exact Calls.quiet_of_same (HB.out _)))
  cases b with
  | false =>
    go_wp2_with fail
    go_ret
    exact ⟨rfl, Moved.of_below HR.out (below_drewN _ _)⟩
  | true =>
    go_wp2_with fail
    go_ret
    exact ⟨rfl, (Moved.of_below HR.out (below_drewN _ _)).trans (Rd.step (HR.out.drewN _) _ _ (by go_num))⟩

end Go.Proofs.YtonjeaoagpelmaaGreatDoor
