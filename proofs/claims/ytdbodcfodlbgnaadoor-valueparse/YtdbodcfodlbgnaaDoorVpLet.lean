/-
  What is proved here: what the reader's method letter answers and does at any place: it reads a letter, or gives up at the place where it stands.
-/
import Derived.Test.YtdbodcfodlbgnaaDoorVpPure
namespace Go.Proofs.YtdbodcfodlbgnaaDoor
open Go.RowKit
set_option linter.unusedVariables false

/-- What a reader gives up with: the place at which something else should stand. -/
def MIS (a : Nat) : List PanicEntry := [{ v := .iface 43 (.agg #[.int .i64 a]), recovered := false }]

/-- From w to w' nothing that was there has changed, but the reader at r. -/
structure Lost (r : Nat) (w w' : World) : Prop where
  os : w'.os = w.os
  tape : w'.tape = w.tape
  output : w'.output = w.output
  size : w.heap.size ≤ w'.heap.size
  block : ∀ k, k < w.heap.size → k ≠ r → w'.heap[k]? = w.heap[k]?

theorem Moved.lost {r : Nat} {text : ByteArray} {p : Nat} {w w' : World} (h : Moved r text p w w') : Lost r w w' := ⟨h.os, h.tape, h.output, h.size, h.block⟩

theorem Lost.trans {r : Nat} {a b c : World} (h : Lost r a b) (k : Lost r b c) : Lost r a c :=
  ⟨k.os.trans h.os, k.tape.trans h.tape, k.output.trans h.output, Nat.le_trans h.size k.size, fun i hi hr => (k.block i (Nat.lt_of_lt_of_le hi h.size) hr).trans (h.block i hi hr)⟩

theorem Lost.of_below {r : Nat} {a c : World} (k : Below a.heap.size a c) : Lost r a c := ⟨k.os, k.tape, k.output, k.size, fun i hi _ => k.block i hi⟩

theorem Lost.cell {r : Nat} {w w' : World} (h : Lost r w w') {a : Addr} (ha : a.block < w.heap.size) (hr : a.block ≠ r) : w'.cell? a = w.cell? a := World.cell?_of_block (w := w) (h.block a.block ha hr)

/-- What was moved to behind a new block, and is lost then. -/
theorem MovedTo.lost {N r : Nat} {text : ByteArray} {p : Nat} {w a b : World} {o : Obj} (h : MovedTo N r text p (w.alloc o) a) (k : Lost r a b) (hN : w.heap.size ≤ N) : Lost r w b :=
  ⟨k.os.trans h.os, k.tape.trans h.tape, k.output.trans h.output, by have := h.size; have := k.size; simp at *; omega, fun i hi hne => ((k.block i (by have := h.size; simp at this; omega) hne).trans (h.block i (by omega) hne)).trans (Below.heap_alloc _ _ _ hi)⟩

/-- From the place p the reader's letter gives up. -/
def LetterBad (text : ByteArray) (p : Nat) : Prop :=
  ∀ (B r : Nat) (w : World), Rd r text p w → B ≤ r → Tabs B w → Calls Tryd.prog 57 #[.pointer (some ⟨r, 0, none⟩)] w fun e w' => e = .panicked (MIS p) ∧ Lost r w w'

set_option maxHeartbeats 2000000 in
theorem letter_none (B r p n : Nat) (c : Nat) (text : ByteArray) (w : World) (h : Rd r text p w) (hp : p ≤ text.size) (ht : text.size ≤ 4000) (hB : B ≤ r) (hT : Tabs B w)
    (h1 : begins text p ⟨#[92, 39]⟩ = false) (h2 : begins text p ⟨#[92, 92]⟩ = false) (h3 : begins text p ⟨#[92, 110]⟩ = false)
    (hd : Lib.decodeGo (text.extract p text.size) = (c, n)) (b1 b2 b3 b4 : Bool) (e1 : ((c : Int) == 92) = b1) (e2 : ((c : Int) == 10) = b2) (e3 : ((c : Int) == 65533) = b3) (e4 : decide ((n : Int) < 2) = b4)
    (hbad : b1 = true ∨ (b1 = false ∧ b2 = true) ∨ (b1 = false ∧ b2 = false ∧ b3 = true ∧ b4 = true)) :
    Calls Tryd.prog 57 #[.pointer (some ⟨r, 0, none⟩)] w fun e w' => e = .panicked (MIS p) ∧ Lost r w w' := by
  have c1 := toHid (fun w (h : Rd r text p w) => take_any r p text ⟨#[92, 39]⟩ w h hp ht (by decide) false h1)
  have c2 := toHid (fun w (h : Rd r text p w) => take_any r p text ⟨#[92, 92]⟩ w h hp ht (by decide) false h2)
  have c3 := toHid (fun w (h : Rd r text p w) => take_any r p text ⟨#[92, 110]⟩ w h hp ht (by decide) false h3)
  have HD := toHid hd
  clear h1 h2 h3 hd
  go_enter Tryd.func57, Tryd.ntmps57
  go_wp2_with fail
  refine (c1.out _ h).mono ?_
  rintro e w1 ⟨rfl, m1⟩
  go_wp2_with fail
  refine (c2.out _ m1.here).mono ?_
  rintro e w2 ⟨rfl, m2⟩
  go_wp2_with fail
  refine (c3.out _ m2.here).mono ?_
  rintro e w3 ⟨rfl, m3⟩
  have M := (m1.trans m2).trans m3
  have hT3 : Tabs B w3 := hT.moved M hB (by have := h.lt; omega)
  have q0 := M.here.text
  have q1 := M.here.place
  have q2 := M.here.free 1
  clear c1 c2 c3
  have cD : Hid (∀ W, Lib.Utf8Tabs 0 1 W → Calls Tryd.prog 45 #[.string (text.extract p text.size)] W fun e w' => e = .returned (.tuple #[.int .i32 c, .int .i64 n]) ∧ Below W.heap.size W w') := fun W hW => by
    have := Tryd.utf8_DecodeRuneInString (text.extract p text.size) W hW
    rw [HD.out] at this
    exact this
  clear HD
  rcases hbad with rfl | ⟨rfl, rfl⟩ | ⟨rfl, rfl, rfl, rfl⟩
  all_goals
    go_wp2_with fail
    go_region_with (go_at_call 45; refine (cD.out _ (hT3 _ (Below.refl _ _).drew)).mono ?_; rintro e w4 ⟨rfl, hb4⟩)
    all_goals
      have hb4' : Below w3.heap.size w3 w4 := ((Below.refl _ _).drew).trans hb4
      have M4 := M.below hb4'
      have q0 := M4.here.text
      have q1 := M4.here.place
      have q2 := M4.here.free 1
      have ML := M4.lost
      go_wp2_with fail
      exact ⟨rfl, rfl, ML⟩

/-- A letter is read, or the reader gives up. -/
theorem let_ok {text : ByteArray} {p : Nat} (hp : p ≤ text.size) (ht : text.size ≤ 4000) {s : ByteArray} {q : Nat} (hl : letP text p = some (s, q)) : LetterOk text p s q := by
  intro B r w h hB hT
  have hle := letP_le hp hl
  unfold letP at hl
  split at hl
  · rename_i h1
    injection hl with hl; injection hl with e1 e2
    subst e1 e2
    exact letter_quote r p text w h hp ht h1
  rename_i h1
  have h1 : begins text p ⟨#[92, 39]⟩ = false := by simpa using h1
  split at hl
  · rename_i h2
    injection hl with hl; injection hl with e1 e2
    subst e1 e2
    exact letter_back r p text w h hp ht h1 h2
  rename_i h2
  have h2 : begins text p ⟨#[92, 92]⟩ = false := by simpa using h2
  split at hl
  · rename_i h3
    injection hl with hl; injection hl with e1 e2
    subst e1 e2
    exact letter_feed r p text w h hp ht h1 h2 h3
  rename_i h3
  have h3 : begins text p ⟨#[92, 110]⟩ = false := by simpa using h3
  split at hl
  · cases hl
  rename_i hn
  injection hl with hl; injection hl with e1 e2
  subst e1 e2
  obtain ⟨c, n, hd⟩ : ∃ c n, Lib.decodeGo (text.extract p text.size) = (c, n) := ⟨_, _, rfl⟩
  rw [hd] at hn hle ⊢
  simp only at hn hle ⊢
  by_cases hc : c = 65533
  · exact letter_sign B r p n c text w h hp ht hB hT h1 h2 h3 hd (fun e => hn (.inl e)) (fun e => hn (.inr (.inl e))) hc (by
      have : ¬ n < 2 := fun h => hn (.inr (.inr ⟨hc, h⟩))
      omega) hle.2.1
  · exact letter_plain B r p n c text w h hp ht hB hT h1 h2 h3 hd (fun e => hn (.inl e)) (fun e => hn (.inr (.inl e))) hc hle.2.1

theorem let_bad {text : ByteArray} {p : Nat} (hp : p ≤ text.size) (ht : text.size ≤ 4000) (hl : letP text p = none) : LetterBad text p := by
  intro B r w h hB hT
  unfold letP at hl
  split at hl
  · cases hl
  rename_i h1
  split at hl
  · cases hl
  rename_i h2
  split at hl
  · cases hl
  rename_i h3
  split at hl
  rotate_left
  · cases hl
  rename_i hn
  obtain ⟨c, n, hd⟩ : ∃ c n, Lib.decodeGo (text.extract p text.size) = (c, n) := ⟨_, _, rfl⟩
  rw [hd] at hn
  simp only at hn
  refine letter_none B r p n c text w h hp ht hB hT (by simpa using h1) (by simpa using h2) (by simpa using h3) hd _ _ _ _ rfl rfl rfl rfl ?_
  by_cases k1 : c = 92
  · exact .inl (by simp; omega)
  by_cases k2 : c = 10
  · exact .inr (.inl ⟨by simp; omega, by simp; omega⟩)
  obtain ⟨k3, k4⟩ : c = 65533 ∧ n < 2 := by
    rcases hn with h | h | h
    · exact absurd h k1
    · exact absurd h k2
    · exact h
  exact .inr (.inr ⟨by simp; omega, by simp; omega, by simp; omega, by simp; omega⟩)
end Go.Proofs.YtdbodcfodlbgnaaDoor
