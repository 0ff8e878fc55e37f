/-
  What is proved here: the reader's method frame: what it answers and where it stands behind it.
-/
import Derived.Test.YtdefjgbiinahdabDoorCRead2
namespace Go.Proofs.YtdefjgbiinahdabDoor
open Go.RowKit
set_option linter.unusedVariables false

theorem sum_piece (tb : Nat) (a : Option Addr) (H : List UInt8) (c : Nat) (w : World) (h : Piece tb a H w) (hl : H.length ≤ 9223372036854775807) :
    Calls Tryd.prog 20 #[.slice a H.length c] w fun e w' => e = .returned (.int .u32 (crcOf H)) ∧ w' = w := by
  rcases h with rfl | ⟨off, rfl, hr⟩
  · have e : crcOf [] = 0 := by decide +kernel
    rw [e]
    exact sum_nil a c w
  · exact sum_any tb off H c w hr hl

/-- The reader is torn if that is so. -/
def tornP (st : Option Nat) (b : Bool) : Option Nat := if b then none else st

theorem RdS.tear {r tb : Nat} {text : List UInt8} {st : Option Nat} {w : World} (h : RdS r tb text st w) : RdS r tb text none (w.setCell ⟨r, 1, none⟩ (.bool true)) := by
  obtain ⟨hrow, htb, hr, hst⟩ := h
  refine ⟨hrow.mv (Mv.set w 1 _) (by omega) (by omega), htb, by simpa [World.setCell] using hr, ?_⟩
  cases st with
  | none => obtain ⟨x, hx⟩ := hst; exact ⟨x, set_two1 hx _⟩
  | some p => obtain ⟨_, off, c, hx, _⟩ := hst; exact ⟨_, set_two1 hx _⟩

theorem RdS.keep {r tb : Nat} {text : List UInt8} {p : Nat} {w : World} (h : RdS r tb text (some p) w) : RdS r tb text (some p) (w.setCell ⟨r, 1, none⟩ (.bool false)) := by
  obtain ⟨hrow, htb, hr, hp, off, c, hx, h1, h2, h3⟩ := h
  exact ⟨hrow.mv (Mv.set w 1 _) (by omega) (by omega), htb, by simpa [World.setCell] using hr, hp, off, c, set_two1 hx _, h1, h2, h3⟩

theorem RdS.flag {r tb : Nat} {text : List UInt8} {st : Option Nat} {w : World} (h : RdS r tb text st w) : w.cell? ⟨r, 1, none⟩ = some (.bool st.isNone) ∧ w.frozen? ⟨r, 1, none⟩ = false := by
  obtain ⟨hrow, htb, hr, hst⟩ := h
  cases st with
  | none => obtain ⟨x, hx⟩ := hst; exact ⟨by have := cell_of hx 1; simpa using this, free_of hx 1⟩
  | some p => obtain ⟨_, off, c, hx, _⟩ := hst; exact ⟨by have := cell_of hx 1; simpa using this, free_of hx 1⟩

def sizeP (text : List UInt8) (st : Option Nat) : Nat := ofHi (cutP text st 4).1
def wantP (text : List UInt8) (st : Option Nat) : Nat := ofHi (cutP text (cutP text st 4).2 4).1

/-- A frame is taken off: what it holds, and where the reader stands. -/
def frameP (text : List UInt8) (st : Option Nat) : List UInt8 × Option Nat :=
  let s2 := (cutP text (cutP text st 4).2 4).2
  let s3 := if sizeP text st = 0 ∨ 8000 < sizeP text st then none else s2
  let c := cutP text s3 (sizeP text st)
  (c.1, if crcOf c.1 = wantP text st then c.2 else none)

theorem cutP_len (text : List UInt8) (st : Option Nat) (n : Nat) : (cutP text st n).1.length ≤ n := by
  unfold cutP
  split
  · split
    · simp; omega
    · simp
  · simp

theorem ofHi_cut (text : List UInt8) (st : Option Nat) : ofHi (cutP text st 4).1 < 4294967296 := by
  have h := ofHi_lt (cutP text st 4).1 _ (Nat.le_refl _)
  rw [List.take_length] at h
  have h2 : 256 ^ (cutP text st 4).1.length ≤ 256 ^ 4 := Nat.pow_le_pow_right (by decide) (cutP_len text st 4)
  have h3 : (256 : Nat) ^ 4 = 4294967296 := by decide
  omega

theorem cutP_none (text : List UInt8) (n : Nat) : cutP text none n = ([], none) := rfl

theorem bad_cases {s2 : Option Nat} {size : Nat} (h : s2.isNone = true ∨ size = 0 ∨ 8000 < size) : (s2.isNone = true) ∨ (s2.isNone = false ∧ size = 0) ∨ (s2.isNone = false ∧ ¬ size = 0 ∧ 8000 < size) := by
  cases hs2 : s2.isNone
  · rw [hs2] at h
    by_cases h0 : size = 0
    · exact .inr (.inl ⟨rfl, h0⟩)
    · refine .inr (.inr ⟨rfl, h0, ?_⟩)
      rcases h with h | h | h
      · cases h
      · exact absurd h h0
      · exact h
  · exact .inl rfl
end Go.Proofs.YtdefjgbiinahdabDoor
