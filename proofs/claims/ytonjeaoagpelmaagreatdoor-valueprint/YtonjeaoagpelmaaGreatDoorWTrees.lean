/-
  What is proved here: see the remark of the text Trees (the parts of it that this seat needs).
-/
import Derived.Test.YtonjeaoagpelmaaGreatDoorWBoth
namespace Go.Proofs.YtonjeaoagpelmaaGreatDoor
open Go.RowKit
set_option linter.unusedVariables false

/-- A value: its kind, number, text and list. -/
inductive T where
  | node (k n : Int) (s : ByteArray) (L : List T)

mutual
/-- How many values and lists there are. -/
def wtT : T → Nat
  | .node _ _ _ L => wtL L + 1
def wtL : List T → Nat
  | [] => 1
  | t :: ts => wtT t + wtL ts
end

mutual
/-- A value lies at four cells. -/
def LiesT (w : World) : T → Nat → Nat → Prop
  | .node k n s L, b, off => s.size ≤ 9223372036854775807 ∧ ∃ a l c, w.cell? ⟨b, off, none⟩ = some (.int .i64 k) ∧ w.cell? ⟨b, off + 1, none⟩ = some (.int .i64 n) ∧ w.cell? ⟨b, off + 1 + 1, none⟩ = some (.string s) ∧ w.cell? ⟨b, off + 1 + 1 + 1, none⟩ = some (.slice a l c) ∧ l ≤ c ∧ LiesS w L a l
/-- A list lies where a slice says. -/
def LiesS (w : World) : List T → Option Addr → Nat → Prop
  | [], _, l => l = 0
  | t :: ts, a, l => ∃ b off, a = some ⟨b, off, none⟩ ∧ l = ts.length + 1 ∧ l ≤ 9223372036854775807 ∧ b < w.heap.size ∧ LiesT w t b off ∧ LiesS w ts (some ⟨b, off + 4, none⟩) ts.length
end

theorem LiesS.length {w : World} {L : List T} {a : Option Addr} {l : Nat} (h : LiesS w L a l) : l = L.length ∧ l ≤ 9223372036854775807 := by
  cases L with
  | nil => unfold LiesS at h; subst h; exact ⟨rfl, by omega⟩
  | cons t ts => unfold LiesS at h; obtain ⟨b, off, _, h1, h2, _⟩ := h; exact ⟨by simpa using h1, h2⟩

mutual
theorem LiesT.below {w w' : World} (k : Below w.heap.size w w') : ∀ (t : T) (b off : Nat), b < w.heap.size → LiesT w t b off → LiesT w' t b off
  | .node kk n s L, b, off, hb, h => by
    unfold LiesT at h ⊢
    obtain ⟨hs, a, l, c, h0, h1, h2, h3, hlc, hL⟩ := h
    exact ⟨hs, a, l, c, (k.cell hb).trans h0, (k.cell hb).trans h1, (k.cell hb).trans h2, (k.cell hb).trans h3, hlc, LiesS.below k L a l hL⟩
theorem LiesS.below {w w' : World} (k : Below w.heap.size w w') : ∀ (L : List T) (a : Option Addr) (l : Nat), LiesS w L a l → LiesS w' L a l
  | [], _, _, h => by unfold LiesS at h ⊢; exact h
  | t :: ts, a, l, h => by
    unfold LiesS at h ⊢
    obtain ⟨b, off, h1, h2, h3, h4, h5, h6⟩ := h
    exact ⟨b, off, h1, h2, h3, Nat.lt_of_lt_of_le h4 k.size, LiesT.below k t b off h4 h5, LiesS.below k ts _ _ h6⟩
end

theorem wtL_pos (L : List T) : 1 ≤ wtL L := by
  induction L with
  | nil => unfold wtL; exact Nat.le_refl _
  | cons t ts ih => unfold wtL; omega

end Go.Proofs.YtonjeaoagpelmaaGreatDoor
