/-
  What is proved here: a number in memory stays where what lies there is kept; NewInt's answer in a form that hangs on no order.
-/
import Derived.Test.YtekkifljcppmlaaGreatDoorBgInv
namespace Go.Proofs.YtekkifljcppmlaaGreatDoor
open Go.RowKit
set_option linter.unusedVariables false

theorem IntAt.lt {w : World} {ib : Nat} {z : Int} (h : IntAt w ib z) : ib < w.heap.size := by
  obtain ⟨_, _, _, _, _, hb, _⟩ := h
  exact (Array.getElem?_eq_some_iff.1 hb).1

theorem IntAt.below {w w' : World} {ib : Nat} {z : Int} (k : Below w.heap.size w w') (h : IntAt w ib z) : IntAt w' ib z := by
  have hlt := h.lt
  obtain ⟨neg, a, l, c, ws, hb, hw, h1, h2, h3, ht, hzv, hn⟩ := h
  exact ⟨neg, a, l, c, ws, (k.block ib hlt).trans hb, hw.below k, h1, h2, h3, ht, hzv, hn⟩

theorem newInt_some (x : Int) (w : World) (hx : -9223372036854775808 ≤ x ∧ x ≤ 9223372036854775807) :
    Calls Tryz.prog 15 #[.int .i64 x] w fun e w' => ∃ p, e = .returned (.pointer (some ⟨p, 0, none⟩)) ∧ w.heap.size ≤ p ∧ IntAt w' p x ∧ Below w.heap.size w w' :=
  (newInt_any x w hx).mono fun e w' h => ⟨_, h.1, Nat.le_refl _, h.2.1, h.2.2⟩
end Go.Proofs.YtekkifljcppmlaaGreatDoor
