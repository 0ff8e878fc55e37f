/-
  What is proved here: what a block holds behind stores into it, one cell behind the other.
-/
import Derived.Test.YtakpifphpojbjaaGreatDoorHData
namespace Go.Proofs.YtakpifphpojbjaaGreatDoor
open Go.RowKit
set_option linter.unusedVariables false

/-- Cells of a block from one on are written. -/
def putL (w : World) (b : Nat) : Nat → List Value → World
  | _, [] => w
  | o, v :: vs => putL (w.setCell ⟨b, o, none⟩ v) b (o + 1) vs

theorem putL_size (b : Nat) : ∀ (vs : List Value) (o : Nat) (w : World), (putL w b o vs).heap.size = w.heap.size
  | [], _, _ => rfl
  | v :: vs, o, w => by
    show (putL (w.setCell ⟨b, o, none⟩ v) b (o + 1) vs).heap.size = _
    rw [putL_size b vs]
    simp [World.setCell]

theorem putL_other (b : Nat) : ∀ (vs : List Value) (o : Nat) (w : World) (i : Nat), i ≠ b → (putL w b o vs).heap[i]? = w.heap[i]?
  | [], _, _, _, _ => rfl
  | v :: vs, o, w, i, h => by
    show (putL (w.setCell ⟨b, o, none⟩ v) b (o + 1) vs).heap[i]? = _
    rw [putL_other b vs _ _ i h]
    exact Below.heap_setCell w ⟨b, o, none⟩ v i h

theorem putL_bel (b : Nat) : ∀ (vs : List Value) (o : Nat) (w : World), Below b w (putL w b o vs)
  | [], _, w => Below.refl _ _
  | v :: vs, o, w => ((Below.refl b w).setCell (p := ⟨b, o, none⟩) (Nat.le_refl _) v).trans (putL_bel b vs (o + 1) _)

theorem set_here {w : World} {b : Nat} {cs : Array Value} {t : TypeId} (h : w.heap[b]? = some (.cells cs t (0, 0))) (o : Nat) (v : Value) : (w.setCell ⟨b, o, none⟩ v).heap[b]? = some (.cells (cs.setIfInBounds o v) t (0, 0)) := by
  simp [World.setCell, Array.getElem?_modify, h]

def setL (cs : Array Value) : Nat → List Value → Array Value
  | _, [] => cs
  | o, v :: vs => setL (cs.setIfInBounds o v) (o + 1) vs

theorem putL_here {b : Nat} {t : TypeId} : ∀ (vs : List Value) (o : Nat) (w : World) (cs : Array Value), w.heap[b]? = some (.cells cs t (0, 0)) → (putL w b o vs).heap[b]? = some (.cells (setL cs o vs) t (0, 0))
  | [], _, _, _, h => h
  | v :: vs, o, w, cs, h => putL_here vs (o + 1) _ _ (set_here h o v)

/-- What is allowed and isn't that block stays. -/
theorem Keep.put {A A' : Nat → Prop} {w w' : World} (k : Keep A A' w w') (b o : Nat) (vs : List Value) (hb : ∀ i, A' i → i ≠ b) : Keep A A' w (putL w' b o vs) :=
  ⟨by rw [putL_size]; exact k.1, fun i hA hi => ⟨(k.2 i hA hi).1, (putL_other b vs o w' i (hb i (k.2 i hA hi).1)).trans (k.2 i hA hi).2⟩⟩
end Go.Proofs.YtakpifphpojbjaaGreatDoor
