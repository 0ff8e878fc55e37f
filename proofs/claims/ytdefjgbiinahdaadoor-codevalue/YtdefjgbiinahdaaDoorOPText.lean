/-
  What is proved here: see the remark of the text PText (the parts of it that this seat needs).
-/
import Derived.Test.YtdefjgbiinahdaaDoorOItems
import Derived.Maps.AppendAt
import Derived.OwnWalk
import Derived.Lib.AppendStr
namespace Go.Proofs.YtdefjgbiinahdaaDoor
open Go.RowKit
set_option linter.unusedVariables false

/-- A row of bytes of the call's own. -/
def Out (B : Nat) (w : World) (v : Value) (l : List UInt8) : Prop := w.ownsRow B BE 1 v l.length (Lib.byteCells l)

theorem Out.len {B : Nat} {w : World} {v : Value} {l : List UInt8} (h : Out B w v l) : ∃ a c, v = .slice a l.length c := by
  rcases h.2 with ⟨h0, h1⟩ | ⟨g, cap, cur, e1, _⟩
  · exact ⟨none, 0, by rw [h0, h1]⟩
  · exact ⟨_, _, e1⟩

theorem Out.nil (B : Nat) (w : World) : Out B w (.slice none 0 0) [] := ⟨rfl, .inl ⟨rfl, rfl⟩⟩

theorem Out.kept {B : Nat} {w w' : World} {v : Value} {l : List UInt8} (h : Out B w v l) (hk : ∀ k, B ≤ k → k < w.heap.size → w'.heap[k]? = w.heap[k]?) : Out B w' v l := row_kept h hk

theorem Out.alloc {B : Nat} {w : World} {v : Value} {l : List UInt8} (h : Out B w v l) (o : Obj) : Out B (w.alloc o) v l := h.kept fun k _ hk => Below.heap_alloc _ _ _ hk

theorem Out.below {B : Nat} {w w' : World} {v : Value} {l : List UInt8} (h : Out B w v l) (k : Below w.heap.size w w') : Out B w' v l := h.kept fun i _ hi => k.block i hi

theorem Out.grown {B : Nat} {a w w' : World} {v : Value} {l : List UInt8} (h : Out B w v l) (hb : Below B a w) (hg : w.grownBy w' v.ownBlock) (hB : B ≤ w.heap.size) : Below B a w' := hb.grown hg hB (fun k hk => row_block h k hk)

theorem out_of {B : Nat} {w : World} {v : Value} {n : Nat} {l m : List UInt8} {ys : List Value} (h : w.ownsRow B BE 1 v n (Lib.byteCells l ++ ys)) (e : ys = Lib.byteCells m) : Out B w v (l ++ m) := by
  subst e
  rw [← Lib.byteCells_append] at h
  have hl := h.1
  rw [Lib.byteCells_length] at hl
  have : n = (l ++ m).length := by omega
  subst this
  exact h

theorem one_new (w : World) (x : Value) (t : TypeId) : ∀ j u, [x][j]? = some u → (w.alloc (.cells #[x] t)).cell? ((⟨w.heap.size, 0, none⟩ : Addr).add j) = some u :=
  World.news_of_block (cs := #[x]) (alloc_new w _)

end Go.Proofs.YtdefjgbiinahdaaDoor
