/-
  What is proved here: see the remark of the text RTree (the parts of it that this seat needs).
-/
import Derived.Test.YtipicfghdijpbaaDoorPPAll
import Derived.Deep.RegionHeld3
import Derived.Deep.AppendLies
namespace Go.Proofs.YtipicfghdijpbaaDoor
open Go.RowKit
set_option linter.unusedVariables false

mutual
/-- A value lies at four cells; its lists lie in blocks that A allows. -/
def LieT (A : Nat → Prop) (w : World) : T → Nat → Nat → Prop
  | .node k n s L, b, off => s.size ≤ 9223372036854775807 ∧ ∃ a l c, w.cell? ⟨b, off, none⟩ = some (.int .i64 k) ∧ w.cell? ⟨b, off + 1, none⟩ = some (.int .i64 n) ∧ w.cell? ⟨b, off + 1 + 1, none⟩ = some (.string s) ∧ w.cell? ⟨b, off + 1 + 1 + 1, none⟩ = some (.slice a l c) ∧ l ≤ c ∧ LieA A w L a l
/-- A list lies where a slice says, in blocks that A allows. -/
def LieA (A : Nat → Prop) (w : World) : List T → Option Addr → Nat → Prop
  | [], _, l => l = 0
  | t :: ts, a, l => ∃ b off, a = some ⟨b, off, none⟩ ∧ l = ts.length + 1 ∧ l ≤ 9223372036854775807 ∧ A b ∧ b < w.heap.size ∧ LieT A w t b off ∧ LieA A w ts (some ⟨b, off + 4, none⟩) ts.length
end

mutual
theorem LieT.lies {A : Nat → Prop} {w : World} : ∀ (t : T) (b off : Nat), LieT A w t b off → LiesT w t b off
  | .node k n s L, b, off, h => by
    unfold LieT at h
    unfold LiesT
    obtain ⟨hs, a, l, c, h0, h1, h2, h3, h4, hL⟩ := h
    exact ⟨hs, a, l, c, h0, h1, h2, h3, h4, LieA.lies L a l hL⟩
theorem LieA.lies {A : Nat → Prop} {w : World} : ∀ (L : List T) (a : Option Addr) (l : Nat), LieA A w L a l → LiesS w L a l
  | [], _, _, h => by unfold LieA at h; unfold LiesS; exact h
  | t :: ts, a, l, h => by
    unfold LieA at h
    unfold LiesS
    obtain ⟨b, off, h1, h2, h3, _, h4, h5, h6⟩ := h
    exact ⟨b, off, h1, h2, h3, h4, LieT.lies t b off h5, LieA.lies ts _ _ h6⟩
end

mutual
theorem LieT.kept {A A' : Nat → Prop} {w w' : World} (hz : w.heap.size ≤ w'.heap.size) (k : ∀ i, A i → i < w.heap.size → A' i ∧ w'.heap[i]? = w.heap[i]?) : ∀ (t : T) (b off : Nat), A b → b < w.heap.size → LieT A w t b off → LieT A' w' t b off
  | .node kk n s L, b, off, hN, hb, h => by
    unfold LieT at h ⊢
    obtain ⟨hs, a, l, c, h0, h1, h2, h3, h4, hL⟩ := h
    have e : ∀ o, w'.cell? ⟨b, o, none⟩ = w.cell? ⟨b, o, none⟩ := fun o => World.cell?_of_block (a := ⟨b, o, none⟩) (k b hN hb).2
    exact ⟨hs, a, l, c, (e _).trans h0, (e _).trans h1, (e _).trans h2, (e _).trans h3, h4, LieA.kept hz k L a l hL⟩
theorem LieA.kept {A A' : Nat → Prop} {w w' : World} (hz : w.heap.size ≤ w'.heap.size) (k : ∀ i, A i → i < w.heap.size → A' i ∧ w'.heap[i]? = w.heap[i]?) : ∀ (L : List T) (a : Option Addr) (l : Nat), LieA A w L a l → LieA A' w' L a l
  | [], _, _, h => by unfold LieA at h ⊢; exact h
  | t :: ts, a, l, h => by
    unfold LieA at h ⊢
    obtain ⟨b, off, h1, h2, h3, h4, h5, h6, h7⟩ := h
    exact ⟨b, off, h1, h2, h3, (k b h4 h5).1, by omega, LieT.kept hz k t b off h4 h5 h6, LieA.kept hz k ts _ _ h7⟩
end

/-- A value that was read: what it is, and the slice of its list. -/
structure Got where
  k : Int
  n : Int
  s : ByteArray
  L : List T
  a : Option Addr
  l : Nat
  c : Nat

def Got.cells (x : Got) : List Value := [.int .i64 x.k, .int .i64 x.n, .string x.s, .slice x.a x.l x.c]

def Got.tree (x : Got) : T := .node x.k x.n x.s x.L

def Got.ok (A : Nat → Prop) (w : World) (x : Got) : Prop := x.s.size ≤ 9223372036854775807 ∧ x.l ≤ x.c ∧ LieA A w x.L x.a x.l

theorem Got.ok.kept {A A' : Nat → Prop} {w w' : World} {x : Got} (h : x.ok A w) (hz : w.heap.size ≤ w'.heap.size) (k : ∀ i, A i → i < w.heap.size → A' i ∧ w'.heap[i]? = w.heap[i]?) : x.ok A' w' := ⟨h.1, h.2.1, LieA.kept hz k _ _ _ h.2.2⟩

theorem put4_other (w : World) (b : Nat) (v0 v1 v2 v3 : Value) : ∀ i, i ≠ b → i < w.heap.size → (put4 w b v0 v1 v2 v3).heap[i]? = w.heap[i]? := fun i hi _ => by
  simp [put4, World.setCell, Array.getElem?_modify, Ne.symm hi]

end Go.Proofs.YtipicfghdijpbaaDoor
