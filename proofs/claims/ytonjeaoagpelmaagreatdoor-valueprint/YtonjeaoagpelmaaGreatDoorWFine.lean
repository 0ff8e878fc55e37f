/-
  What is proved here: see the remark of the text Fine (the parts of it that this seat needs).
-/
import Derived.Test.YtonjeaoagpelmaaGreatDoorWRefCheck
import Derived.ChangeArms
import Derived.Lib.SmallJoins
namespace Go.Proofs.YtonjeaoagpelmaaGreatDoor
open Go.RowKit
set_option linter.unusedVariables false

def cellInt (w : World) (a : Addr) : Int := match w.cell? a with | some (.int _ n) => n | _ => 0

def cellStr (w : World) (a : Addr) : ByteArray := match w.cell? a with | some (.string s) => s | _ => ⟨#[]⟩

def cellSlA (w : World) (a : Addr) : Option Addr := match w.cell? a with | some (.slice x _ _) => x | _ => none

def cellSlL (w : World) (a : Addr) : Nat := match w.cell? a with | some (.slice _ n _) => n | _ => 0

def cellSlC (w : World) (a : Addr) : Nat := match w.cell? a with | some (.slice _ _ c) => c | _ => 0

/-- The row of values that lies at a place. -/
def valsAt (w : World) (b off : Nat) : Vals :=
  ⟨fun i => cellInt w ⟨b, off + i * 4, none⟩, fun i => cellInt w ⟨b, off + i * 4 + 1, none⟩, fun i => cellStr w ⟨b, off + i * 4 + 1 + 1, none⟩, fun i => cellSlA w ⟨b, off + i * 4 + 1 + 1 + 1, none⟩, fun i => cellSlL w ⟨b, off + i * 4 + 1 + 1 + 1, none⟩, fun i => cellSlC w ⟨b, off + i * 4 + 1 + 1 + 1, none⟩⟩

theorem cells4 : Tryz.prog.cellsOf 24 = 4 := by kernel_rfl

theorem cells1i : Tryz.prog.cellsOf 3 = 1 := by kernel_rfl

theorem cells1s : Tryz.prog.cellsOf 9 = 1 := by kernel_rfl

theorem cells1l : Tryz.prog.cellsOf 22 = 1 := by kernel_rfl

section
variable {H : Type} {enc : TypeId × Value → H} {w : World} {base : Nat} {spare : Nat → Bool} {held : Bool}
theorem len4 {cs : List Value} (h : cs.length = 4) : ∃ c0 c1 c2 c3, cs = [c0, c1, c2, c3] := by
  match cs, h with
  | [c0, c1, c2, c3], _ => exact ⟨c0, c1, c2, c3, rfl⟩
end

section
variable {H : Type} {enc : TypeId × Value → H} {w : World} {base : Nat} {spare : Nat → Bool} {held : Bool}
/-- A value that reads: its four cells, and how its list reads. -/
theorem trod_value {fuel : Nat} {cs : List Value} {x : DataW H × List MemPlace} (h : DataW.trod enc Tryz.prog w base spare held fuel 24 cs = some x) :
    ∃ k n s a l c m y, cs = [.int .i64 k, .int .i64 n, .string s, .slice a l c] ∧ (Lit.int .i64 k).wf = true ∧ (Lit.int .i64 n).wf = true ∧ s.size ≤ maxLen ∧ fuel = m + 1 ∧ DataW.trod enc Tryz.prog w base spare held m 22 [.slice a l c] = some y := by
  obtain ⟨xs, m, rfl, rfl, hlen, hxs, hf⟩ := DataW.trod_struct Tryz.underlying24 h
  rw [cells4] at hlen
  obtain ⟨c0, c1, c2, c3, rfl⟩ := len4 hlen
  have f0 : DataW.trod enc Tryz.prog w base spare held m 3 (([c0, c1, c2, c3].drop 0).take (Tryz.prog.cellsOf 3)) = xs[0]? := hf 0 _ rfl
  have f1 : DataW.trod enc Tryz.prog w base spare held m 3 (([c0, c1, c2, c3].drop 1).take (Tryz.prog.cellsOf 3)) = xs[1]? := hf 1 _ rfl
  have f2 : DataW.trod enc Tryz.prog w base spare held m 9 (([c0, c1, c2, c3].drop 2).take (Tryz.prog.cellsOf 9)) = xs[2]? := hf 2 _ rfl
  have f3 : DataW.trod enc Tryz.prog w base spare held m 22 (([c0, c1, c2, c3].drop 3).take (Tryz.prog.cellsOf 22)) = xs[3]? := hf 3 _ rfl
  have hx : xs.length = 4 := hxs
  obtain ⟨y0, hy0⟩ : ∃ y, xs[0]? = some y := ⟨xs[0], by simp [hx]⟩
  obtain ⟨y1, hy1⟩ : ∃ y, xs[1]? = some y := ⟨xs[1], by simp [hx]⟩
  obtain ⟨y2, hy2⟩ : ∃ y, xs[2]? = some y := ⟨xs[2], by simp [hx]⟩
  obtain ⟨y3, hy3⟩ : ∃ y, xs[3]? = some y := ⟨xs[3], by simp [hx]⟩
  rw [hy0] at f0
  rw [hy1] at f1
  rw [hy2] at f2
  rw [hy3] at f3
  rw [cells1i] at f0 f1
  rw [cells1s] at f2
  rw [cells1l] at f3
  have g0 : DataW.trod enc Tryz.prog w base spare held m 3 [c0] = some y0 := f0
  have g1 : DataW.trod enc Tryz.prog w base spare held m 3 [c1] = some y1 := f1
  have g2 : DataW.trod enc Tryz.prog w base spare held m 9 [c2] = some y2 := f2
  have g3 : DataW.trod enc Tryz.prog w base spare held m 22 [c3] = some y3 := f3
  obtain ⟨k, e0, _, wk⟩ := DataW.trod_int Tryz.underlying3 g0
  obtain ⟨n, e1, _, wn⟩ := DataW.trod_int Tryz.underlying3 g1
  obtain ⟨s, e2, _, ws⟩ := DataW.trod_string Tryz.underlying9 g2
  simp only [List.cons.injEq, and_true] at e0 e1 e2
  subst e0 e1 e2
  have f3' := g3
  rcases DataW.trod_slice Tryz.underlying22 g3 with ⟨e3, _⟩ | ⟨a, l, c, _, _, _, _, e3, _⟩
  · simp only [List.cons.injEq, and_true] at e3
    subst e3
    exact ⟨k, n, s, none, 0, 0, m, y3, rfl, wk, wn, ws, rfl, f3'⟩
  · simp only [List.cons.injEq, and_true] at e3
    subst e3
    exact ⟨k, n, s, some a, l, c, m, y3, rfl, wk, wn, ws, rfl, f3'⟩
end

section
variable {H : Type} {enc : TypeId × Value → H} {w : World} {base : Nat} {spare : Nat → Bool} {held : Bool}
theorem cells_four {a : Addr} {cs : List Value} (h : w.cells? base a 4 = some cs) : ∃ c0 c1 c2 c3, cs = [c0, c1, c2, c3] ∧ w.cell? (a.add 0) = some c0 ∧ w.cell? (a.add 1) = some c1 ∧ w.cell? (a.add 2) = some c2 ∧ w.cell? (a.add 3) = some c3 := by
  unfold World.cells? at h
  split at h
  · have e : List.range 4 = [0, 1, 2, 3] := by decide
    rw [e] at h
    simp only [List.mapM_cons, List.mapM_nil, Option.bind_eq_bind, Option.bind_eq_some_iff, Option.pure_def, Option.some.injEq] at h
    obtain ⟨c0, h0, r0, ⟨c1, h1, r1, ⟨c2, h2, r2, ⟨c3, h3, r3, e3, e4⟩, e5⟩, e6⟩, e7⟩ := h
    subst e3 e4 e5 e6 e7
    exact ⟨c0, c1, c2, c3, rfl, h0, h1, h2, h3⟩
  · cases h
end

section
variable {H : Type} {enc : TypeId × Value → H} {w : World} {base : Nat} {spare : Nat → Bool} {held : Bool}
theorem add_none (b off j : Nat) : (⟨b, off, none⟩ : Addr).add j = ⟨b, off + j, none⟩ := by
  unfold Addr.add
  split <;> simp_all
end

section
variable {H : Type} {enc : TypeId × Value → H} {w : World} {base : Nat} {spare : Nat → Bool} {held : Bool}
theorem add_zero (a : Addr) : a.add 0 = a := by
  unfold Addr.add
  simp
end

section
variable {H : Type} {enc : TypeId × Value → H} {w : World} {base : Nat} {spare : Nat → Bool} {held : Bool}
theorem spot_none {a : Addr} {v : Value} (h : w.cell? a = some v) : a.spot = none ∧ a.block < w.heap.size := by
  refine ⟨?_, World.block_lt_of_cell? w _ h⟩
  obtain ⟨b, off, sp⟩ := a
  cases sp with
  | none => rfl
  | some x =>
    exfalso
    unfold World.cell? at h
    split at h <;> simp_all
end

end Go.Proofs.YtonjeaoagpelmaaGreatDoor
