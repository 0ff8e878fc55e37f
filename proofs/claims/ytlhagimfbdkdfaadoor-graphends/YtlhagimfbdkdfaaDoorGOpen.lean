/-
  What is proved here: texts, properties, nodes, edges and graphs that read as data of their types lie in memory as such, as plain data; and what the checks of a property's value answer.
-/
import Derived.Test.YtlhagimfbdkdfaaDoorPM
import Derived.Test.YtlhagimfbdkdfaaDoorGFind
namespace Go.Proofs.YtlhagimfbdkdfaaDoor
open Go.RowKit
set_option linter.unusedVariables false

theorem list_of {α : Type} (Q : Nat → α → Prop) : ∀ l : Nat, (∀ i, i < l → ∃ x, Q i x) → ∃ L : List α, L.length = l ∧ ∀ i x, L[i]? = some x → Q i x
  | 0, _ => ⟨[], rfl, fun i x h => by simp at h⟩
  | l + 1, h => by
    obtain ⟨L, hl, hL⟩ := list_of Q l (fun i hi => h i (by omega))
    obtain ⟨x, hx⟩ := h l (by omega)
    refine ⟨L ++ [x], by simp [hl], fun i y hy => ?_⟩
    by_cases hi : i < L.length
    · rw [List.getElem?_append_left hi] at hy
      exact hL i y hy
    · rw [List.getElem?_append_right (by omega)] at hy
      have h2 := (List.getElem?_eq_some_iff.1 hy).1
      simp at h2
      have hil : i = l := by omega
      subst hil
      rw [hl, Nat.sub_self] at hy
      simp at hy
      subst hy
      exact hx

/-- What is right of a property, in a world: its value is a tree that lies there, and both checks of it answer its error. -/
def PrOk (w : World) (p : Pr) : Prop := (p.s.size ≤ 9223372036854775807 ∧ p.l ≤ p.c) ∧ ∃ L : List T, InT (.node p.k p.n p.s L) ∧ LiesS w L p.a p.l ∧ Both w p.val 0 p.e ∧ (p.e = 0 → Ck 6 (.node p.k p.n p.s L))

theorem PrOk.below {w w' : World} (k : Below w.heap.size w w') {p : Pr} (h : PrOk w p) : PrOk w' p := by
  obtain ⟨h1, L, h2, h3, h4, h5⟩ := h
  exact ⟨h1, L, h2, h3.below k, fun W hW => h4 W (below2 k hW), h5⟩

section
variable {H : Type} {enc : TypeId × Value → H} {w : World} {base : Nat} {spare : Nat → Bool} {held : Bool}

theorem cells_all {a : Addr} {k : Nat} {cs : List Value} (h : w.cells? base a k = some cs) : cs.length = k ∧ ∀ j v, cs[j]? = some v → w.cell? (a.add j) = some v := by
  unfold World.cells? at h
  split at h
  · have hl := mapM_some_length h
    refine ⟨by simpa using hl, fun j v hv => ?_⟩
    have hj : j < k := by
      have := (List.getElem?_eq_some_iff.1 hv).1
      simp at hl
      omega
    have := mapM_some_get h j j (by simp [hj])
    rw [hv] at this
    exact this
  · cases h

/-- A slice that reads: its elements, one by one. -/
theorem slice_rows {t e : TypeId} {k fuel : Nat} {a : Option Addr} {l c : Nat} {y : DataW H × List MemPlace} (hu : Tryd.prog.underlying t = some (.slice e)) (hk : Tryd.prog.cellsOf e = k) (h0 : 0 < k) (h : DataW.trod enc Tryd.prog w base spare held fuel t [.slice a l c] = some y) :
    l ≤ c ∧ l ≤ 9223372036854775807 ∧ (0 < l → ∃ b off, a = some ⟨b, off, none⟩ ∧ b < w.heap.size ∧ ∀ i, i < l → ∃ m cs z, cs.length = k ∧ (∀ j v, cs[j]? = some v → w.cell? ⟨b, off + i * k + j, none⟩ = some v) ∧ DataW.trod enc Tryd.prog w base spare held m e cs = some z) := by
  have hm : maxLen ≤ 9223372036854775807 := by unfold maxLen; decide
  rcases DataW.trod_slice hu h with ⟨e1, rfl⟩ | ⟨a', l', c', elems, rest, m, hfu, e1, rfl, _, h1, h2, hlen, hel, _⟩
  · simp at e1
    obtain ⟨_, rfl, rfl⟩ := e1
    exact ⟨Nat.le_refl _, by omega, fun h => absurd h (Nat.lt_irrefl _)⟩
  · simp at e1
    obtain ⟨rfl, rfl, rfl⟩ := e1
    refine ⟨h1, by omega, fun hp => ?_⟩
    have one : ∀ i, i < l → ∃ cs z, cs.length = k ∧ (∀ j v, cs[j]? = some v → w.cell? ((a'.add (i * k)).add j) = some v) ∧ DataW.trod enc Tryd.prog w base spare held m e cs = some z := by
      intro i hi
      have hi2 := hel i hi
      obtain ⟨z, hz⟩ : ∃ z, elems[i]? = some z := ⟨elems[i], by simp [hlen, hi]⟩
      rw [hz, hk, Option.bind_eq_some_iff] at hi2
      obtain ⟨cs, hcs, ht⟩ := hi2
      obtain ⟨q1, q2⟩ := cells_all hcs
      exact ⟨cs, z, q1, q2, ht⟩
    obtain ⟨b, off, sp⟩ := a'
    have hsp : sp = none ∧ b < w.heap.size := by
      obtain ⟨cs, z, q1, q2, _⟩ := one 0 hp
      have q0 := q2 0 cs[0] (by simp)
      rw [Nat.zero_mul, add_zero, add_zero] at q0
      exact spot_none q0
    obtain ⟨rfl, hb⟩ := hsp
    refine ⟨b, off, rfl, hb, fun i hi => ?_⟩
    obtain ⟨cs, z, q1, q2, q3⟩ := one i hi
    refine ⟨m, cs, z, q1, fun j v hv => ?_, q3⟩
    have := q2 j v hv
    rw [add_none, add_none] at this
    exact this

theorem strs_in {fuel : Nat} {a : Option Addr} {l c : Nat} {y : DataW H × List MemPlace} (h : DataW.trod enc Tryd.prog w base spare held fuel 33 [.slice a l c] = some y) : l ≤ c ∧ ∃ L, StrsAt w L a l := by
  have hm : maxLen ≤ 9223372036854775807 := by unfold maxLen; decide
  obtain ⟨h1, h2, h3⟩ := slice_rows Tryd.underlying33 cells1s (by omega) h
  refine ⟨h1, ?_⟩
  by_cases h0 : l = 0
  · subst h0
    exact ⟨[], rfl, by omega, fun h => absurd h (Nat.lt_irrefl _)⟩
  · obtain ⟨b, off, ha, hb, hall⟩ := h3 (by omega)
    obtain ⟨L, hl, hL⟩ := list_of (fun i (s : ByteArray) => s.size ≤ 9223372036854775807 ∧ w.cell? ⟨b, off + i, none⟩ = some (.string s)) l (fun i hi => by
      obtain ⟨m, cs, z, q1, q2, q3⟩ := hall i hi
      obtain ⟨s, e2, _, ws⟩ := DataW.trod_string Tryd.underlying9 q3
      subst e2
      have := q2 0 _ rfl
      rw [Nat.mul_one, Nat.add_zero] at this
      exact ⟨s, by omega, this⟩)
    exact ⟨L, hl.symm, h2, fun _ => ⟨b, off, ha, hb, hL⟩⟩

theorem cells5p : Tryd.prog.cellsOf 69 = 5 := by kernel_rfl
theorem cells3n : Tryd.prog.cellsOf 36 = 3 := by kernel_rfl
theorem cells5e : Tryd.prog.cellsOf 42 = 5 := by kernel_rfl
theorem cells3g : Tryd.prog.cellsOf 25 = 3 := by kernel_rfl
theorem cells1p : Tryd.prog.cellsOf 34 = 1 := by kernel_rfl
theorem cells1t : Tryd.prog.cellsOf 33 = 1 := by kernel_rfl
theorem cells1n : Tryd.prog.cellsOf 22 = 1 := by kernel_rfl
theorem cells1e : Tryd.prog.cellsOf 23 = 1 := by kernel_rfl

theorem len5 {cs : List Value} (h : cs.length = 5) : ∃ c0 c1 c2 c3 c4, cs = [c0, c1, c2, c3, c4] := by
  match cs, h with
  | [c0, c1, c2, c3, c4], _ => exact ⟨c0, c1, c2, c3, c4, rfl⟩

theorem len3 {cs : List Value} (h : cs.length = 3) : ∃ c0 c1 c2, cs = [c0, c1, c2] := by
  match cs, h with
  | [c0, c1, c2], _ => exact ⟨c0, c1, c2, rfl⟩

theorem slice_form {t e : TypeId} {fuel : Nat} {v : Value} {y : DataW H × List MemPlace} (hu : Tryd.prog.underlying t = some (.slice e)) (h : DataW.trod enc Tryd.prog w base spare held fuel t [v] = some y) : ∃ a l c, v = .slice a l c := by
  rcases DataW.trod_slice hu h with ⟨e1, _⟩ | ⟨a', l', c', elems, rest, m, hfu, e1, _⟩
  · simp at e1
    exact ⟨none, 0, 0, e1⟩
  · simp at e1
    exact ⟨some a', l', c', e1⟩

theorem trod_prop {fuel : Nat} {cs : List Value} {x : DataW H × List MemPlace} (h : DataW.trod enc Tryd.prog w base spare held fuel 69 cs = some x) :
    ∃ name k n s a l c m y, cs = [.string name, .int .i64 k, .int .i64 n, .string s, .slice a l c] ∧ name.size ≤ maxLen ∧ (Lit.int .i64 k).wf = true ∧ (Lit.int .i64 n).wf = true ∧ s.size ≤ maxLen ∧ DataW.trod enc Tryd.prog w base spare held m 52 [.slice a l c] = some y := by
  obtain ⟨xs, m, rfl, rfl, hlen, hxs, hf⟩ := DataW.trod_struct Tryd.underlying69 h
  rw [cells5p] at hlen
  obtain ⟨c0, c1, c2, c3, c4, rfl⟩ := len5 hlen
  have f0 : DataW.trod enc Tryd.prog w base spare held m 9 (([c0, c1, c2, c3, c4].drop 0).take (Tryd.prog.cellsOf 9)) = xs[0]? := hf 0 _ rfl
  have f1 : DataW.trod enc Tryd.prog w base spare held m 54 (([c0, c1, c2, c3, c4].drop 1).take (Tryd.prog.cellsOf 54)) = xs[1]? := hf 1 _ rfl
  have hx : xs.length = 2 := hxs
  obtain ⟨y0, hy0⟩ : ∃ y, xs[0]? = some y := ⟨xs[0], by simp [hx]⟩
  obtain ⟨y1, hy1⟩ : ∃ y, xs[1]? = some y := ⟨xs[1], by simp [hx]⟩
  rw [hy0, cells1s] at f0
  rw [hy1, cells4] at f1
  have g0 : DataW.trod enc Tryd.prog w base spare held m 9 [c0] = some y0 := f0
  have g1 : DataW.trod enc Tryd.prog w base spare held m 54 [c1, c2, c3, c4] = some y1 := f1
  obtain ⟨name, e0, _, wn⟩ := DataW.trod_string Tryd.underlying9 g0
  obtain ⟨k, n, s, a, l, c, m', y, e1, wk, wn', hs, _, hy⟩ := trod_value g1
  simp only [List.cons.injEq, and_true] at e0 e1
  obtain ⟨rfl, rfl, rfl, rfl⟩ := e1
  subst e0
  exact ⟨name, k, n, s, a, l, c, m', y, rfl, wn, wk, wn', hs, hy⟩

theorem props_in (B : Nat) (hB : B ≤ w.heap.size) (hT : Tabs B w) {fuel : Nat} {a : Option Addr} {l c : Nat} {y : DataW H × List MemPlace} (h : DataW.trod enc Tryd.prog w base spare held fuel 34 [.slice a l c] = some y) : l ≤ c ∧ ∃ P, PropsAt w P a l ∧ ∀ p ∈ P, PrOk w p := by
  have hm : maxLen ≤ 9223372036854775807 := by unfold maxLen; decide
  obtain ⟨h1, h2, h3⟩ := slice_rows Tryd.underlying34 cells5p (by omega) h
  refine ⟨h1, ?_⟩
  by_cases h0 : l = 0
  · subst h0
    exact ⟨[], ⟨rfl, by omega, fun h => absurd h (Nat.lt_irrefl _)⟩, fun p hp => by cases hp⟩
  · obtain ⟨b, off, ha, hb, hall⟩ := h3 (by omega)
    obtain ⟨L, hl, hL⟩ := list_of (fun i (p : Pr) => (p.name.size ≤ 9223372036854775807 ∧ w.cell? ⟨b, off + i * 5, none⟩ = some (.string p.name) ∧ w.cell? ⟨b, off + i * 5 + 1, none⟩ = some (.int .i64 p.k) ∧ w.cell? ⟨b, off + i * 5 + 1 + 1, none⟩ = some (.int .i64 p.n) ∧ w.cell? ⟨b, off + i * 5 + 1 + 1 + 1, none⟩ = some (.string p.s) ∧ w.cell? ⟨b, off + i * 5 + 1 + 1 + 1 + 1, none⟩ = some (.slice p.a p.l p.c)) ∧ PrOk w p) l (fun i hi => by
      obtain ⟨m, cs, z, q1, q2, q3⟩ := hall i hi
      obtain ⟨name, k, n, s, a, l, c, m', y', rfl, hn, wk, wn, hs, hy⟩ := trod_prop q3
      obtain ⟨hlc, LL, hLL, hin⟩ := tree_in m' hy
      have hn1 : -9223372036854775808 ≤ n ∧ n ≤ 9223372036854775807 := by simpa [Lit.wf, IntKind.min, IntKind.max, IntKind.signed, IntKind.bits] using wn
      have hT2 : InT (.node k n s LL) := by
        unfold InT
        exact ⟨hn1, hin⟩
      obtain ⟨e, he, hck⟩ := bk_all B w hB hT 6 0 rfl k n s a l c LL (by omega) hT2 hLL
      exact ⟨⟨name, k, n, s, a, l, c, e⟩, ⟨by show name.size ≤ _; omega, q2 0 _ rfl, q2 1 _ rfl, q2 2 _ rfl, q2 3 _ rfl, q2 4 _ rfl⟩, ⟨(by show s.size ≤ _; omega), hlc⟩, LL, hT2, hLL, he, hck⟩)
    refine ⟨L, ⟨hl.symm, h2, fun _ => ⟨b, off, ha, hb, fun i p hp => (hL i p hp).1⟩⟩, fun p hp => ?_⟩
    obtain ⟨i, hi⟩ := List.getElem?_of_mem hp
    exact (hL i p hi).2
end
end Go.Proofs.YtlhagimfbdkdfaaDoor
