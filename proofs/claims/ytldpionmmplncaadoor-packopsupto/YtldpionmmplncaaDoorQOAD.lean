/-
  What is proved here: what the texts GOpen, GOpen2 prove, in one text.
-/
import Derived.Test.YtldpionmmplncaaDoorQOAA
import Derived.Test.YtldpionmmplncaaDoorQOAB
namespace Go.Proofs.YtldpionmmplncaaDoor
open Go.RowKit
set_option linter.unusedVariables false

theorem list_of {α : Type} (Q : Nat → α → Prop) : ∀ l : Nat, (∀ i, i < l → ∃ x, Q i x) → ∃ L : List α, L.length = l ∧ ∀ i x, L[i]? = some x → Q i x
  | 0, _ => ⟨[], rfl, fun i x h => by simp at h⟩
  | l + 1, h => by
    obtain ⟨L, hl, hL⟩ := list_of Q l (fun i hi => h i (by omega))
    obtain ⟨x, hx⟩ := h l (by omega)
    refine ⟨L ++ [x], by simp [hl], fun i y hy => ?_⟩
    by_cases hi : i < L.length
    · rw [List.getElem?_append_left hi] at hy
      exact hL i y hy
    · rw [List.getElem?_append_right (by omega)] at hy
      have h2 := (List.getElem?_eq_some_iff.1 hy).1
      simp at h2
      have hil : i = l := by omega
      subst hil
      rw [hl, Nat.sub_self] at hy
      simp at hy
      subst hy
      exact hx

/-- What is right of a property, in a world: its value is a tree that lies there, and both checks of it answer its error. -/
def PrOk (w : World) (p : Pr) : Prop := (p.s.size ≤ 9223372036854775807 ∧ p.l ≤ p.c) ∧ ∃ L : List T, InT (.node p.k p.n p.s L) ∧ LiesS w L p.a p.l ∧ Both w p.val 0 p.e ∧ (p.e = 0 → Ck 6 (.node p.k p.n p.s L))

theorem PrOk.below {w w' : World} (k : Below w.heap.size w w') {p : Pr} (h : PrOk w p) : PrOk w' p := by
  obtain ⟨h1, L, h2, h3, h4, h5⟩ := h
  exact ⟨h1, L, h2, h3.below k, fun W hW => h4 W (below2 k hW), h5⟩

section
variable {H : Type} {enc : TypeId × Value → H} {w : World} {base : Nat} {spare : Nat → Bool} {held : Bool}

theorem cells_all {a : Addr} {k : Nat} {cs : List Value} (h : w.cells? base a k = some cs) : cs.length = k ∧ ∀ j v, cs[j]? = some v → w.cell? (a.add j) = some v := by
  unfold World.cells? at h
  split at h
  · have hl := mapM_some_length h
    refine ⟨by simpa using hl, fun j v hv => ?_⟩
    have hj : j < k := by
      have := (List.getElem?_eq_some_iff.1 hv).1
      simp at hl
      omega
    have := mapM_some_get h j j (by simp [hj])
    rw [hv] at this
    exact this
  · cases h

/-- A slice that reads: its elements, one by one. -/
theorem slice_rows {t e : TypeId} {k fuel : Nat} {a : Option Addr} {l c : Nat} {y : DataW H × List MemPlace} (hu : Tryd.prog.underlying t = some (.slice e)) (hk : Tryd.prog.cellsOf e = k) (h0 : 0 < k) (h : DataW.trod enc Tryd.prog w base spare held fuel t [.slice a l c] = some y) :
    l ≤ c ∧ l ≤ 9223372036854775807 ∧ (0 < l → ∃ b off, a = some ⟨b, off, none⟩ ∧ b < w.heap.size ∧ ∀ i, i < l → ∃ m cs z, cs.length = k ∧ (∀ j v, cs[j]? = some v → w.cell? ⟨b, off + i * k + j, none⟩ = some v) ∧ DataW.trod enc Tryd.prog w base spare held m e cs = some z) := by
  have hm : maxLen ≤ 9223372036854775807 := by unfold maxLen; decide
  rcases DataW.trod_slice hu h with ⟨e1, rfl⟩ | ⟨a', l', c', elems, rest, m, hfu, e1, rfl, _, h1, h2, hlen, hel, _⟩
  · simp at e1
    obtain ⟨_, rfl, rfl⟩ := e1
    exact ⟨Nat.le_refl _, by omega, fun h => absurd h (Nat.lt_irrefl _)⟩
  · simp at e1
    obtain ⟨rfl, rfl, rfl⟩ := e1
    refine ⟨h1, by omega, fun hp => ?_⟩
    have one : ∀ i, i < l → ∃ cs z, cs.length = k ∧ (∀ j v, cs[j]? = some v → w.cell? ((a'.add (i * k)).add j) = some v) ∧ DataW.trod enc Tryd.prog w base spare held m e cs = some z := by
      intro i hi
      have hi2 := hel i hi
      obtain ⟨z, hz⟩ : ∃ z, elems[i]? = some z := ⟨elems[i], by simp [hlen, hi]⟩
      rw [hz, hk, Option.bind_eq_some_iff] at hi2
      obtain ⟨cs, hcs, ht⟩ := hi2
      obtain ⟨q1, q2⟩ := cells_all hcs
      exact ⟨cs, z, q1, q2, ht⟩
    obtain ⟨b, off, sp⟩ := a'
    have hsp : sp = none ∧ b < w.heap.size := by
      obtain ⟨cs, z, q1, q2, _⟩ := one 0 hp
      have q0 := q2 0 cs[0] (by simp)
      rw [Nat.zero_mul, add_zero, add_zero] at q0
      exact spot_none q0
    obtain ⟨rfl, hb⟩ := hsp
    refine ⟨b, off, rfl, hb, fun i hi => ?_⟩
    obtain ⟨cs, z, q1, q2, q3⟩ := one i hi
    refine ⟨m, cs, z, q1, fun j v hv => ?_, q3⟩
    have := q2 j v hv
    rw [add_none, add_none] at this
    exact this

theorem strs_in {fuel : Nat} {a : Option Addr} {l c : Nat} {y : DataW H × List MemPlace} (h : DataW.trod enc Tryd.prog w base spare held fuel 35 [.slice a l c] = some y) : l ≤ c ∧ ∃ L, StrsAt w L a l := by
  have hm : maxLen ≤ 9223372036854775807 := by unfold maxLen; decide
  obtain ⟨h1, h2, h3⟩ := slice_rows Tryd.underlying35 cells1s (by omega) h
  refine ⟨h1, ?_⟩
  by_cases h0 : l = 0
  · subst h0
    exact ⟨[], rfl, by omega, fun h => absurd h (Nat.lt_irrefl _)⟩
  · obtain ⟨b, off, ha, hb, hall⟩ := h3 (by omega)
    obtain ⟨L, hl, hL⟩ := list_of (fun i (s : ByteArray) => s.size ≤ 9223372036854775807 ∧ w.cell? ⟨b, off + i, none⟩ = some (.string s)) l (fun i hi => by
      obtain ⟨m, cs, z, q1, q2, q3⟩ := hall i hi
      obtain ⟨s, e2, _, ws⟩ := DataW.trod_string Tryd.underlying9 q3
      subst e2
      have := q2 0 _ rfl
      rw [Nat.mul_one, Nat.add_zero] at this
      exact ⟨s, by omega, this⟩)
    exact ⟨L, hl.symm, h2, fun _ => ⟨b, off, ha, hb, hL⟩⟩

theorem cells5p : Tryd.prog.cellsOf 63 = 5 := by kernel_rfl
theorem cells3n : Tryd.prog.cellsOf 87 = 3 := by kernel_rfl
theorem cells5e : Tryd.prog.cellsOf 89 = 5 := by kernel_rfl
theorem cells3g : Tryd.prog.cellsOf 56 = 3 := by kernel_rfl
theorem cells1p : Tryd.prog.cellsOf 36 = 1 := by kernel_rfl
theorem cells1t : Tryd.prog.cellsOf 35 = 1 := by kernel_rfl
theorem cells1n : Tryd.prog.cellsOf 53 = 1 := by kernel_rfl
theorem cells1e : Tryd.prog.cellsOf 54 = 1 := by kernel_rfl

theorem len5 {cs : List Value} (h : cs.length = 5) : ∃ c0 c1 c2 c3 c4, cs = [c0, c1, c2, c3, c4] := by
  match cs, h with
  | [c0, c1, c2, c3, c4], _ => exact ⟨c0, c1, c2, c3, c4, rfl⟩

theorem len3 {cs : List Value} (h : cs.length = 3) : ∃ c0 c1 c2, cs = [c0, c1, c2] := by
  match cs, h with
  | [c0, c1, c2], _ => exact ⟨c0, c1, c2, rfl⟩

theorem slice_form {t e : TypeId} {fuel : Nat} {v : Value} {y : DataW H × List MemPlace} (hu : Tryd.prog.underlying t = some (.slice e)) (h : DataW.trod enc Tryd.prog w base spare held fuel t [v] = some y) : ∃ a l c, v = .slice a l c := by
  rcases DataW.trod_slice hu h with ⟨e1, _⟩ | ⟨a', l', c', elems, rest, m, hfu, e1, _⟩
  · simp at e1
    exact ⟨none, 0, 0, e1⟩
  · simp at e1
    exact ⟨some a', l', c', e1⟩

theorem trod_prop {fuel : Nat} {cs : List Value} {x : DataW H × List MemPlace} (h : DataW.trod enc Tryd.prog w base spare held fuel 63 cs = some x) :
    ∃ name k n s a l c m y, cs = [.string name, .int .i64 k, .int .i64 n, .string s, .slice a l c] ∧ name.size ≤ maxLen ∧ (Lit.int .i64 k).wf = true ∧ (Lit.int .i64 n).wf = true ∧ s.size ≤ maxLen ∧ DataW.trod enc Tryd.prog w base spare held m 32 [.slice a l c] = some y := by
  obtain ⟨xs, m, rfl, rfl, hlen, hxs, hf⟩ := DataW.trod_struct Tryd.underlying63 h
  rw [cells5p] at hlen
  obtain ⟨c0, c1, c2, c3, c4, rfl⟩ := len5 hlen
  have f0 : DataW.trod enc Tryd.prog w base spare held m 9 (([c0, c1, c2, c3, c4].drop 0).take (Tryd.prog.cellsOf 9)) = xs[0]? := hf 0 _ rfl
  have f1 : DataW.trod enc Tryd.prog w base spare held m 34 (([c0, c1, c2, c3, c4].drop 1).take (Tryd.prog.cellsOf 34)) = xs[1]? := hf 1 _ rfl
  have hx : xs.length = 2 := hxs
  obtain ⟨y0, hy0⟩ : ∃ y, xs[0]? = some y := ⟨xs[0], by simp [hx]⟩
  obtain ⟨y1, hy1⟩ : ∃ y, xs[1]? = some y := ⟨xs[1], by simp [hx]⟩
  rw [hy0, cells1s] at f0
  rw [hy1, cells4] at f1
  have g0 : DataW.trod enc Tryd.prog w base spare held m 9 [c0] = some y0 := f0
  have g1 : DataW.trod enc Tryd.prog w base spare held m 34 [c1, c2, c3, c4] = some y1 := f1
  obtain ⟨name, e0, _, wn⟩ := DataW.trod_string Tryd.underlying9 g0
  obtain ⟨k, n, s, a, l, c, m', y, e1, wk, wn', hs, _, hy⟩ := trod_value g1
  simp only [List.cons.injEq, and_true] at e0 e1
  obtain ⟨rfl, rfl, rfl, rfl⟩ := e1
  subst e0
  exact ⟨name, k, n, s, a, l, c, m', y, rfl, wn, wk, wn', hs, hy⟩

theorem props_in (B : Nat) (hB : B ≤ w.heap.size) (hT : Tabs B w) {fuel : Nat} {a : Option Addr} {l c : Nat} {y : DataW H × List MemPlace} (h : DataW.trod enc Tryd.prog w base spare held fuel 36 [.slice a l c] = some y) : l ≤ c ∧ ∃ P, PropsAt w P a l ∧ ∀ p ∈ P, PrOk w p := by
  have hm : maxLen ≤ 9223372036854775807 := by unfold maxLen; decide
  obtain ⟨h1, h2, h3⟩ := slice_rows Tryd.underlying36 cells5p (by omega) h
  refine ⟨h1, ?_⟩
  by_cases h0 : l = 0
  · subst h0
    exact ⟨[], ⟨rfl, by omega, fun h => absurd h (Nat.lt_irrefl _)⟩, fun p hp => by cases hp⟩
  · obtain ⟨b, off, ha, hb, hall⟩ := h3 (by omega)
    obtain ⟨L, hl, hL⟩ := list_of (fun i (p : Pr) => (p.name.size ≤ 9223372036854775807 ∧ w.cell? ⟨b, off + i * 5, none⟩ = some (.string p.name) ∧ w.cell? ⟨b, off + i * 5 + 1, none⟩ = some (.int .i64 p.k) ∧ w.cell? ⟨b, off + i * 5 + 1 + 1, none⟩ = some (.int .i64 p.n) ∧ w.cell? ⟨b, off + i * 5 + 1 + 1 + 1, none⟩ = some (.string p.s) ∧ w.cell? ⟨b, off + i * 5 + 1 + 1 + 1 + 1, none⟩ = some (.slice p.a p.l p.c)) ∧ PrOk w p) l (fun i hi => by
      obtain ⟨m, cs, z, q1, q2, q3⟩ := hall i hi
      obtain ⟨name, k, n, s, a, l, c, m', y', rfl, hn, wk, wn, hs, hy⟩ := trod_prop q3
      obtain ⟨hlc, LL, hLL, hin⟩ := tree_in m' hy
      have hn1 : -9223372036854775808 ≤ n ∧ n ≤ 9223372036854775807 := by simpa [Lit.wf, IntKind.min, IntKind.max, IntKind.signed, IntKind.bits] using wn
      have hT2 : InT (.node k n s LL) := by
        unfold InT
        exact ⟨hn1, hin⟩
      obtain ⟨e, he, hck⟩ := bk_all B w hB hT 6 0 rfl k n s a l c LL (by omega) hT2 hLL
      exact ⟨⟨name, k, n, s, a, l, c, e⟩, ⟨by show name.size ≤ _; omega, q2 0 _ rfl, q2 1 _ rfl, q2 2 _ rfl, q2 3 _ rfl, q2 4 _ rfl⟩, ⟨(by show s.size ≤ _; omega), hlc⟩, LL, hT2, hLL, he, hck⟩)
    refine ⟨L, ⟨hl.symm, h2, fun _ => ⟨b, off, ha, hb, fun i p hp => (hL i p hp).1⟩⟩, fun p hp => ?_⟩
    obtain ⟨i, hi⟩ := List.getElem?_of_mem hp
    exact (hL i p hi).2
end

def NdOk (w : World) (x : Nd) : Prop := StrsAt w x.labs x.la x.ll ∧ PropsAt w x.props x.pa x.pl ∧ ∀ p ∈ x.props, PrOk w p
def EdOk (w : World) (x : Ed) : Prop := PropsAt w x.props x.pa x.pl ∧ ∀ p ∈ x.props, PrOk w p

/-- A graph lies in memory. -/
def GrOk (w : World) (N : List Nd) (E : List Ed) (na : Option Addr) (nl : Nat) (ea : Option Addr) (el : Nat) : Prop := NodesAt w N na nl ∧ EdgesAt w E ea el ∧ (∀ x ∈ N, NdOk w x) ∧ (∀ x ∈ E, EdOk w x)

theorem GrOk.below {w w' : World} (k : Below w.heap.size w w') {N : List Nd} {E : List Ed} {na : Option Addr} {nl : Nat} {ea : Option Addr} {el : Nat} (h : GrOk w N E na nl ea el) : GrOk w' N E na nl ea el :=
  ⟨h.1.below k, h.2.1.below k, fun x hx => ⟨(h.2.2.1 x hx).1.below k, (h.2.2.1 x hx).2.1.below k, fun p hp => ((h.2.2.1 x hx).2.2 p hp).below k⟩, fun x hx => ⟨(h.2.2.2 x hx).1.below k, fun p hp => ((h.2.2.2 x hx).2 p hp).below k⟩⟩

section
variable {H : Type} {enc : TypeId × Value → H} {w : World} {base : Nat} {spare : Nat → Bool} {held : Bool}

theorem trod_node {fuel : Nat} {cs : List Value} {x : DataW H × List MemPlace} (h : DataW.trod enc Tryd.prog w base spare held fuel 87 cs = some x) :
    ∃ id la ll lc pa pl pc m y1 y2, cs = [.int .i64 id, .slice la ll lc, .slice pa pl pc] ∧ DataW.trod enc Tryd.prog w base spare held m 35 [.slice la ll lc] = some y1 ∧ DataW.trod enc Tryd.prog w base spare held m 36 [.slice pa pl pc] = some y2 := by
  obtain ⟨xs, m, rfl, rfl, hlen, hxs, hf⟩ := DataW.trod_struct Tryd.underlying87 h
  rw [cells3n] at hlen
  obtain ⟨c0, c1, c2, rfl⟩ := len3 hlen
  have f0 : DataW.trod enc Tryd.prog w base spare held m 3 (([c0, c1, c2].drop 0).take (Tryd.prog.cellsOf 3)) = xs[0]? := hf 0 _ rfl
  have f1 : DataW.trod enc Tryd.prog w base spare held m 35 (([c0, c1, c2].drop 1).take (Tryd.prog.cellsOf 35)) = xs[1]? := hf 1 _ rfl
  have f2 : DataW.trod enc Tryd.prog w base spare held m 36 (([c0, c1, c2].drop 2).take (Tryd.prog.cellsOf 36)) = xs[2]? := hf 2 _ rfl
  have hx : xs.length = 3 := hxs
  obtain ⟨y0, hy0⟩ : ∃ y, xs[0]? = some y := ⟨xs[0], by simp [hx]⟩
  obtain ⟨y1, hy1⟩ : ∃ y, xs[1]? = some y := ⟨xs[1], by simp [hx]⟩
  obtain ⟨y2, hy2⟩ : ∃ y, xs[2]? = some y := ⟨xs[2], by simp [hx]⟩
  rw [hy0, cells1i] at f0
  rw [hy1, cells1t] at f1
  rw [hy2, cells1p] at f2
  have g0 : DataW.trod enc Tryd.prog w base spare held m 3 [c0] = some y0 := f0
  have g1 : DataW.trod enc Tryd.prog w base spare held m 35 [c1] = some y1 := f1
  have g2 : DataW.trod enc Tryd.prog w base spare held m 36 [c2] = some y2 := f2
  obtain ⟨id, e0, _, _⟩ := DataW.trod_int Tryd.underlying3 g0
  obtain ⟨la, ll, lc, rfl⟩ := slice_form Tryd.underlying35 g1
  obtain ⟨pa, pl, pc, rfl⟩ := slice_form Tryd.underlying36 g2
  simp only [List.cons.injEq, and_true] at e0
  subst e0
  exact ⟨id, la, ll, lc, pa, pl, pc, m, y1, y2, rfl, g1, g2⟩

theorem trod_edge {fuel : Nat} {cs : List Value} {x : DataW H × List MemPlace} (h : DataW.trod enc Tryd.prog w base spare held fuel 89 cs = some x) :
    ∃ id frm dst typ pa pl pc m y, cs = [.int .i64 id, .int .i64 frm, .int .i64 dst, .string typ, .slice pa pl pc] ∧ typ.size ≤ maxLen ∧ DataW.trod enc Tryd.prog w base spare held m 36 [.slice pa pl pc] = some y := by
  obtain ⟨xs, m, rfl, rfl, hlen, hxs, hf⟩ := DataW.trod_struct Tryd.underlying89 h
  rw [cells5e] at hlen
  obtain ⟨c0, c1, c2, c3, c4, rfl⟩ := len5 hlen
  have f0 : DataW.trod enc Tryd.prog w base spare held m 3 (([c0, c1, c2, c3, c4].drop 0).take (Tryd.prog.cellsOf 3)) = xs[0]? := hf 0 _ rfl
  have f1 : DataW.trod enc Tryd.prog w base spare held m 3 (([c0, c1, c2, c3, c4].drop 1).take (Tryd.prog.cellsOf 3)) = xs[1]? := hf 1 _ rfl
  have f2 : DataW.trod enc Tryd.prog w base spare held m 3 (([c0, c1, c2, c3, c4].drop 2).take (Tryd.prog.cellsOf 3)) = xs[2]? := hf 2 _ rfl
  have f3 : DataW.trod enc Tryd.prog w base spare held m 9 (([c0, c1, c2, c3, c4].drop 3).take (Tryd.prog.cellsOf 9)) = xs[3]? := hf 3 _ rfl
  have f4 : DataW.trod enc Tryd.prog w base spare held m 36 (([c0, c1, c2, c3, c4].drop 4).take (Tryd.prog.cellsOf 36)) = xs[4]? := hf 4 _ rfl
  have hx : xs.length = 5 := hxs
  obtain ⟨y0, hy0⟩ : ∃ y, xs[0]? = some y := ⟨xs[0], by simp [hx]⟩
  obtain ⟨y1, hy1⟩ : ∃ y, xs[1]? = some y := ⟨xs[1], by simp [hx]⟩
  obtain ⟨y2, hy2⟩ : ∃ y, xs[2]? = some y := ⟨xs[2], by simp [hx]⟩
  obtain ⟨y3, hy3⟩ : ∃ y, xs[3]? = some y := ⟨xs[3], by simp [hx]⟩
  obtain ⟨y4, hy4⟩ : ∃ y, xs[4]? = some y := ⟨xs[4], by simp [hx]⟩
  rw [hy0, cells1i] at f0
  rw [hy1, cells1i] at f1
  rw [hy2, cells1i] at f2
  rw [hy3, cells1s] at f3
  rw [hy4, cells1p] at f4
  have g0 : DataW.trod enc Tryd.prog w base spare held m 3 [c0] = some y0 := f0
  have g1 : DataW.trod enc Tryd.prog w base spare held m 3 [c1] = some y1 := f1
  have g2 : DataW.trod enc Tryd.prog w base spare held m 3 [c2] = some y2 := f2
  have g3 : DataW.trod enc Tryd.prog w base spare held m 9 [c3] = some y3 := f3
  have g4 : DataW.trod enc Tryd.prog w base spare held m 36 [c4] = some y4 := f4
  obtain ⟨id, e0, _, _⟩ := DataW.trod_int Tryd.underlying3 g0
  obtain ⟨frm, e1, _, _⟩ := DataW.trod_int Tryd.underlying3 g1
  obtain ⟨dst, e2, _, _⟩ := DataW.trod_int Tryd.underlying3 g2
  obtain ⟨typ, e3, _, ws⟩ := DataW.trod_string Tryd.underlying9 g3
  obtain ⟨pa, pl, pc, rfl⟩ := slice_form Tryd.underlying36 g4
  simp only [List.cons.injEq, and_true] at e0 e1 e2 e3
  subst e0 e1 e2 e3
  exact ⟨id, frm, dst, typ, pa, pl, pc, m, y4, rfl, ws, g4⟩

theorem nodes_in (B : Nat) (hB : B ≤ w.heap.size) (hT : Tabs B w) {fuel : Nat} {a : Option Addr} {l c : Nat} {y : DataW H × List MemPlace} (h : DataW.trod enc Tryd.prog w base spare held fuel 53 [.slice a l c] = some y) : ∃ N, NodesAt w N a l ∧ ∀ x ∈ N, NdOk w x := by
  obtain ⟨h1, h2, h3⟩ := slice_rows Tryd.underlying53 cells3n (by omega) h
  by_cases h0 : l = 0
  · subst h0
    exact ⟨[], ⟨rfl, by omega, fun h => absurd h (Nat.lt_irrefl _)⟩, fun p hp => by cases hp⟩
  · obtain ⟨b, off, ha, hb, hall⟩ := h3 (by omega)
    obtain ⟨L, hl, hL⟩ := list_of (fun i (x : Nd) => (w.cell? ⟨b, off + i * 3, none⟩ = some (.int .i64 x.id) ∧ w.cell? ⟨b, off + i * 3 + 1, none⟩ = some (.slice x.la x.ll x.lc) ∧ w.cell? ⟨b, off + i * 3 + 1 + 1, none⟩ = some (.slice x.pa x.pl x.pc)) ∧ NdOk w x) l (fun i hi => by
      obtain ⟨m, cs, z, q1, q2, q3⟩ := hall i hi
      obtain ⟨id, la, ll, lc, pa, pl, pc, m', y1, y2, rfl, g1, g2⟩ := trod_node q3
      obtain ⟨_, LL, hLL⟩ := strs_in g1
      obtain ⟨_, P, hP, hO⟩ := props_in B hB hT g2
      exact ⟨⟨id, LL, la, ll, lc, P, pa, pl, pc⟩, ⟨q2 0 _ rfl, q2 1 _ rfl, q2 2 _ rfl⟩, hLL, hP, hO⟩)
    refine ⟨L, ⟨hl.symm, h2, fun _ => ⟨b, off, ha, hb, fun i p hp => (hL i p hp).1⟩⟩, fun p hp => ?_⟩
    obtain ⟨i, hi⟩ := List.getElem?_of_mem hp
    exact (hL i p hi).2

theorem edges_in (B : Nat) (hB : B ≤ w.heap.size) (hT : Tabs B w) {fuel : Nat} {a : Option Addr} {l c : Nat} {y : DataW H × List MemPlace} (h : DataW.trod enc Tryd.prog w base spare held fuel 54 [.slice a l c] = some y) : ∃ E, EdgesAt w E a l ∧ ∀ x ∈ E, EdOk w x := by
  have hm : maxLen ≤ 9223372036854775807 := by unfold maxLen; decide
  obtain ⟨h1, h2, h3⟩ := slice_rows Tryd.underlying54 cells5e (by omega) h
  by_cases h0 : l = 0
  · subst h0
    exact ⟨[], ⟨rfl, by omega, fun h => absurd h (Nat.lt_irrefl _)⟩, fun p hp => by cases hp⟩
  · obtain ⟨b, off, ha, hb, hall⟩ := h3 (by omega)
    obtain ⟨L, hl, hL⟩ := list_of (fun i (x : Ed) => (x.typ.size ≤ 9223372036854775807 ∧ w.cell? ⟨b, off + i * 5, none⟩ = some (.int .i64 x.id) ∧ w.cell? ⟨b, off + i * 5 + 1, none⟩ = some (.int .i64 x.frm) ∧ w.cell? ⟨b, off + i * 5 + 1 + 1, none⟩ = some (.int .i64 x.dst) ∧ w.cell? ⟨b, off + i * 5 + 1 + 1 + 1, none⟩ = some (.string x.typ) ∧ w.cell? ⟨b, off + i * 5 + 1 + 1 + 1 + 1, none⟩ = some (.slice x.pa x.pl x.pc)) ∧ EdOk w x) l (fun i hi => by
      obtain ⟨m, cs, z, q1, q2, q3⟩ := hall i hi
      obtain ⟨id, frm, dst, typ, pa, pl, pc, m', y2, rfl, ht, g2⟩ := trod_edge q3
      obtain ⟨_, P, hP, hO⟩ := props_in B hB hT g2
      exact ⟨⟨id, frm, dst, typ, P, pa, pl, pc⟩, ⟨by show typ.size ≤ _; omega, q2 0 _ rfl, q2 1 _ rfl, q2 2 _ rfl, q2 3 _ rfl, q2 4 _ rfl⟩, hP, hO⟩)
    refine ⟨L, ⟨hl.symm, h2, fun _ => ⟨b, off, ha, hb, fun i p hp => (hL i p hp).1⟩⟩, fun p hp => ?_⟩
    obtain ⟨i, hi⟩ := List.getElem?_of_mem hp
    exact (hL i p hi).2

theorem graph_in (B : Nat) (hB : B ≤ w.heap.size) (hT : Tabs B w) {fuel : Nat} {cs : List Value} {x : DataW H × List MemPlace} (h : DataW.trod enc Tryd.prog w base spare held fuel 56 cs = some x) :
    ∃ na nl nc ea el ec nx, cs = [.slice na nl nc, .slice ea el ec, .int .i64 nx] ∧ (Lit.int .i64 nx).wf = true ∧ ∃ N E, GrOk w N E na nl ea el := by
  obtain ⟨xs, m, rfl, rfl, hlen, hxs, hf⟩ := DataW.trod_struct Tryd.underlying56 h
  rw [cells3g] at hlen
  obtain ⟨c0, c1, c2, rfl⟩ := len3 hlen
  have f0 : DataW.trod enc Tryd.prog w base spare held m 53 (([c0, c1, c2].drop 0).take (Tryd.prog.cellsOf 53)) = xs[0]? := hf 0 _ rfl
  have f1 : DataW.trod enc Tryd.prog w base spare held m 54 (([c0, c1, c2].drop 1).take (Tryd.prog.cellsOf 54)) = xs[1]? := hf 1 _ rfl
  have f2 : DataW.trod enc Tryd.prog w base spare held m 3 (([c0, c1, c2].drop 2).take (Tryd.prog.cellsOf 3)) = xs[2]? := hf 2 _ rfl
  have hx : xs.length = 3 := hxs
  obtain ⟨y0, hy0⟩ : ∃ y, xs[0]? = some y := ⟨xs[0], by simp [hx]⟩
  obtain ⟨y1, hy1⟩ : ∃ y, xs[1]? = some y := ⟨xs[1], by simp [hx]⟩
  obtain ⟨y2, hy2⟩ : ∃ y, xs[2]? = some y := ⟨xs[2], by simp [hx]⟩
  rw [hy0, cells1n] at f0
  rw [hy1, cells1e] at f1
  rw [hy2, cells1i] at f2
  have g0 : DataW.trod enc Tryd.prog w base spare held m 53 [c0] = some y0 := f0
  have g1 : DataW.trod enc Tryd.prog w base spare held m 54 [c1] = some y1 := f1
  have g2 : DataW.trod enc Tryd.prog w base spare held m 3 [c2] = some y2 := f2
  obtain ⟨nx, e2, _, wx⟩ := DataW.trod_int Tryd.underlying3 g2
  obtain ⟨na, nl, nc, rfl⟩ := slice_form Tryd.underlying53 g0
  obtain ⟨ea, el, ec, rfl⟩ := slice_form Tryd.underlying54 g1
  simp only [List.cons.injEq, and_true] at e2
  subst e2
  obtain ⟨N, hN, hN2⟩ := nodes_in B hB hT g0
  obtain ⟨E, hE, hE2⟩ := edges_in B hB hT g1
  exact ⟨na, nl, nc, ea, el, ec, nx, rfl, wx, N, E, hN, hE, hN2, hE2⟩
end
end Go.Proofs.YtldpionmmplncaaDoor
