/-
  What is proved here: nodes, edges and graphs that read as data of their types lie in memory as such, as plain data.
-/
import Derived.Test.YtlhagimfbdkdfaaDoorGOpen
namespace Go.Proofs.YtlhagimfbdkdfaaDoor
open Go.RowKit
set_option linter.unusedVariables false

def NdOk (w : World) (x : Nd) : Prop := StrsAt w x.labs x.la x.ll ∧ PropsAt w x.props x.pa x.pl ∧ ∀ p ∈ x.props, PrOk w p
def EdOk (w : World) (x : Ed) : Prop := PropsAt w x.props x.pa x.pl ∧ ∀ p ∈ x.props, PrOk w p

/-- A graph lies in memory. -/
def GrOk (w : World) (N : List Nd) (E : List Ed) (na : Option Addr) (nl : Nat) (ea : Option Addr) (el : Nat) : Prop := NodesAt w N na nl ∧ EdgesAt w E ea el ∧ (∀ x ∈ N, NdOk w x) ∧ (∀ x ∈ E, EdOk w x)

theorem GrOk.below {w w' : World} (k : Below w.heap.size w w') {N : List Nd} {E : List Ed} {na : Option Addr} {nl : Nat} {ea : Option Addr} {el : Nat} (h : GrOk w N E na nl ea el) : GrOk w' N E na nl ea el :=
  ⟨h.1.below k, h.2.1.below k, fun x hx => ⟨(h.2.2.1 x hx).1.below k, (h.2.2.1 x hx).2.1.below k, fun p hp => ((h.2.2.1 x hx).2.2 p hp).below k⟩, fun x hx => ⟨(h.2.2.2 x hx).1.below k, fun p hp => ((h.2.2.2 x hx).2 p hp).below k⟩⟩

section
variable {H : Type} {enc : TypeId × Value → H} {w : World} {base : Nat} {spare : Nat → Bool} {held : Bool}

theorem trod_node {fuel : Nat} {cs : List Value} {x : DataW H × List MemPlace} (h : DataW.trod enc Tryd.prog w base spare held fuel 36 cs = some x) :
    ∃ id la ll lc pa pl pc m y1 y2, cs = [.int .i64 id, .slice la ll lc, .slice pa pl pc] ∧ DataW.trod enc Tryd.prog w base spare held m 33 [.slice la ll lc] = some y1 ∧ DataW.trod enc Tryd.prog w base spare held m 34 [.slice pa pl pc] = some y2 := by
  obtain ⟨xs, m, rfl, rfl, hlen, hxs, hf⟩ := DataW.trod_struct Tryd.underlying36 h
  rw [cells3n] at hlen
  obtain ⟨c0, c1, c2, rfl⟩ := len3 hlen
  have f0 : DataW.trod enc Tryd.prog w base spare held m 3 (([c0, c1, c2].drop 0).take (Tryd.prog.cellsOf 3)) = xs[0]? := hf 0 _ rfl
  have f1 : DataW.trod enc Tryd.prog w base spare held m 33 (([c0, c1, c2].drop 1).take (Tryd.prog.cellsOf 33)) = xs[1]? := hf 1 _ rfl
  have f2 : DataW.trod enc Tryd.prog w base spare held m 34 (([c0, c1, c2].drop 2).take (Tryd.prog.cellsOf 34)) = xs[2]? := hf 2 _ rfl
  have hx : xs.length = 3 := hxs
  obtain ⟨y0, hy0⟩ : ∃ y, xs[0]? = some y := ⟨xs[0], by simp [hx]⟩
  obtain ⟨y1, hy1⟩ : ∃ y, xs[1]? = some y := ⟨xs[1], by simp [hx]⟩
  obtain ⟨y2, hy2⟩ : ∃ y, xs[2]? = some y := ⟨xs[2], by simp [hx]⟩
  rw [hy0, cells1i] at f0
  rw [hy1, cells1t] at f1
  rw [hy2, cells1p] at f2
  have g0 : DataW.trod enc Tryd.prog w base spare held m 3 [c0] = some y0 := f0
  have g1 : DataW.trod enc Tryd.prog w base spare held m 33 [c1] = some y1 := f1
  have g2 : DataW.trod enc Tryd.prog w base spare held m 34 [c2] = some y2 := f2
  obtain ⟨id, e0, _, _⟩ := DataW.trod_int Tryd.underlying3 g0
  obtain ⟨la, ll, lc, rfl⟩ := slice_form Tryd.underlying33 g1
  obtain ⟨pa, pl, pc, rfl⟩ := slice_form Tryd.underlying34 g2
  simp only [List.cons.injEq, and_true] at e0
  subst e0
  exact ⟨id, la, ll, lc, pa, pl, pc, m, y1, y2, rfl, g1, g2⟩

theorem trod_edge {fuel : Nat} {cs : List Value} {x : DataW H × List MemPlace} (h : DataW.trod enc Tryd.prog w base spare held fuel 42 cs = some x) :
    ∃ id frm dst typ pa pl pc m y, cs = [.int .i64 id, .int .i64 frm, .int .i64 dst, .string typ, .slice pa pl pc] ∧ typ.size ≤ maxLen ∧ DataW.trod enc Tryd.prog w base spare held m 34 [.slice pa pl pc] = some y := by
  obtain ⟨xs, m, rfl, rfl, hlen, hxs, hf⟩ := DataW.trod_struct Tryd.underlying42 h
  rw [cells5e] at hlen
  obtain ⟨c0, c1, c2, c3, c4, rfl⟩ := len5 hlen
  have f0 : DataW.trod enc Tryd.prog w base spare held m 3 (([c0, c1, c2, c3, c4].drop 0).take (Tryd.prog.cellsOf 3)) = xs[0]? := hf 0 _ rfl
  have f1 : DataW.trod enc Tryd.prog w base spare held m 3 (([c0, c1, c2, c3, c4].drop 1).take (Tryd.prog.cellsOf 3)) = xs[1]? := hf 1 _ rfl
  have f2 : DataW.trod enc Tryd.prog w base spare held m 3 (([c0, c1, c2, c3, c4].drop 2).take (Tryd.prog.cellsOf 3)) = xs[2]? := hf 2 _ rfl
  have f3 : DataW.trod enc Tryd.prog w base spare held m 9 (([c0, c1, c2, c3, c4].drop 3).take (Tryd.prog.cellsOf 9)) = xs[3]? := hf 3 _ rfl
  have f4 : DataW.trod enc Tryd.prog w base spare held m 34 (([c0, c1, c2, c3, c4].drop 4).take (Tryd.prog.cellsOf 34)) = xs[4]? := hf 4 _ rfl
  have hx : xs.length = 5 := hxs
  obtain ⟨y0, hy0⟩ : ∃ y, xs[0]? = some y := ⟨xs[0], by simp [hx]⟩
  obtain ⟨y1, hy1⟩ : ∃ y, xs[1]? = some y := ⟨xs[1], by simp [hx]⟩
  obtain ⟨y2, hy2⟩ : ∃ y, xs[2]? = some y := ⟨xs[2], by simp [hx]⟩
  obtain ⟨y3, hy3⟩ : ∃ y, xs[3]? = some y := ⟨xs[3], by simp [hx]⟩
  obtain ⟨y4, hy4⟩ : ∃ y, xs[4]? = some y := ⟨xs[4], by simp [hx]⟩
  rw [hy0, cells1i] at f0
  rw [hy1, cells1i] at f1
  rw [hy2, cells1i] at f2
  rw [hy3, cells1s] at f3
  rw [hy4, cells1p] at f4
  have g0 : DataW.trod enc Tryd.prog w base spare held m 3 [c0] = some y0 := f0
  have g1 : DataW.trod enc Tryd.prog w base spare held m 3 [c1] = some y1 := f1
  have g2 : DataW.trod enc Tryd.prog w base spare held m 3 [c2] = some y2 := f2
  have g3 : DataW.trod enc Tryd.prog w base spare held m 9 [c3] = some y3 := f3
  have g4 : DataW.trod enc Tryd.prog w base spare held m 34 [c4] = some y4 := f4
  obtain ⟨id, e0, _, _⟩ := DataW.trod_int Tryd.underlying3 g0
  obtain ⟨frm, e1, _, _⟩ := DataW.trod_int Tryd.underlying3 g1
  obtain ⟨dst, e2, _, _⟩ := DataW.trod_int Tryd.underlying3 g2
  obtain ⟨typ, e3, _, ws⟩ := DataW.trod_string Tryd.underlying9 g3
  obtain ⟨pa, pl, pc, rfl⟩ := slice_form Tryd.underlying34 g4
  simp only [List.cons.injEq, and_true] at e0 e1 e2 e3
  subst e0 e1 e2 e3
  exact ⟨id, frm, dst, typ, pa, pl, pc, m, y4, rfl, ws, g4⟩

theorem nodes_in (B : Nat) (hB : B ≤ w.heap.size) (hT : Tabs B w) {fuel : Nat} {a : Option Addr} {l c : Nat} {y : DataW H × List MemPlace} (h : DataW.trod enc Tryd.prog w base spare held fuel 22 [.slice a l c] = some y) : ∃ N, NodesAt w N a l ∧ ∀ x ∈ N, NdOk w x := by
  obtain ⟨h1, h2, h3⟩ := slice_rows Tryd.underlying22 cells3n (by omega) h
  by_cases h0 : l = 0
  · subst h0
    exact ⟨[], ⟨rfl, by omega, fun h => absurd h (Nat.lt_irrefl _)⟩, fun p hp => by cases hp⟩
  · obtain ⟨b, off, ha, hb, hall⟩ := h3 (by omega)
    obtain ⟨L, hl, hL⟩ := list_of (fun i (x : Nd) => (w.cell? ⟨b, off + i * 3, none⟩ = some (.int .i64 x.id) ∧ w.cell? ⟨b, off + i * 3 + 1, none⟩ = some (.slice x.la x.ll x.lc) ∧ w.cell? ⟨b, off + i * 3 + 1 + 1, none⟩ = some (.slice x.pa x.pl x.pc)) ∧ NdOk w x) l (fun i hi => by
      obtain ⟨m, cs, z, q1, q2, q3⟩ := hall i hi
      obtain ⟨id, la, ll, lc, pa, pl, pc, m', y1, y2, rfl, g1, g2⟩ := trod_node q3
      obtain ⟨_, LL, hLL⟩ := strs_in g1
      obtain ⟨_, P, hP, hO⟩ := props_in B hB hT g2
      exact ⟨⟨id, LL, la, ll, lc, P, pa, pl, pc⟩, ⟨q2 0 _ rfl, q2 1 _ rfl, q2 2 _ rfl⟩, hLL, hP, hO⟩)
    refine ⟨L, ⟨hl.symm, h2, fun _ => ⟨b, off, ha, hb, fun i p hp => (hL i p hp).1⟩⟩, fun p hp => ?_⟩
    obtain ⟨i, hi⟩ := List.getElem?_of_mem hp
    exact (hL i p hi).2

theorem edges_in (B : Nat) (hB : B ≤ w.heap.size) (hT : Tabs B w) {fuel : Nat} {a : Option Addr} {l c : Nat} {y : DataW H × List MemPlace} (h : DataW.trod enc Tryd.prog w base spare held fuel 23 [.slice a l c] = some y) : ∃ E, EdgesAt w E a l ∧ ∀ x ∈ E, EdOk w x := by
  have hm : maxLen ≤ 9223372036854775807 := by unfold maxLen; decide
  obtain ⟨h1, h2, h3⟩ := slice_rows Tryd.underlying23 cells5e (by omega) h
  by_cases h0 : l = 0
  · subst h0
    exact ⟨[], ⟨rfl, by omega, fun h => absurd h (Nat.lt_irrefl _)⟩, fun p hp => by cases hp⟩
  · obtain ⟨b, off, ha, hb, hall⟩ := h3 (by omega)
    obtain ⟨L, hl, hL⟩ := list_of (fun i (x : Ed) => (x.typ.size ≤ 9223372036854775807 ∧ w.cell? ⟨b, off + i * 5, none⟩ = some (.int .i64 x.id) ∧ w.cell? ⟨b, off + i * 5 + 1, none⟩ = some (.int .i64 x.frm) ∧ w.cell? ⟨b, off + i * 5 + 1 + 1, none⟩ = some (.int .i64 x.dst) ∧ w.cell? ⟨b, off + i * 5 + 1 + 1 + 1, none⟩ = some (.string x.typ) ∧ w.cell? ⟨b, off + i * 5 + 1 + 1 + 1 + 1, none⟩ = some (.slice x.pa x.pl x.pc)) ∧ EdOk w x) l (fun i hi => by
      obtain ⟨m, cs, z, q1, q2, q3⟩ := hall i hi
      obtain ⟨id, frm, dst, typ, pa, pl, pc, m', y2, rfl, ht, g2⟩ := trod_edge q3
      obtain ⟨_, P, hP, hO⟩ := props_in B hB hT g2
      exact ⟨⟨id, frm, dst, typ, P, pa, pl, pc⟩, ⟨by show typ.size ≤ _; omega, q2 0 _ rfl, q2 1 _ rfl, q2 2 _ rfl, q2 3 _ rfl, q2 4 _ rfl⟩, hP, hO⟩)
    refine ⟨L, ⟨hl.symm, h2, fun _ => ⟨b, off, ha, hb, fun i p hp => (hL i p hp).1⟩⟩, fun p hp => ?_⟩
    obtain ⟨i, hi⟩ := List.getElem?_of_mem hp
    exact (hL i p hi).2

theorem graph_in (B : Nat) (hB : B ≤ w.heap.size) (hT : Tabs B w) {fuel : Nat} {cs : List Value} {x : DataW H × List MemPlace} (h : DataW.trod enc Tryd.prog w base spare held fuel 25 cs = some x) :
    ∃ na nl nc ea el ec nx, cs = [.slice na nl nc, .slice ea el ec, .int .i64 nx] ∧ (Lit.int .i64 nx).wf = true ∧ ∃ N E, GrOk w N E na nl ea el := by
  obtain ⟨xs, m, rfl, rfl, hlen, hxs, hf⟩ := DataW.trod_struct Tryd.underlying25 h
  rw [cells3g] at hlen
  obtain ⟨c0, c1, c2, rfl⟩ := len3 hlen
  have f0 : DataW.trod enc Tryd.prog w base spare held m 22 (([c0, c1, c2].drop 0).take (Tryd.prog.cellsOf 22)) = xs[0]? := hf 0 _ rfl
  have f1 : DataW.trod enc Tryd.prog w base spare held m 23 (([c0, c1, c2].drop 1).take (Tryd.prog.cellsOf 23)) = xs[1]? := hf 1 _ rfl
  have f2 : DataW.trod enc Tryd.prog w base spare held m 3 (([c0, c1, c2].drop 2).take (Tryd.prog.cellsOf 3)) = xs[2]? := hf 2 _ rfl
  have hx : xs.length = 3 := hxs
  obtain ⟨y0, hy0⟩ : ∃ y, xs[0]? = some y := ⟨xs[0], by simp [hx]⟩
  obtain ⟨y1, hy1⟩ : ∃ y, xs[1]? = some y := ⟨xs[1], by simp [hx]⟩
  obtain ⟨y2, hy2⟩ : ∃ y, xs[2]? = some y := ⟨xs[2], by simp [hx]⟩
  rw [hy0, cells1n] at f0
  rw [hy1, cells1e] at f1
  rw [hy2, cells1i] at f2
  have g0 : DataW.trod enc Tryd.prog w base spare held m 22 [c0] = some y0 := f0
  have g1 : DataW.trod enc Tryd.prog w base spare held m 23 [c1] = some y1 := f1
  have g2 : DataW.trod enc Tryd.prog w base spare held m 3 [c2] = some y2 := f2
  obtain ⟨nx, e2, _, wx⟩ := DataW.trod_int Tryd.underlying3 g2
  obtain ⟨na, nl, nc, rfl⟩ := slice_form Tryd.underlying22 g0
  obtain ⟨ea, el, ec, rfl⟩ := slice_form Tryd.underlying23 g1
  simp only [List.cons.injEq, and_true] at e2
  subst e2
  obtain ⟨N, hN, hN2⟩ := nodes_in B hB hT g0
  obtain ⟨E, hE, hE2⟩ := edges_in B hB hT g1
  exact ⟨na, nl, nc, ea, el, ec, nx, rfl, wx, N, E, hN, hE, hN2, hE2⟩
end
end Go.Proofs.YtlhagimfbdkdfaaDoor
