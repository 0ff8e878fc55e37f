/-
  What is proved here: what the texts GtArg, GLaid prove, in one text.
-/
import Derived.Test.YthikpmngcbgbfaaDoorQGAM
import Derived.Test.YthikpmngcbgbfaaDoorQGAE
import Derived.Test.YthikpmngcbgbfaaDoorQGAA
import Derived.Test.YthikpmngcbgbfaaDoorShelf
import Derived.PinnedBridge
import Derived.Lib.LaidU8T
import Derived.Lib.LaidTab
import Derived.Lay
namespace Go.Proofs.YthikpmngcbgbfaaDoor
open Go.RowKit
set_option linter.unusedVariables false

set_option linter.unusedSimpArgs false

section
variable {H : Type} {enc : TypeId × Value → H} {w : World} {base : Nat} {spare : Nat → Bool} {held : Bool}

theorem cells2gt : Tryd.prog.cellsOf 54 = 2 := by kernel_rfl

theorem len2gt {cs : List Value} (h : cs.length = 2) : ∃ c0 c1, cs = [c0, c1] := by
  match cs, h with
  | [c0, c1], _ => exact ⟨c0, c1, rfl⟩

theorem trod_grant {fuel : Nat} {cs : List Value} {x : DataW H × List MemPlace} (h : DataW.trod enc Tryd.prog w base spare held fuel 54 cs = some x) :
    ∃ who la ll lc m y1, cs = [.string who, .slice la ll lc] ∧ who.size ≤ maxLen ∧ DataW.trod enc Tryd.prog w base spare held m 30 [.slice la ll lc] = some y1 := by
  obtain ⟨xs, m, rfl, rfl, hlen, hxs, hf⟩ := DataW.trod_struct Tryd.underlying54 h
  rw [cells2gt] at hlen
  obtain ⟨c0, c1, rfl⟩ := len2gt hlen
  have f0 : DataW.trod enc Tryd.prog w base spare held m 9 (([c0, c1].drop 0).take (Tryd.prog.cellsOf 9)) = xs[0]? := hf 0 _ rfl
  have f1 : DataW.trod enc Tryd.prog w base spare held m 30 (([c0, c1].drop 1).take (Tryd.prog.cellsOf 30)) = xs[1]? := hf 1 _ rfl
  have hx : xs.length = 2 := hxs
  obtain ⟨y0, hy0⟩ : ∃ y, xs[0]? = some y := ⟨xs[0], by simp [hx]⟩
  obtain ⟨y1, hy1⟩ : ∃ y, xs[1]? = some y := ⟨xs[1], by simp [hx]⟩
  rw [hy0, cells1s] at f0
  rw [hy1, cells1t] at f1
  have g0 : DataW.trod enc Tryd.prog w base spare held m 9 [c0] = some y0 := f0
  have g1 : DataW.trod enc Tryd.prog w base spare held m 30 [c1] = some y1 := f1
  obtain ⟨who, e0, _, w0⟩ := DataW.trod_string Tryd.underlying9 g0
  obtain ⟨la, ll, lc, rfl⟩ := slice_form Tryd.underlying30 g1
  simp only [List.cons.injEq, and_true] at e0
  subst e0
  exact ⟨who, la, ll, lc, m, y1, rfl, w0, g1⟩

theorem grants_in {fuel : Nat} {a : Option Addr} {l c : Nat} {y : DataW H × List MemPlace} (h : DataW.trod enc Tryd.prog w base spare held fuel 22 [.slice a l c] = some y) : l ≤ c ∧ ∃ L, GtsOk w L a l := by
  have hm : maxLen ≤ 9223372036854775807 := by unfold maxLen; decide
  obtain ⟨h1, h2, h3⟩ := slice_rows Tryd.underlying22 cells2gt (by omega) h
  refine ⟨h1, ?_⟩
  by_cases h0 : l = 0
  · subst h0
    exact ⟨[], ⟨rfl, by omega, fun h => absurd h (Nat.lt_irrefl _)⟩, fun p hp => (by cases hp)⟩
  · obtain ⟨b, off, ha, hb, hall⟩ := h3 (by omega)
    obtain ⟨L, hl, hL⟩ := list_of (fun i (x : Gt) => (x.who.size ≤ 9223372036854775807 ∧ w.cell? ⟨b, off + i * 2, none⟩ = some (.string x.who) ∧ w.cell? ⟨b, off + i * 2 + 1, none⟩ = some (.slice x.la x.ll x.lc)) ∧ StrsAt w x.labs x.la x.ll) l (fun i hi => by
      obtain ⟨m, cs, z, q1, q2, q3⟩ := hall i hi
      obtain ⟨who, la, ll, lc, m', y1, rfl, w0, g1⟩ := trod_grant q3
      obtain ⟨_, LL, hLL⟩ := strs_in g1
      exact ⟨⟨who, LL, la, ll, lc⟩, ⟨by show who.size ≤ _; omega, q2 0 _ rfl, q2 1 _ rfl⟩, hLL⟩)
    refine ⟨L, ⟨hl.symm, h2, fun _ => ⟨b, off, ha, hb, fun i p hp => (hL i p hp).1⟩⟩, fun p hp => ?_⟩
    obtain ⟨i, hi⟩ := List.getElem?_of_mem hp
    exact (hL i p hi).2

theorem cells11g : Tryd.prog.cellsOf 42 = 11 := by kernel_rfl

theorem len11g {cs : List Value} (h : cs.length = 11) : ∃ c0 c1 c2 c3 c4 c5 c6 c7 c8 c9 c10, cs = [c0, c1, c2, c3, c4, c5, c6, c7, c8, c9, c10] := by
  match cs, h with
  | [c0, c1, c2, c3, c4, c5, c6, c7, c8, c9, c10], _ => exact ⟨c0, c1, c2, c3, c4, c5, c6, c7, c8, c9, c10, rfl⟩

/-- An operation that reads: its cells, and its labels in memory. -/
theorem op_inG {fuel : Nat} {cs : List Value} {x : DataW H × List MemPlace} (h : DataW.trod enc Tryd.prog w base spare held fuel 42 cs = some x) :
    ∃ (k id frm dst : Int) (name : ByteArray) (vk vn : Int) (vs : ByteArray) (va : Option Addr) (vl vc : Nat) (la : Option Addr) (ll lc : Nat) (pa : Option Addr) (pl pc : Nat), cs = [.int .i64 k, .int .i64 id, .int .i64 frm, .int .i64 dst, .string name, .int .i64 vk, .int .i64 vn, .string vs, .slice va vl vc, .slice la ll lc, .slice pa pl pc] ∧ ∃ L, StrsAt w L la ll := by
  obtain ⟨xs, m, rfl, rfl, hlen, hxs, hf⟩ := DataW.trod_struct Tryd.underlying42 h
  rw [cells11g] at hlen
  obtain ⟨c0, c1, c2, c3, c4, c5, c6, c7, c8, c9, c10, rfl⟩ := len11g hlen
  have f0 : DataW.trod enc Tryd.prog w base spare held m 3 (([c0, c1, c2, c3, c4, c5, c6, c7, c8, c9, c10].drop 0).take (Tryd.prog.cellsOf 3)) = xs[0]? := hf 0 _ rfl
  have f1 : DataW.trod enc Tryd.prog w base spare held m 3 (([c0, c1, c2, c3, c4, c5, c6, c7, c8, c9, c10].drop 1).take (Tryd.prog.cellsOf 3)) = xs[1]? := hf 1 _ rfl
  have f2 : DataW.trod enc Tryd.prog w base spare held m 3 (([c0, c1, c2, c3, c4, c5, c6, c7, c8, c9, c10].drop 2).take (Tryd.prog.cellsOf 3)) = xs[2]? := hf 2 _ rfl
  have f3 : DataW.trod enc Tryd.prog w base spare held m 3 (([c0, c1, c2, c3, c4, c5, c6, c7, c8, c9, c10].drop 3).take (Tryd.prog.cellsOf 3)) = xs[3]? := hf 3 _ rfl
  have f4 : DataW.trod enc Tryd.prog w base spare held m 9 (([c0, c1, c2, c3, c4, c5, c6, c7, c8, c9, c10].drop 4).take (Tryd.prog.cellsOf 9)) = xs[4]? := hf 4 _ rfl
  have f5 : DataW.trod enc Tryd.prog w base spare held m 39 (([c0, c1, c2, c3, c4, c5, c6, c7, c8, c9, c10].drop 5).take (Tryd.prog.cellsOf 39)) = xs[5]? := hf 5 _ rfl
  have f6 : DataW.trod enc Tryd.prog w base spare held m 30 (([c0, c1, c2, c3, c4, c5, c6, c7, c8, c9, c10].drop 9).take (Tryd.prog.cellsOf 30)) = xs[6]? := hf 6 _ rfl
  have f7 : DataW.trod enc Tryd.prog w base spare held m 40 (([c0, c1, c2, c3, c4, c5, c6, c7, c8, c9, c10].drop 10).take (Tryd.prog.cellsOf 40)) = xs[7]? := hf 7 _ rfl
  have hx : xs.length = 8 := hxs
  obtain ⟨y0, hy0⟩ : ∃ y, xs[0]? = some y := ⟨xs[0], by simp [hx]⟩
  obtain ⟨y1, hy1⟩ : ∃ y, xs[1]? = some y := ⟨xs[1], by simp [hx]⟩
  obtain ⟨y2, hy2⟩ : ∃ y, xs[2]? = some y := ⟨xs[2], by simp [hx]⟩
  obtain ⟨y3, hy3⟩ : ∃ y, xs[3]? = some y := ⟨xs[3], by simp [hx]⟩
  obtain ⟨y4, hy4⟩ : ∃ y, xs[4]? = some y := ⟨xs[4], by simp [hx]⟩
  obtain ⟨y5, hy5⟩ : ∃ y, xs[5]? = some y := ⟨xs[5], by simp [hx]⟩
  obtain ⟨y6, hy6⟩ : ∃ y, xs[6]? = some y := ⟨xs[6], by simp [hx]⟩
  obtain ⟨y7, hy7⟩ : ∃ y, xs[7]? = some y := ⟨xs[7], by simp [hx]⟩
  rw [hy0, cells1i] at f0
  rw [hy1, cells1i] at f1
  rw [hy2, cells1i] at f2
  rw [hy3, cells1i] at f3
  rw [hy4, cells1s] at f4
  rw [hy5, cells4] at f5
  rw [hy6, cells1t] at f6
  rw [hy7, cells1p] at f7
  have g0 : DataW.trod enc Tryd.prog w base spare held m 3 [c0] = some y0 := f0
  have g1 : DataW.trod enc Tryd.prog w base spare held m 3 [c1] = some y1 := f1
  have g2 : DataW.trod enc Tryd.prog w base spare held m 3 [c2] = some y2 := f2
  have g3 : DataW.trod enc Tryd.prog w base spare held m 3 [c3] = some y3 := f3
  have g4 : DataW.trod enc Tryd.prog w base spare held m 9 [c4] = some y4 := f4
  have g5 : DataW.trod enc Tryd.prog w base spare held m 39 [c5, c6, c7, c8] = some y5 := f5
  have g6 : DataW.trod enc Tryd.prog w base spare held m 30 [c9] = some y6 := f6
  have g7 : DataW.trod enc Tryd.prog w base spare held m 40 [c10] = some y7 := f7
  obtain ⟨k, e0, _, _⟩ := DataW.trod_int Tryd.underlying3 g0
  obtain ⟨id, e1, _, w1⟩ := DataW.trod_int Tryd.underlying3 g1
  obtain ⟨frm, e2, _, w2⟩ := DataW.trod_int Tryd.underlying3 g2
  obtain ⟨dst, e3, _, w3⟩ := DataW.trod_int Tryd.underlying3 g3
  obtain ⟨name, e4, _, w4⟩ := DataW.trod_string Tryd.underlying9 g4
  obtain ⟨vk, vn, vs, va, vl, vc, m', y, e5, wk, wn, hs, _, hy⟩ := trod_value g5
  obtain ⟨la, ll, lc, rfl⟩ := slice_form Tryd.underlying30 g6
  obtain ⟨pa, pl, pc, rfl⟩ := slice_form Tryd.underlying40 g7
  simp only [List.cons.injEq, and_true] at e0 e1 e2 e3 e4 e5
  obtain ⟨rfl, rfl, rfl, rfl⟩ := e5
  subst e0 e1 e2 e3 e4
  obtain ⟨_, LL, hLL⟩ := strs_in g6
  exact ⟨k, id, frm, dst, name, vk, vn, vs, va, vl, vc, la, ll, lc, pa, pl, pc, rfl, LL, hLL⟩
end

open Go.RowKit Go.Lib
set_option linter.unusedVariables false

theorem accept_eq : (Rows.laid_unicode_utf8_acceptRanges : DataW Unit) = acceptData := by kernel_rfl
theorem first_eq : (Rows.laid_unicode_utf8_first : DataW Unit) = firstData := Pinned.utf8First_eq

theorem u8extra : U8Extra Tryd.prog Tryd.lays196_ren := ⟨by kernel_rfl, by kernel_rfl, by kernel_rfl, by kernel_rfl, by kernel_rfl, by kernel_rfl, by kernel_rfl⟩

theorem tabs_of {l : List (String × DataW Unit)} (hf : ("unicode/utf8.first", Rows.laid_unicode_utf8_first) ∈ l) (ha : ("unicode/utf8.acceptRanges", Rows.laid_unicode_utf8_acceptRanges) ∈ l) {W : World} (h : laidMet Tryd.prog l W) : Tabs W.heap.size W := by
  have h0 : Lib.Utf8Tabs 0 1 W := utf8Tabs_of_readsT (U8Types.of196 Tryd.lays196) u8extra
    (first_eq ▸ Lib.laidMet.reads h hf)
    (accept_eq ▸ Lib.laidMet.reads h ha)
  have b0 : 0 < W.heap.size := World.block_lt_of_cell? W _ (h0.1 0 (by decide))
  have b1 : 1 < W.heap.size := World.block_lt_of_cell? W _ (h0.2 0 (by decide)).1
  intro w' hb
  refine ⟨fun c hc => ?_, fun i hi => ⟨?_, ?_⟩⟩
  · rw [hb.cell (p := ⟨0, c, none⟩) b0]; exact h0.1 c hc
  · rw [hb.cell (p := ⟨1, 2 * i, none⟩) b1]; exact (h0.2 i hi).1
  · rw [hb.cell (p := ⟨1, 2 * i + 1, none⟩) b1]; exact (h0.2 i hi).2
end Go.Proofs.YthikpmngcbgbfaaDoor
