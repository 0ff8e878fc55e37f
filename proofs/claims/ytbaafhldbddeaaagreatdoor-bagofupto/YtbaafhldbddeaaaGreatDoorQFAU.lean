/-
  What is proved here: what the texts FArg, GLaid prove, in one text.
-/
import Derived.Test.YtbaafhldbddeaaaGreatDoorQFAT
import Derived.Test.YtbaafhldbddeaaaGreatDoorQFAN
import Derived.Test.YtbaafhldbddeaaaGreatDoorQFAA
import Derived.Test.YtbaafhldbddeaaaGreatDoorShelf
import Derived.PinnedBridge
import Derived.Lib.LaidU8T
import Derived.Lib.LaidTab
import Derived.Lay
namespace Go.Proofs.YtbaafhldbddeaaaGreatDoor
open Go.RowKit
set_option linter.unusedVariables false

set_option linter.unusedSimpArgs false

mutual
theorem liesT_uniq {w : World} : ∀ (t u : T) (b off : Nat), LiesT w t b off → LiesT w u b off → t = u
  | .node k n s L, .node k' n' s' L', b, off, h, h' => by
    unfold LiesT at h h'
    obtain ⟨_, a, l, c, h0, h1, h2, h3, _, hL⟩ := h
    obtain ⟨_, a', l', c', g0, g1, g2, g3, _, hL'⟩ := h'
    rw [h0] at g0
    rw [h1] at g1
    rw [h2] at g2
    rw [h3] at g3
    simp only [Option.some.injEq, Value.int.injEq, Value.string.injEq, Value.slice.injEq, true_and] at g0 g1 g2 g3
    obtain ⟨rfl, rfl, rfl⟩ := g3
    subst g0 g1 g2
    rw [liesS_uniq L L' a l hL hL']
theorem liesS_uniq {w : World} : ∀ (L M : List T) (a : Option Addr) (l : Nat), LiesS w L a l → LiesS w M a l → L = M
  | [], [], _, _, _, _ => rfl
  | [], u :: us, a, l, h, h' => by
    unfold LiesS at h h'
    obtain ⟨_, _, _, h2, _⟩ := h'
    omega
  | t :: ts, [], a, l, h, h' => by
    unfold LiesS at h h'
    obtain ⟨_, _, _, h2, _⟩ := h
    omega
  | t :: ts, u :: us, a, l, h, h' => by
    unfold LiesS at h h'
    obtain ⟨b, off, h1, h2, _, _, hT, hS⟩ := h
    obtain ⟨b', off', g1, g2, _, _, hT', hS'⟩ := h'
    rw [h1] at g1
    simp only [Option.some.injEq, Addr.mk.injEq, and_true] at g1
    obtain ⟨rfl, rfl⟩ := g1
    have hl : ts.length = us.length := by omega
    rw [← hl] at hS'
    rw [liesT_uniq t u b off hT hT', liesS_uniq ts us _ _ hS hS']
end

section
variable {H : Type} {enc : TypeId × Value → H} {w : World} {base : Nat} {spare : Nat → Bool} {held : Bool}

/-- A row that reads: its tree, within its bounds, and no greater than its bulk. -/
theorem row_in {fuel : Nat} {a : Option Addr} {l c : Nat} {y : DataW H × List MemPlace} (h : DataW.trod enc Tryz.prog w base spare held fuel 30 [.slice a l c] = some y) : l ≤ c ∧ ∃ L, LiesS w L a l ∧ InL L ∧ wtL L ≤ Rows.uptoBulk y.1 := by
  obtain ⟨h1, L, hL, hw⟩ := tree_of fuel (trod_row h)
  obtain ⟨_, M, hM, hi⟩ := tree_in fuel (trod_row h)
  have := liesS_uniq L M a l hL hM
  subst this
  exact ⟨h1, L, hL, hi, hw⟩

/-- Rows that read, where all are of bulk at most two to the twentieth. -/
theorem rows_in {fuel : Nat} {a : Option Addr} {l c : Nat} {y : DataW H × List MemPlace} (h : DataW.trod enc Tryz.prog w base spare held fuel 22 [.slice a l c] = some y) (hb : Rows.uptoBulk y.1 ≤ 1048576) : l ≤ 9223372036854775807 ∧ (l ≤ 2000 → ∃ X, RowsAt AnyB w X a l ∧ ∀ x ∈ X, LiesS w x.L x.a x.l ∧ InL x.L ∧ wtL x.L ≤ 1099511627776) := by
  obtain ⟨h1, h2, h3⟩ := slice_rows Tryz.underlying22 cells1r (by omega) h
  refine ⟨h2, fun hl => ?_⟩
  by_cases h0 : l = 0
  · subst h0
    exact ⟨[], ⟨rfl, by omega, fun x hx => (by cases hx), fun h => absurd h (Nat.lt_irrefl _)⟩, fun x hx => by cases hx⟩
  · rcases DataW.trod_slice Tryz.underlying22 h with ⟨e, rfl⟩ | ⟨a', l', c', elems, rest, m, hfu, e, rfl, _, g1, g2, hlen, hel, _⟩
    · simp at e
      obtain ⟨_, rfl, _⟩ := e
      exact absurd rfl h0
    · simp at e
      obtain ⟨rfl, rfl, rfl⟩ := e
      obtain ⟨b, off, ha, hbl, hall⟩ := h3 (by omega)
      injection ha with ha
      subst ha
      have hbe : ∀ z ∈ elems, Rows.uptoBulk z.1 ≤ 1048576 := fun z hz => by
        have h4 := bulk_part (List.mem_map_of_mem (f := (·.1)) hz)
        simp only [Rows.uptoBulk] at hb
        omega
      obtain ⟨X, hXl, hX⟩ := list_of (fun i (q : Ct) => w.cell? ⟨b, off + i, none⟩ = some (.slice q.a q.l q.c) ∧ q.n = 1 ∧ LiesS w q.L q.a q.l ∧ InL q.L ∧ wtL q.L ≤ 1099511627776) l (fun i hi => by
        have hi2 := hel i hi
        obtain ⟨z, hz⟩ : ∃ z, elems[i]? = some z := ⟨elems[i], by simp [hlen, hi]⟩
        rw [hz, cells1r, Option.bind_eq_some_iff] at hi2
        obtain ⟨cs, hcs, ht⟩ := hi2
        obtain ⟨q1, q2⟩ := cells_all hcs
        obtain ⟨c0, rfl⟩ : ∃ c0, cs = [c0] := by
          match cs, q1 with
          | [c0], _ => exact ⟨c0, rfl⟩
        obtain ⟨ra, rl, rc, rfl⟩ := slice_form Tryz.underlying30 ht
        obtain ⟨_, L, hL, hi3, hw⟩ := row_in ht
        have h5 := q2 0 _ rfl
        rw [add_none, add_none, Nat.mul_one, Nat.add_zero] at h5
        exact ⟨⟨1, ra, rl, rc, L⟩, h5, rfl, hL, hi3, by have := hbe z (List.mem_of_getElem? hz); show wtL L ≤ _; omega⟩)
      have hm : ∀ x ∈ X, x.n = 1 ∧ LiesS w x.L x.a x.l ∧ InL x.L ∧ wtL x.L ≤ 1099511627776 := fun x hx => by
        obtain ⟨i, hi⟩ := List.getElem?_of_mem hx
        exact (hX i _ hi).2
      exact ⟨X, ⟨hXl.symm, by omega, fun x hx => (hm x hx).1, fun _ => ⟨b, off, rfl, trivial, hbl, fun i x hx => (hX i x hx).1⟩⟩, fun x hx => (hm x hx).2⟩
end

open Go.RowKit Go.Lib
set_option linter.unusedVariables false

theorem accept_eq : (Rows.laid_unicode_utf8_acceptRanges : DataW Unit) = acceptData := by kernel_rfl
theorem first_eq : (Rows.laid_unicode_utf8_first : DataW Unit) = firstData := Pinned.utf8First_eq

theorem u8extra : U8Extra Tryz.prog Tryz.lays196_ren := ⟨by kernel_rfl, by kernel_rfl, by kernel_rfl, by kernel_rfl, by kernel_rfl, by kernel_rfl, by kernel_rfl⟩

theorem tabs_of {l : List (String × DataW Unit)} (hf : ("unicode/utf8.first", Rows.laid_unicode_utf8_first) ∈ l) (ha : ("unicode/utf8.acceptRanges", Rows.laid_unicode_utf8_acceptRanges) ∈ l) {W : World} (h : laidMet Tryz.prog l W) : Tabs W.heap.size W := by
  have h0 : Lib.Utf8Tabs 0 1 W := utf8Tabs_of_readsT (U8Types.of196 Tryz.lays196) u8extra
    (first_eq ▸ Lib.laidMet.reads h hf)
    (accept_eq ▸ Lib.laidMet.reads h ha)
  have b0 : 0 < W.heap.size := World.block_lt_of_cell? W _ (h0.1 0 (by decide))
  have b1 : 1 < W.heap.size := World.block_lt_of_cell? W _ (h0.2 0 (by decide)).1
  intro w' hb
  refine ⟨fun c hc => ?_, fun i hi => ⟨?_, ?_⟩⟩
  · rw [hb.cell (p := ⟨0, c, none⟩) b0]; exact h0.1 c hc
  · rw [hb.cell (p := ⟨1, 2 * i, none⟩) b1]; exact (h0.2 i hi).1
  · rw [hb.cell (p := ⟨1, 2 * i + 1, none⟩) b1]; exact (h0.2 i hi).2
end Go.Proofs.YtbaafhldbddeaaaGreatDoor
