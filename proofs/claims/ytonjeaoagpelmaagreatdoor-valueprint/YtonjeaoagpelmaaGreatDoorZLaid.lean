/-
  What is proved here: where the listed variables read as they were laid, the tables that the walks ask for lie in the world; and there is a world in which they do.
-/
import Derived.Test.YtonjeaoagpelmaaGreatDoorWValued
import Derived.PinnedBridge
import Derived.Lib.LaidU8T
import Derived.Lib.LaidTab
import Derived.Lay
namespace Go.Proofs.YtonjeaoagpelmaaGreatDoor
open Go.RowKit Go.Lib
set_option linter.unusedVariables false

/-- The list of the rows of this seat. -/
def laidList : List (String × DataW Unit) := [("math/bits.deBruijn32tab", Rows.laid_math_bits_deBruijn32tab), ("math/bits.deBruijn64tab", Rows.laid_math_bits_deBruijn64tab), ("internal/strconv.uint64pow10", Rows.laid_internal_strconv_uint64pow10), ("unicode/utf8.acceptRanges", Rows.laid_unicode_utf8_acceptRanges), ("strconv.ErrRange", Rows.laid_strconv_ErrRange), ("strconv.ErrSyntax", Rows.laid_strconv_ErrSyntax), ("unicode/utf8.first", Rows.laid_unicode_utf8_first)]

theorem accept_eq : (Rows.laid_unicode_utf8_acceptRanges : DataW Unit) = acceptData := by kernel_rfl
theorem pow10_eq : (Rows.laid_internal_strconv_uint64pow10 : DataW Unit) = tabData .u64 pow10Tab := by kernel_rfl
theorem first_eq : (Rows.laid_unicode_utf8_first : DataW Unit) = firstData := Pinned.utf8First_eq

theorem u8extra : U8Extra Tryz.prog Tryz.lays196_ren := ⟨by kernel_rfl, by kernel_rfl, by kernel_rfl, by kernel_rfl, by kernel_rfl, by kernel_rfl, by kernel_rfl⟩

theorem tabs_of {W : World} (h : laidMet Tryz.prog laidList W) : Tabs W.heap.size W := by
  have h0 : Lib.Utf8Tabs 0 1 W := utf8Tabs_of_readsT (U8Types.of196 Tryz.lays196) u8extra
    (first_eq ▸ Lib.laidMet.reads h (by simp [laidList]))
    (accept_eq ▸ Lib.laidMet.reads h (by simp [laidList]))
  have b0 : 0 < W.heap.size := World.block_lt_of_cell? W _ (h0.1 0 (by decide))
  have b1 : 1 < W.heap.size := World.block_lt_of_cell? W _ (h0.2 0 (by decide)).1
  intro w' hb
  refine ⟨fun c hc => ?_, fun i hi => ⟨?_, ?_⟩⟩
  · rw [hb.cell (p := ⟨0, c, none⟩) b0]; exact h0.1 c hc
  · rw [hb.cell (p := ⟨1, 2 * i, none⟩) b1]; exact (h0.2 i hi).1
  · rw [hb.cell (p := ⟨1, 2 * i + 1, none⟩) b1]; exact (h0.2 i hi).2

theorem pow10_of {W : World} (h : laidMet Tryz.prog laidList W) : Pow10 W.heap.size W := by
  refine tabBelow_of_tabIs ?_
  obtain ⟨g, t, cs, fuel, p, hg, ht, hvar, hd⟩ := Lib.laidMet.reads h (n := "internal/strconv.uint64pow10") (d := Rows.laid_internal_strconv_uint64pow10) (by simp [laidList])
  rw [pow10_eq] at hd
  have hg' : Tryz.prog.globalNamed "internal/strconv.uint64pow10" = some 2 := by kernel_rfl
  have ht' : (Tryz.prog.globals[2]?).map (·.type) = some 107 := by kernel_rfl
  obtain rfl := Option.some.inj (hg'.symm.trans hg)
  obtain rfl := Option.some.inj (ht'.symm.trans ht)
  unfold TabIs
  rw [hvar, ← cells_of_tab (k := .u64) (n := 20) Tryz.underlying107 Tryz.underlying85 (by kernel_rfl) (by kernel_rfl) hd]
end Go.Proofs.YtonjeaoagpelmaaGreatDoor
