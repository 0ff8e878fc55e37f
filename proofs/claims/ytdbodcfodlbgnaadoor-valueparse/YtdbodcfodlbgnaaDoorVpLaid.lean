/-
  What is proved here: where the listed variables read as they were laid, the tables that the walks ask for lie in the world; and there is a world in which they do.
-/
import Derived.Test.YtdbodcfodlbgnaaDoorQVAK
import Derived.Test.YtdbodcfodlbgnaaDoorVpNum
import Derived.PinnedBridge
import Derived.Lib.LaidU8T
import Derived.Lib.LaidTab
import Derived.Lay
import Derived.LaidLaws
namespace Go.Proofs.YtdbodcfodlbgnaaDoor
open Go.RowKit Go.Lib
set_option linter.unusedVariables false

/-- The list of the rows of this seat. -/
def laidList : List (String × DataW Unit) := [("math/bits.deBruijn32tab", Rows.laid_math_bits_deBruijn32tab), ("math/bits.deBruijn64tab", Rows.laid_math_bits_deBruijn64tab), ("internal/strconv.uint64pow10", Rows.laid_internal_strconv_uint64pow10), ("unicode/utf8.acceptRanges", Rows.laid_unicode_utf8_acceptRanges), ("strconv.ErrRange", Rows.laid_strconv_ErrRange), ("strconv.ErrSyntax", Rows.laid_strconv_ErrSyntax), ("unicode/utf8.first", Rows.laid_unicode_utf8_first)]

theorem accept_eq : (Rows.laid_unicode_utf8_acceptRanges : DataW Unit) = acceptData := by kernel_rfl
theorem pow10_eq : (Rows.laid_internal_strconv_uint64pow10 : DataW Unit) = tabData .u64 pow10Tab := by kernel_rfl
theorem first_eq : (Rows.laid_unicode_utf8_first : DataW Unit) = firstData := Pinned.utf8First_eq

theorem u8extra : U8Extra Tryd.prog Tryd.lays196_ren := ⟨by kernel_rfl, by kernel_rfl, by kernel_rfl, by kernel_rfl, by kernel_rfl, by kernel_rfl, by kernel_rfl⟩

theorem tabs_of {W : World} (h : laidMet Tryd.prog laidList W) : Tabs W.heap.size W := by
  have h0 : Lib.Utf8Tabs 0 1 W := utf8Tabs_of_readsT (U8Types.of196 Tryd.lays196) u8extra
    (first_eq ▸ Lib.laidMet.reads h (by simp [laidList]))
    (accept_eq ▸ Lib.laidMet.reads h (by simp [laidList]))
  have b0 : 0 < W.heap.size := World.block_lt_of_cell? W _ (h0.1 0 (by decide))
  have b1 : 1 < W.heap.size := World.block_lt_of_cell? W _ (h0.2 0 (by decide)).1
  intro w' hb
  refine ⟨fun c hc => ?_, fun i hi => ⟨?_, ?_⟩⟩
  · rw [hb.cell (p := ⟨0, c, none⟩) b0]; exact h0.1 c hc
  · rw [hb.cell (p := ⟨1, 2 * i, none⟩) b1]; exact (h0.2 i hi).1
  · rw [hb.cell (p := ⟨1, 2 * i + 1, none⟩) b1]; exact (h0.2 i hi).2

theorem pow10_of {W : World} (h : laidMet Tryd.prog laidList W) : Pow10 W.heap.size W := by
  refine tabBelow_of_tabIs ?_
  obtain ⟨g, t, cs, fuel, p, hg, ht, hvar, hd⟩ := Lib.laidMet.reads h (n := "internal/strconv.uint64pow10") (d := Rows.laid_internal_strconv_uint64pow10) (by simp [laidList])
  rw [pow10_eq] at hd
  have hg' : Tryd.prog.globalNamed "internal/strconv.uint64pow10" = some 5 := by kernel_rfl
  have ht' : (Tryd.prog.globals[5]?).map (·.type) = some 123 := by kernel_rfl
  obtain rfl := Option.some.inj (hg'.symm.trans hg)
  obtain rfl := Option.some.inj (ht'.symm.trans ht)
  unfold TabIs
  rw [hvar, ← cells_of_tab (k := .u64) (n := 20) Tryd.underlying123 Tryd.underlying74 (by kernel_rfl) (by kernel_rfl) hd]

theorem var_below {W w' : World} {n : String} {g : Nat} {cs : Array Value} (hg : Tryd.prog.globalNamed n = some g) (h : W.var? Tryd.prog n = some cs) (hb : Below W.heap.size W w') : w'.var? Tryd.prog n = some cs := by
  unfold World.var? at h ⊢
  simp only [hg, Option.bind_some] at h ⊢
  have hlt : g < W.heap.size := by
    rcases Nat.lt_or_ge g W.heap.size with h' | h'
    · exact h'
    · simp [Array.getElem?_eq_none h'] at h
  rw [hb.block g hlt]
  exact h

theorem err_var {W : World} {n : String} {d : DataW Unit} {nm : String} {d' : DataW Unit} {g : Nat} {ti : TypeId} {ms : Array (String × TypeId)} (h : VarReads Tryd.prog W n d) (hd : d = .iface nm d')
    (hg : Tryd.prog.globalNamed n = some g) (ht : (Tryd.prog.globals[g]?).map (·.type) = some ti) (hi : Tryd.prog.underlying ti = some (.interface ms)) :
    ∃ tp p, W.var? Tryd.prog n = some #[.iface tp p] := by
  obtain ⟨g0, t0, cs, fuel, p, hg0, ht0, hvar, h1⟩ := h
  obtain rfl := Option.some.inj (hg.symm.trans hg0)
  obtain rfl := Option.some.inj (ht.symm.trans ht0)
  subst hd
  obtain ⟨f1, u, v, hcs, _, _⟩ := iface_of_trod hi h1
  refine ⟨u, v, ?_⟩
  rw [hvar, ← Array.toArray_toList (xs := cs), hcs]

theorem errs_of {W : World} (h : laidMet Tryd.prog laidList W) : ErrV W.heap.size W := by
  have hgS : Tryd.prog.globalNamed "strconv.ErrSyntax" = some 3 := by kernel_rfl
  have hgR : Tryd.prog.globalNamed "strconv.ErrRange" = some 4 := by kernel_rfl
  have htS : (Tryd.prog.globals[3]?).map (·.type) = some 90 := by kernel_rfl
  have htR : (Tryd.prog.globals[4]?).map (·.type) = some 90 := by kernel_rfl
  obtain ⟨t1, p1, h1⟩ := err_var (Lib.laidMet.reads h (n := "strconv.ErrSyntax") (d := Rows.laid_strconv_ErrSyntax) (by simp [laidList])) rfl hgS htS Tryd.underlying90
  obtain ⟨t2, p2, h2⟩ := err_var (Lib.laidMet.reads h (n := "strconv.ErrRange") (d := Rows.laid_strconv_ErrRange) (by simp [laidList])) rfl hgR htR Tryd.underlying90
  exact fun w' hb => ⟨⟨t1, p1, var_below hgS h1 hb⟩, ⟨t2, p2, var_below hgR h2 hb⟩⟩
end Go.Proofs.YtdbodcfodlbgnaaDoor
