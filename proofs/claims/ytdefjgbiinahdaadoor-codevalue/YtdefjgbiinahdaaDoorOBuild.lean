/-
  What is proved here: see the remark of the text Build (the parts of it that this seat needs).
-/
import Derived.Test.YtdefjgbiinahdaaDoorOLetter
import Derived.Lib.FrozenHead
namespace Go.Proofs.YtdefjgbiinahdaaDoor
open Go.RowKit
set_option linter.unusedVariables false

abbrev BE : TypeId := 5

theorem info_byte0 : (Tryd.prog.info? BE).map (fun i => (i.zero, i.size, i.bytes)) = some (some (.int .u8 0), 1, 1) := by kernel_rfl

theorem info_byte : ∃ i, Tryd.prog.info? BE = some i ∧ i.zero = some (.int .u8 0) ∧ i.size = 1 ∧ i.bytes = 1 := by
  obtain ⟨i, h, e⟩ := Option.map_eq_some_iff.1 info_byte0
  simp only [Prod.mk.injEq] at e
  exact ⟨i, h, e⟩

end Go.Proofs.YtdefjgbiinahdaaDoor
