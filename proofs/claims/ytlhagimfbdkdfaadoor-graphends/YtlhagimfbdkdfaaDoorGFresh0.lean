/-
  What is proved here: what fresh.Value answers of a value without a list: the same value.
-/
import Derived.Test.YtlhagimfbdkdfaaDoorGCheck2
namespace Go.Proofs.YtlhagimfbdkdfaaDoor
open Go.RowKit
set_option linter.unusedVariables false

set_option maxHeartbeats 4000000 in
set_option maxRecDepth 100000 in
theorem values_none (a : Option Addr) (c : Nat) (w : World) : Calls Tryd.prog 61 #[.slice a 0 c] w fun e w' => e = .returned (.slice none 0 0) ∧ Below w.heap.size w w' := by
  have b0 : Below w.heap.size w (w.alloc (.cells #[.slice none 0 0] 52)) := (Below.refl _ _).alloc (Nat.le_refl _) _
  have hx := alloc_new w (.cells #[.slice none 0 0] 52)
  have y0 : (w.alloc (.cells #[.slice none 0 0] 52)).cell? ⟨w.heap.size, 0, none⟩ = some (.slice none 0 0) := cell_of hx 0
  have B0 := toHid b0
  clear b0 hx
  have hp : ∀ W, Sem.run Tryd.prog (pure (#[] : Array Value)) W = .ok #[] W := fun _ => rfl
  cases a with
  | none =>
    go_enter Tryd.func61, Tryd.ntmps61
    go_wp2_with fail
    go_loopg [4] 1 (fun g s4 wr => ∃ k : Nat, k ≤ 1 ∧ k ≤ g ∧ s4 = .slice (some ⟨w.heap.size, 0, none⟩) k 1 ∧ wr = w.alloc (.cells #[.slice none 0 0] 52))
    case atStart => exact ⟨1, Nat.le_refl _, Nat.le_refl _, rfl, rfl⟩
    case round =>
      obtain ⟨k, hk, hg, rfl, rfl⟩ := hrel
      by_cases hk1 : k = 1
      · subst hk1
        go_wp2_with fail
        go_loopg [4, 28] 0 (fun g s4 s28 wq => s4 = .slice (some ⟨w.heap.size, 0, none⟩) 0 1 ∧ s28 = .int .i64 0 ∧ wq = w.alloc (.cells #[.slice none 0 0] 52))
        case atStart => exact ⟨rfl, rfl, rfl⟩
        case round =>
          obtain ⟨rfl, rfl, rfl⟩ := hrel
          go_wp2_with fail
          go_roundg 0
          case measure => omega
          case rel => exact ⟨0, by omega, by omega, rfl, rfl⟩
      · have hk0 : k = 0 := by omega
        subst hk0
        go_wp2_with fail
        go_ret
        exact ⟨rfl, B0.out⟩
  | some ad =>
    go_enter Tryd.func61, Tryd.ntmps61
    go_wp2_with fail
    go_loopg [4] 1 (fun g s4 wr => ∃ k : Nat, k ≤ 1 ∧ k ≤ g ∧ s4 = .slice (some ⟨w.heap.size, 0, none⟩) k 1 ∧ wr = w.alloc (.cells #[.slice none 0 0] 52))
    case atStart => exact ⟨1, Nat.le_refl _, Nat.le_refl _, rfl, rfl⟩
    case round =>
      obtain ⟨k, hk, hg, rfl, rfl⟩ := hrel
      by_cases hk1 : k = 1
      · subst hk1
        go_wp2_with fail
        go_loopg [4, 28] 0 (fun g s4 s28 wq => s4 = .slice (some ⟨w.heap.size, 0, none⟩) 0 1 ∧ s28 = .int .i64 0 ∧ wq = w.alloc (.cells #[.slice none 0 0] 52))
        case atStart => exact ⟨rfl, rfl, rfl⟩
        case round =>
          obtain ⟨rfl, rfl, rfl⟩ := hrel
          go_wp2_with fail
          go_roundg 0
          case measure => omega
          case rel => exact ⟨0, by omega, by omega, rfl, rfl⟩
      · have hk0 : k = 0 := by omega
        subst hk0
        go_wp2_with fail
        go_ret
        exact ⟨rfl, B0.out⟩
end Go.Proofs.YtlhagimfbdkdfaaDoor
