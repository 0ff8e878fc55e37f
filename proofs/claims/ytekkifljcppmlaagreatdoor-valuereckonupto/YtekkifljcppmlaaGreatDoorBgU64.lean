/-
  What is proved here: what espalierbig's Uint64 and Int64 answer of a number that is no longer than two words.
-/
import Derived.Test.YtekkifljcppmlaaGreatDoorBgLen
import Derived.Laws.BitsAllLaws
namespace Go.Proofs.YtekkifljcppmlaaGreatDoor
open Go.RowKit
set_option linter.unusedVariables false

theorem or_words {x y : Nat} (hx : x < 4294967296) (hy : y < 4294967296) : bits .or .u64 (x : Int) ((y : Int) * 4294967296) = ((x + 4294967296 * y : Nat) : Int) := by
  have h1 := u64_or_nat x (y * 4294967296) (by omega) (by omega)
  have h2 := nat_join 32 (y * 4294967296) x (by omega) (by simpa using hx)
  rw [Nat.or_comm, h2] at h1
  rw [show ((y : Int) * 4294967296) = ((y * 4294967296 : Nat) : Int) by simp, h1]
  omega

set_option maxHeartbeats 4000000 in
theorem uint64_any (ib : Nat) (neg : Bool) (ws : List Nat) (a : Option Addr) (l c : Nat) (w : World) (hb : w.heap[ib]? = some (.cells #[.bool neg, .slice a l c] 43 (0, 0))) (h : WAt w ws a l) (hl : l ≤ 2) :
    Calls Tryz.prog 40 #[.pointer (some ⟨ib, 0, none⟩)] w fun e w' => e = .returned (.int .u64 (vW ws : Nat)) ∧ w' = w := by
  have p1 := cell_of hb 1
  simp at p1
  have hl1 := h.1
  rcases ws with _ | ⟨x, _ | ⟨y, _ | ⟨z, r⟩⟩⟩
  · simp at hl1
    subst hl1
    clear h hb
    go_enter Tryz.func40, Tryz.ntmps40
    go_wp2_with fail
    go_ret
    exact ⟨rfl, rfl⟩
  · simp at hl1
    subst hl1
    obtain ⟨b, off, ha, hbb, hc⟩ := h.2.2.2 (by omega)
    subst ha
    have d0 := hc 0 x rfl
    simp at d0
    have hx : x < 4294967296 := h.2.2.1 x (by simp)
    have HV := toHid (show vW [x] = x by simp [vW])
    clear h hb hc
    go_enter Tryz.func40, Tryz.ntmps40
    go_wp2_with fail
    go_ret
    exact ⟨by rw [HV.out]; rfl, rfl⟩
  · simp at hl1
    subst hl1
    obtain ⟨b, off, ha, hbb, hc⟩ := h.2.2.2 (by omega)
    subst ha
    have d0 := hc 0 x rfl
    have d1 := hc 1 y rfl
    simp at d0 d1
    have hx : x < 4294967296 := h.2.2.1 x (by simp)
    have hy : y < 4294967296 := h.2.2.1 y (by simp)
    have ho := or_words hx hy
    obtain ⟨v, hv⟩ : ∃ v, v = x + 4294967296 * y := ⟨_, rfl⟩
    rw [← hv] at ho
    have HV := toHid (show vW [x, y] = v by rw [hv]; simp [vW])
    clear h hb hc hv
    go_enter Tryz.func40, Tryz.ntmps40
    go_wp2_with fail
    go_ret
    exact ⟨by rw [HV.out]; rfl, rfl⟩
  · simp at hl1; omega

set_option maxHeartbeats 4000000 in
theorem int64_any (ib : Nat) (z : Int) (w : World) (h : IntAt w ib z) (hz : -9223372036854775808 ≤ z ∧ z ≤ 9223372036854775807) :
    Calls Tryz.prog 20 #[.pointer (some ⟨ib, 0, none⟩)] w fun e w' => e = .returned (.int .i64 z) ∧ w' = w := by
  obtain ⟨neg, a, l, c, ws, hb, hw, h1, h2, h3, ht, hzv, hn⟩ := h
  have hl : l ≤ 2 := by rw [hw.1]; exact len_two ht (by rw [hzv] at hz; split at hz <;> omega)
  have HU := toHid (uint64_any ib neg ws a l c w hb hw hl)
  have p0 := cell_of hb 0
  simp at p0
  clear hb hw h1 h2 h3 ht hn hl
  generalize vW ws = v at HU hzv
  cases neg with
  | false =>
    simp at hzv
    subst hzv
    have hw : IntKind.i64.wrap (v : Int) = v := by rw [IntKind.wrap_i64]; omega
    go_enter Tryz.func20, Tryz.ntmps20
    go_wp2_with fail
    refine HU.out.mono ?_
    rintro e w1 ⟨rfl, rfl⟩
    go_wp2_with fail
    go_ret
    exact ⟨rfl, rfl⟩
  | true =>
    simp at hzv
    have hw : Go.RowKit.wrap64 (-(Go.RowKit.wrap64 (v : Int))) = z := by unfold Go.RowKit.wrap64; omega
    clear hzv
    go_enter Tryz.func20, Tryz.ntmps20
    go_wp2_with fail
    refine HU.out.mono ?_
    rintro e w1 ⟨rfl, rfl⟩
    go_wp2_with fail
    go_ret
    exact ⟨by first | rfl | exact congrArg (fun q => Ending.returned (.int .i64 q)) hw, rfl⟩
end Go.Proofs.YtekkifljcppmlaaGreatDoor
