/-
  What is proved here: what espalierbig.words, give, SetInt64 and NewInt answer: a whole number, its sign and its words.
-/
import Derived.Test.YtekkifljcppmlaaGreatDoorBgCmp
namespace Go.Proofs.YtekkifljcppmlaaGreatDoor
open Go.RowKit
set_option linter.unusedVariables false

set_option maxHeartbeats 4000000 in
theorem words_any (x : Nat) (w : World) (hx : x < 18446744073709551616) :
    Calls Tryz.prog 55 #[.int .u64 (x : Int)] w fun e w' => BigEnd w' x e ∧ Below w.heap.size w w' := by
  obtain ⟨lo, hlo⟩ : ∃ lo, lo = x % 4294967296 := ⟨_, rfl⟩
  obtain ⟨hi, hhi⟩ : ∃ hi, hi = x / 4294967296 := ⟨_, rfl⟩
  have h1 : (x : Int) % 4294967296 = (lo : Int) := by omega
  have h2 : (x : Int) / 4294967296 = (hi : Int) := by omega
  have h3 : hi < 4294967296 := by omega
  have HV := toHid (show vW [lo, hi] = x by simp only [vW]; omega)
  have HW : Hid (Words [lo, hi]) := fun y hy => by
    simp at hy
    rcases hy with rfl | rfl <;> omega
  have hblk := alloc_new w (.cells #[.int .u32 (lo : Int), .int .u32 (hi : Int)] 85)
  have HWA : Hid (WAt (w.alloc (.cells #[.int .u32 (lo : Int), .int .u32 (hi : Int)] 85)) [lo, hi] (some ⟨w.heap.size, 0, none⟩) 2) := by
    refine ⟨rfl, by omega, HW.out, fun _ => ⟨w.heap.size, 0, rfl, by simp, fun i y hy => ?_⟩⟩
    match i, hy with
    | 0, hy => simp at hy; subst hy; exact cell_of hblk 0
    | 1, hy => simp at hy; subst hy; exact cell_of hblk 1
    | i + 2, hy => simp at hy
  have HTR := toHid (trim_any [lo, hi] (some ⟨w.heap.size, 0, none⟩) 2 2 _ HWA.out (by omega) (by omega) (fun h => by cases h))
  have HB := toHid ((Below.refl w.heap.size w).alloc (Nat.le_refl _) (.cells #[.int .u32 (lo : Int), .int .u32 (hi : Int)] 85))
  clear hblk hlo hhi
  have hx' : (x : Int) < 18446744073709551616 := by omega
  go_enter Tryz.func55, Tryz.ntmps55
  go_wp2_with fail
  refine HTR.out.mono ?_
  generalize w.alloc (.cells #[.int .u32 (lo : Int), .int .u32 (hi : Int)] 85) = X at HTR HB HWA ⊢
  rintro e w2 ⟨⟨n, hn, rfl, q1, q2, q3⟩, rfl⟩
  have HE := toHid (show BigEnd w2 x (.returned (.slice (some ⟨w.heap.size, 0, none⟩) n 2)) from ⟨_, n, 2, _, rfl, q1, hn, by omega, (fun h => by cases h), q2.trans HV.out, q3⟩)
  clear q1 q2 q3 HTR
  go_wp2_with fail
  go_ret
  exact ⟨HE.out, HB.out⟩

/-- A whole number lies in a block: its sign and its words. -/
def IntAt (w : World) (ib : Nat) (z : Int) : Prop := ∃ (neg : Bool) (a : Option Addr) (l c : Nat) (ws : List Nat), w.heap[ib]? = some (.cells #[.bool neg, .slice a l c] 43 (0, 0)) ∧ WAt w ws a l ∧ l ≤ c ∧ c ≤ 9223372036854775807 ∧ (a = none → c = 0) ∧ Trimmed ws ∧ z = (if neg = true then -(vW ws : Int) else (vW ws : Int)) ∧ (neg = true → 0 < l)

theorem vW_zero {ws : List Nat} (h : Trimmed ws) (h0 : vW ws = 0) : ws = [] := by
  cases ws with
  | nil => rfl
  | cons x r =>
    exfalso
    have := vW_short (xs := []) (fun x hx => by cases hx) h (by simp)
    simp only [vW] at this h0
    omega

set_option maxHeartbeats 4000000 in
theorem give_any (ib : Nat) (n0 : Bool) (v0 : Value) (neg : Bool) (a : Option Addr) (l c : Nat) (w : World) (hb : w.heap[ib]? = some (.cells #[.bool n0, v0] 43 (0, 0))) (hl : l ≤ 9223372036854775807) :
    Calls Tryz.prog 35 #[.pointer (some ⟨ib, 0, none⟩), .bool neg, .slice a l c] w fun e w' => e = .returned (.pointer (some ⟨ib, 0, none⟩)) ∧ w'.heap[ib]? = some (.cells #[.bool (neg && decide (0 < l)), .slice a l c] 43 (0, 0)) ∧ w'.heap.size = w.heap.size ∧ (∀ j, j ≠ ib → w'.heap[j]? = w.heap[j]?) ∧ Below ib w w' := by
  obtain ⟨r, hr⟩ : ∃ r, r = (neg && decide (0 < l)) := ⟨_, rfl⟩
  rw [← hr]
  have x0 := cell_of hb 0
  have x1 := cell_of hb 1
  simp at x0 x1
  have f0 := free_of hb 0
  have f1 := free_of hb 1
  have HE : Hid (((w.setCell ⟨ib, 1, none⟩ (.slice a l c)).setCell ⟨ib, 0, none⟩ (.bool r)).heap[ib]? = some (.cells #[.bool r, .slice a l c] 43 (0, 0))) := by
    show _ = _
    simp [World.setCell, Array.getElem?_modify, hb]
  have HO : Hid (∀ j, j ≠ ib → ((w.setCell ⟨ib, 1, none⟩ (.slice a l c)).setCell ⟨ib, 0, none⟩ (.bool r)).heap[j]? = w.heap[j]?) := fun j hj => (Below.heap_setCell _ _ _ j hj).trans (Below.heap_setCell _ _ _ j hj)
  have HB : Hid (Below ib w ((w.setCell ⟨ib, 1, none⟩ (.slice a l c)).setCell ⟨ib, 0, none⟩ (.bool r))) := ((Below.refl _ _).setCell (p := ⟨ib, 1, none⟩) (Nat.le_refl _) _).setCell (p := ⟨ib, 0, none⟩) (Nat.le_refl _) _
  have HZ : Hid (((w.setCell ⟨ib, 1, none⟩ (.slice a l c)).setCell ⟨ib, 0, none⟩ (.bool r)).heap.size = w.heap.size) := by
    show _ = _
    simp [World.setCell]
  have hib : ib < w.heap.size := (Array.getElem?_eq_some_iff.1 hb).1
  clear hb
  cases neg with
  | false =>
    have hr' : r = false := by rw [hr]; rfl
    subst hr'
    clear hr
    go_enter Tryz.func35, Tryz.ntmps35
    go_wp2_with fail
    go_ret
    exact ⟨rfl, HE.out, HZ.out, HO.out, HB.out⟩
  | true =>
    by_cases h0 : 0 < l
    · have hr' : r = true := by rw [hr]; simp [h0]
      subst hr'
      clear hr
      have h0' : (0 : Int) < l := by omega
      go_enter Tryz.func35, Tryz.ntmps35
      go_wp2_with fail
      go_ret
      exact ⟨rfl, HE.out, HZ.out, HO.out, HB.out⟩
    · have hr' : r = false := by rw [hr]; simp [h0]
      subst hr'
      clear hr
      have hl0 : l = 0 := by omega
      subst hl0
      go_enter Tryz.func35, Tryz.ntmps35
      go_wp2_with fail
      go_ret
      exact ⟨rfl, HE.out, HZ.out, HO.out, HB.out⟩
end Go.Proofs.YtekkifljcppmlaaGreatDoor
