/-
  What is proved here: numbers as lists of words, as plain data and in memory; what espalierbig.trim and words answer.
-/
import Derived.Test.YtekkifljcppmlaaGreatDoorQLesser
namespace Go.Proofs.YtekkifljcppmlaaGreatDoor
open Go.RowKit
set_option linter.unusedVariables false

/-- The number of words, the least first. -/
def vW : List Nat → Nat
  | [] => 0
  | x :: r => x + 4294967296 * vW r

theorem vW_append : ∀ (a b : List Nat), vW (a ++ b) = vW a + 4294967296 ^ a.length * vW b
  | [], b => by simp [vW]
  | x :: a, b => by
    rw [List.cons_append, vW, vW_append a b, vW, List.length_cons, Nat.pow_succ, Nat.mul_add]
    have : 4294967296 ^ a.length * 4294967296 * vW b = 4294967296 * (4294967296 ^ a.length * vW b) := by rw [Nat.mul_comm (4294967296 ^ a.length), Nat.mul_assoc]
    omega

theorem vW_take {ws : List Nat} {m x : Nat} (h : ws[m]? = some x) : vW (ws.take (m + 1)) = vW (ws.take m) + 4294967296 ^ m * x := by
  obtain ⟨hm, rfl⟩ := List.getElem?_eq_some_iff.1 h
  rw [List.take_succ_eq_append_getElem hm, vW_append]
  have : (ws.take m).length = m := by rw [List.length_take]; omega
  rw [this]
  simp [vW]

def Words (ws : List Nat) : Prop := ∀ x ∈ ws, x < 4294967296

/-- Words lie where a slice says. -/
def WAt (w : World) (ws : List Nat) (a : Option Addr) (l : Nat) : Prop :=
  l = ws.length ∧ l ≤ 1000 ∧ Words ws ∧ (0 < l → ∃ b off, a = some ⟨b, off, none⟩ ∧ b < w.heap.size ∧ ∀ (i x : Nat), ws[i]? = some x → w.cell? ⟨b, off + i, none⟩ = some (.int .u32 (x : Int)))

theorem WAt.below {w w' : World} (k : Below w.heap.size w w') {ws : List Nat} {a : Option Addr} {l : Nat} (h : WAt w ws a l) : WAt w' ws a l := by
  obtain ⟨h1, h2, h4, h3⟩ := h
  refine ⟨h1, h2, h4, fun h0 => ?_⟩
  obtain ⟨b, off, ha, hb, hc⟩ := h3 h0
  exact ⟨b, off, ha, Nat.lt_of_lt_of_le hb k.size, fun i s hs => (k.cell (p := ⟨b, off + i, none⟩) hb).trans (hc i s hs)⟩

theorem WAt.take {w : World} {ws : List Nat} {a : Option Addr} {l n : Nat} (h : WAt w ws a l) (hn : n ≤ l) : WAt w (ws.take n) a n := by
  obtain ⟨h1, h2, h4, h3⟩ := h
  refine ⟨by rw [List.length_take]; omega, by omega, fun x hx => h4 x (List.mem_of_mem_take hx), fun h0 => ?_⟩
  obtain ⟨b, off, ha, hb, hc⟩ := h3 (by omega)
  refine ⟨b, off, ha, hb, fun i x hx => hc i x ?_⟩
  rw [List.getElem?_take] at hx
  split at hx
  · exact hx
  · cases hx

/-- No nought at the end. -/
def Trimmed (ws : List Nat) : Prop := ∀ (m x : Nat), ws.length = m + 1 → ws[m]? = some x → x ≠ 0

/-- What trim answers. -/
def TrimEnd (w : World) (ws : List Nat) (a : Option Addr) (c : Nat) (e : Ending) : Prop := ∃ n, n ≤ ws.length ∧ e = .returned (.slice a n c) ∧ WAt w (ws.take n) a n ∧ vW (ws.take n) = vW ws ∧ Trimmed (ws.take n)

set_option maxHeartbeats 4000000 in
set_option maxRecDepth 100000 in
theorem trim_any (ws : List Nat) (a : Option Addr) (l c : Nat) (w : World) (h : WAt w ws a l) (hlc : l ≤ c) (hc : c ≤ 9223372036854775807) (ha : a = none → c = 0) :
    Calls Tryz.prog 59 #[.slice a l c] w fun e w' => TrimEnd w ws a c e ∧ w' = w := by
  have HW := toHid h
  have hl := h.1
  have hl2 := h.2.1
  have HL := toHid hl
  have HAT := toHid h.2.2.2
  have HA := toHid ha
  clear h hl ha
  have HV0 : Hid (vW (ws.take l) = vW ws) := by
    show vW (ws.take l) = vW ws
    rw [HL.out, List.take_length]
  have fin : Hid (∀ n, n ≤ l → vW (ws.take n) = vW ws → (∀ (m x : Nat), n = m + 1 → ws[m]? = some x → x ≠ 0) → TrimEnd w ws a c (.returned (.slice a n c))) := by
    intro n hn hv ht
    refine ⟨n, by have := HL.out; omega, rfl, HW.out.take hn, hv, fun m x hm hx => ?_⟩
    have hm' : n = m + 1 := by rw [List.length_take] at hm; have := HL.out; omega
    refine ht m x hm' ?_
    rw [List.getElem?_take] at hx
    split at hx
    · exact hx
    · cases hx
  go_enter Tryz.func59, Tryz.ntmps59
  go_wp2_with fail
  go_loopg [3] l (fun g s3 wr => ∃ n : Nat, n ≤ l ∧ n ≤ g ∧ s3 = .int .i64 n ∧ wr = w ∧ vW (ws.take n) = vW ws)
  case atStart => exact ⟨l, Nat.le_refl _, Nat.le_refl _, rfl, rfl, HV0.out⟩
  case round =>
    clear HV0
    obtain ⟨n, hn, hg, rfl, rfl, hv⟩ := hrel
    have HV := toHid hv
    clear hv
    cases n with
    | zero =>
      have HF := toHid (fin.out 0 (Nat.zero_le _) HV.out (fun m x hm => by omega))
      clear fin HAT
      cases a with
      | none =>
        have h0 := HA.out rfl
        subst h0
        go_wp2_with fail
        go_ret
        exact ⟨HF.out, rfl⟩
      | some ad =>
        go_wp2_with fail
        go_ret
        exact ⟨HF.out, rfl⟩
    | succ m =>
      obtain ⟨b, off, ha, hb, hcell⟩ := HAT.out (by omega)
      subst ha
      obtain ⟨x, hx⟩ : ∃ x, ws[m]? = some x := ⟨ws[m]'(by have := HL.out; omega), List.getElem?_eq_getElem _⟩
      have d0 := hcell m x hx
      have HX := toHid hx
      clear hcell hx
      by_cases hx0 : x = 0
      · subst hx0
        have HV2 := toHid (show vW (ws.take m) = vW ws by rw [← HV.out, vW_take HX.out, Nat.mul_zero, Nat.add_zero])
        clear fin HV
        go_wp2_with fail
        go_roundg m
        case measure => omega
        case rel => exact ⟨m, by omega, Nat.le_refl _, by go_num, rfl, HV2.out⟩
      · have hx0' : ((x : Int) == 0) = false := by simp [hx0]
        have HF := toHid (fin.out (m + 1) hn HV.out (fun m' y hm hy => by
          obtain rfl : m' = m := by omega
          rw [HX.out] at hy
          injection hy with hy
          subst hy
          exact hx0))
        have hcc : (m : Int) + 1 ≤ c := by omega
        clear fin hx0
        go_wp2_with fail
        go_ret
        exact ⟨HF.out, rfl⟩
end Go.Proofs.YtekkifljcppmlaaGreatDoor
