/-
  What is proved here: see the remark of the text Order (the parts of it that this seat needs).
-/
import Derived.Test.YtonjeaoagpelmaaGreatDoorWPValue
namespace Go.Proofs.YtonjeaoagpelmaaGreatDoor
open Go.RowKit
set_option linter.unusedVariables false

/-- Of rows of answers the first that isn't 0; else z. -/
def firstNZ (es : Nat → Int) : Nat → Nat → Int → Int
  | _, 0, z => z
  | i, n + 1, z => if es i = 0 then firstNZ es (i + 1) n z else es i

set_option maxHeartbeats 4000000 in
set_option maxRecDepth 100000 in
theorem order_lists (k n : Int) (s : ByteArray) (b off l c b' off' l' c' : Nat) (V V' : Vals) (es : Nat → Int) (z : Int) (w : World) (hb : b < w.heap.size) (hb' : b' < w.heap.size) (hat : ListAt w b off l V) (hat' : ListAt w b' off' l' V') (hl : l ≤ 9223372036854775806) (hl' : l' ≤ 9223372036854775806)
    (hz0 : l = l' → z = 0) (hz1 : l < l' → z = -1) (hz2 : l' < l → z = 1)
    (hel : ∀ i, i < l → i < l' → ∀ w', Below w.heap.size w w' → Calls Tryz.prog 27 #[V.at i, V'.at i] w' fun e w'' => e = .returned (.int .i64 (es i)) ∧ Below w'.heap.size w' w'') :
    Calls Tryz.prog 27 #[.agg #[.int .i64 k, .int .i64 n, .string s, .slice (some ⟨b, off, none⟩) l c], .agg #[.int .i64 k, .int .i64 n, .string s, .slice (some ⟨b', off', none⟩) l' c']] w fun e w' => e = .returned (.int .i64 (firstNZ es 0 (min l l') z)) ∧ Below w.heap.size w w' := by
  have HE := toHid hel
  have HZ0 := toHid hz0
  have HZ1 := toHid hz1
  have HZ2 := toHid hz2
  have HA := toHid hat
  have HA' := toHid hat'
  clear hel hz0 hz1 hz2 hat hat'
  obtain ⟨R, hR⟩ : ∃ R, R = firstNZ es 0 (min l l') z := ⟨_, rfl⟩
  rw [← hR]
  have HR := toHid hR
  clear hR
  go_enter Tryz.func27, Tryz.ntmps27
  go_wp2_with fail
  go_loopg [5] (min l l') (fun g s5 wr => ∃ i : Nat, i ≤ min l l' ∧ min l l' - i ≤ g ∧ s5 = .int .i64 i ∧ Below (w.heap.size + 2) ((w.alloc (.cells #[.int .i64 k, .int .i64 n, .string s, .slice (some ⟨b, off, none⟩) l c] 24)).alloc (.cells #[.int .i64 k, .int .i64 n, .string s, .slice (some ⟨b', off', none⟩) l' c'] 24)) wr ∧ R = firstNZ es i (min l l' - i) z)
  case atStart => exact ⟨0, Nat.zero_le _, by omega, rfl, Below.refl _ _, HR.out⟩
  case round =>
    obtain ⟨i, hi, hg, rfl, hbw, hfe⟩ := hrel
    have HF := toHid hfe
    clear hfe HR
    have hzw : w.heap.size + 2 ≤ wr.heap.size := by have := hbw.size; simpa using this
    have hw0 : Below w.heap.size w wr := (((Below.refl _ _).alloc (Nat.le_refl _) _).alloc (by simp) _).trans (hbw.mono (by omega))
    have x3 : wr.cell? ⟨w.heap.size, 3, none⟩ = some (.slice (some ⟨b, off, none⟩) l c) := by
      rw [hbw.cell (by show w.heap.size < _; omega), cell_past _ _ _ _ (by simp)]
      simp
    have y3 : wr.cell? ⟨w.heap.size + 1, 3, none⟩ = some (.slice (some ⟨b', off', none⟩) l' c') := by
      rw [hbw.cell (by show w.heap.size + 1 < _; omega)]
      exact cell_of (alloc_two w _ _) 3
    by_cases hlt : i < min l l'
    · have h1 : i < l := by omega
      have h2 : i < l' := by omega
      obtain ⟨p0, p1, p2, p3⟩ := HA.out i h1
      obtain ⟨q0, q1, q2, q3⟩ := HA'.out i h2
      have hbc : ∀ o, wr.cell? ⟨b, o, none⟩ = w.cell? ⟨b, o, none⟩ := fun o => hw0.cell (p := ⟨b, o, none⟩) hb
      have hbc' : ∀ o, wr.cell? ⟨b', o, none⟩ = w.cell? ⟨b', o, none⟩ := fun o => hw0.cell (p := ⟨b', o, none⟩) hb'
      have c0 := (hbc _).trans p0
      have c1 := (hbc _).trans p1
      have c2 := (hbc _).trans p2
      have c3 := (hbc _).trans p3
      have d0 := (hbc' _).trans q0
      have d1 := (hbc' _).trans q1
      have d2 := (hbc' _).trans q2
      have d3 := (hbc' _).trans q3
      have i1 : (i : Int) < (l : Int) := by omega
      have i2 : (i : Int) < (l' : Int) := by omega
      clear p0 p1 p2 p3 q0 q1 q2 q3 hbc hbc' hlt
      go_wp2_with fail
      go_region_with (go_at_call 27; refine (HE.out i h1 h2 _ (hw0.drew)).mono ?_; rintro e w2 ⟨rfl, hb2⟩)
      all_goals
        have hb3 : Below wr.heap.size wr w2 := ((Below.refl _ _).drew).trans hb2
        by_cases he : es i = 0
        · have he' : (es i != 0) = false := by simp [he]
          have H2 := toHid he
          clear he hb2
          go_wp2_with fail
          go_roundg (min l l' - (i + 1))
          case measure => omega
          case rel =>
            refine ⟨i + 1, by omega, by omega, by go_num, hbw.trans (hb3.mono (by omega)), ?_⟩
            rw [HF.out, show min l l' - i = (min l l' - (i + 1)) + 1 from by omega, firstNZ, if_pos H2.out]
        · have he' : (es i != 0) = true := by simp [he]
          have H2 := toHid he
          clear he hb2
          go_wp2_with fail
          go_ret
          refine ⟨ret_int ?_, hw0.trans (hb3.mono (by omega))⟩
          rw [HF.out, show min l l' - i = (min l l' - (i + 1)) + 1 from by omega, firstNZ, if_neg H2.out]
    · have hii : i = min l l' := by omega
      have hR : R = z := by rw [HF.out, hii, Nat.sub_self]; rfl
      have HR := toHid hR
      clear HF hR HA HA' HE
      by_cases h1 : l < l'
      · have hz := toHid (HZ1.out h1)
        have e1 : ¬ (i : Int) < (l : Int) := by omega
        have e2 : (l : Int) < (l' : Int) := by omega
        have e3 : decide ((i : Int) < (l : Int)) = false := by simp; omega
        clear HZ0 HZ1 HZ2 hlt hii
        go_wp2_with fail
        go_ret
        exact ⟨ret_int (by rw [HR.out, hz.out]), hw0⟩
      · by_cases h2 : l' < l
        · have hz := toHid (HZ2.out h2)
          have e1 : (i : Int) < (l : Int) := by omega
          have e2 : ¬ (i : Int) < (l' : Int) := by omega
          have e3 : ¬ (l : Int) < (l' : Int) := by omega
          have e4 : (l' : Int) < (l : Int) := by omega
          clear HZ0 HZ1 HZ2 hlt hii
          go_wp2_with fail
          go_ret
          exact ⟨ret_int (by rw [HR.out, hz.out]), hw0⟩
        · have hz := toHid (HZ0.out (by omega))
          have e1 : ¬ (i : Int) < (l : Int) := by omega
          have e3 : ¬ (l : Int) < (l' : Int) := by omega
          have e4 : ¬ (l' : Int) < (l : Int) := by omega
          clear HZ0 HZ1 HZ2 hlt hii
          go_wp2_with fail
          go_ret
          exact ⟨ret_int (by rw [HR.out, hz.out]), hw0⟩

set_option maxHeartbeats 2000000 in
set_option maxRecDepth 100000 in
/-- Where a list has no values. -/
theorem order_empty (k n : Int) (s : ByteArray) (a a' : Option Addr) (l c l' c' : Nat) (z : Int) (w : World) (hl : l ≤ 9223372036854775806) (hl' : l' ≤ 9223372036854775806) (h0 : l = 0 ∨ l' = 0)
    (hz0 : l = l' → z = 0) (hz1 : l < l' → z = -1) (hz2 : l' < l → z = 1) :
    Calls Tryz.prog 27 #[.agg #[.int .i64 k, .int .i64 n, .string s, .slice a l c], .agg #[.int .i64 k, .int .i64 n, .string s, .slice a' l' c']] w fun e w' => e = .returned (.int .i64 z) ∧ Below w.heap.size w w' := by
  have HZ0 := toHid hz0
  have HZ1 := toHid hz1
  have HZ2 := toHid hz2
  clear hz0 hz1 hz2
  go_enter Tryz.func27, Tryz.ntmps27
  go_wp2_with fail
  go_loopg [5] 0 (fun g s5 wr => s5 = .int .i64 0 ∧ wr = (w.alloc (.cells #[.int .i64 k, .int .i64 n, .string s, .slice a l c] 24)).alloc (.cells #[.int .i64 k, .int .i64 n, .string s, .slice a' l' c'] 24))
  case atStart => exact ⟨rfl, rfl⟩
  case round =>
    obtain ⟨rfl, rfl⟩ := hrel
    have hw0 : Below w.heap.size w ((w.alloc (.cells #[.int .i64 k, .int .i64 n, .string s, .slice a l c] 24)).alloc (.cells #[.int .i64 k, .int .i64 n, .string s, .slice a' l' c'] 24)) := ((Below.refl _ _).alloc (Nat.le_refl _) _).alloc (by simp) _
    by_cases h1 : l < l'
    · have hz := toHid (HZ1.out h1)
      have e1 : ¬ (0 : Int) < (l : Int) := by omega
      have e2 : (l : Int) < (l' : Int) := by omega
      clear HZ0 HZ1 HZ2 h0
      go_wp2_with fail
      go_ret
      exact ⟨ret_int (by rw [hz.out]), hw0⟩
    · by_cases h2 : l' < l
      · have hz := toHid (HZ2.out h2)
        have e1 : (0 : Int) < (l : Int) := by omega
        have e2 : ¬ (0 : Int) < (l' : Int) := by omega
        have e3 : ¬ (l : Int) < (l' : Int) := by omega
        have e4 : (l' : Int) < (l : Int) := by omega
        clear HZ0 HZ1 HZ2 h0
        go_wp2_with fail
        go_ret
        exact ⟨ret_int (by rw [hz.out]), hw0⟩
      · have hz := toHid (HZ0.out (by omega))
        have e1 : ¬ (0 : Int) < (l : Int) := by omega
        have e3 : ¬ (l : Int) < (l' : Int) := by omega
        have e4 : ¬ (l' : Int) < (l : Int) := by omega
        clear HZ0 HZ1 HZ2 h0
        go_wp2_with fail
        go_ret
        exact ⟨ret_int (by rw [hz.out]), hw0⟩

set_option maxHeartbeats 1000000 in
theorem same_of (k n : Int) (s : ByteArray) (a : Option Addr) (l c : Nat) (k' n' : Int) (s' : ByteArray) (a' : Option Addr) (l' c' : Nat) (z : Int) (w : World)
    (h : ∀ w', Below w.heap.size w w' → Calls Tryz.prog 27 #[.agg #[.int .i64 k, .int .i64 n, .string s, .slice a l c], .agg #[.int .i64 k', .int .i64 n', .string s', .slice a' l' c']] w' fun e w'' => e = .returned (.int .i64 z) ∧ Below w'.heap.size w' w'') :
    Calls Tryz.prog 15 #[.agg #[.int .i64 k, .int .i64 n, .string s, .slice a l c], .agg #[.int .i64 k', .int .i64 n', .string s', .slice a' l' c']] w fun e w' => e = .returned (.bool (z == 0)) ∧ Below w.heap.size w w' := by
  have HV := toHid h
  clear h
  go_enter Tryz.func15, Tryz.ntmps15
  go_wp2_with fail
  refine (HV.out _ (((Below.refl _ _).alloc (Nat.le_refl _) _).alloc (by simp) _)).mono ?_
  rintro e w' ⟨rfl, hb'⟩
  go_wp2_with fail
  go_ret
  exact ⟨rfl, (((Below.refl _ _).alloc (Nat.le_refl _) _).alloc (by simp) _).trans (hb'.mono (by simp; omega))⟩

end Go.Proofs.YtonjeaoagpelmaaGreatDoor
