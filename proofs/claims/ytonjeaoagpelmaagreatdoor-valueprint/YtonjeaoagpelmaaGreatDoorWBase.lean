/-
  What is proved here: see the remark of the text Base (the parts of it that this seat needs).
-/
import Derived.Test.YtonjeaoagpelmaaGreatDoorRows
import Derived.WalkKit
import Derived.ProofKit
import Derived.Below
import Derived.Deep.LoopGhost
import Derived.Deep.Draws
import Derived.WalkLawsBesides
namespace Go.Proofs.YtonjeaoagpelmaaGreatDoor
open Go.RowKit
set_option linter.unusedVariables false

theorem toHid {p : Prop} (h : p) : Hid p := h

theorem cell_past (w : World) (o : Obj) (n j : Nat) (h : n < w.heap.size) : (w.alloc o).cell? ⟨n, j, none⟩ = w.cell? ⟨n, j, none⟩ := by
  exact World.cell?_alloc_lt w o (a := ⟨n, j, none⟩) h

theorem ret_int {k : IntKind} {a b : Int} (h : a = b) : Ending.returned (.int k a) = .returned (.int k b) := by rw [h]

theorem isEmpty_no {s : ByteArray} (h : s ≠ ⟨#[]⟩) : s.toList.isEmpty = false := by
  rw [ByteArray.toList_eq]
  rcases s with ⟨⟨l⟩⟩
  cases l with
  | nil => exact absurd rfl h
  | cons a l => rfl

theorem num_any (n : Int) (w : World) :
    Calls Tryz.prog 12 #[.int .i64 n] w fun e w' => e = .returned (.agg #[.int .i64 2, .int .i64 n, .string ⟨#[]⟩, .slice none 0 0]) ∧ Below w.heap.size w w' := by
  go_enter Tryz.func12, Tryz.ntmps12
  go_wp2
  exact bodyPost_ret (v := .agg #[.int .i64 2, .int .i64 n, .string ⟨#[]⟩, .slice none 0 0]) (by simp [results, Tryz.results12, go_sem]) rfl ⟨rfl, (Below.refl _ _).alloc (Nat.le_refl _) _⟩

theorem str_any (s : ByteArray) (w : World) :
    Calls Tryz.prog 13 #[.string s] w fun e w' => e = .returned (.agg #[.int .i64 3, .int .i64 0, .string s, .slice none 0 0]) ∧ Below w.heap.size w w' := by
  go_enter Tryz.func13, Tryz.ntmps13
  go_wp2
  exact bodyPost_ret (v := .agg #[.int .i64 3, .int .i64 0, .string s, .slice none 0 0]) (by simp [results, Tryz.results13, go_sem]) rfl ⟨rfl, (Below.refl _ _).alloc (Nat.le_refl _) _⟩

theorem list_any (a : Option Addr) (n c : Nat) (w : World) :
    Calls Tryz.prog 11 #[.slice a n c] w fun e w' => e = .returned (.agg #[.int .i64 4, .int .i64 0, .string ⟨#[]⟩, .slice a n c]) ∧ Below w.heap.size w w' := by
  go_enter Tryz.func11, Tryz.ntmps11
  go_wp2
  exact bodyPost_ret (v := .agg #[.int .i64 4, .int .i64 0, .string ⟨#[]⟩, .slice a n c]) (by simp [results, Tryz.results11, go_sem]) rfl ⟨rfl, (Below.refl _ _).alloc (Nat.le_refl _) _⟩

set_option maxHeartbeats 1000000 in
theorem checkPlain_int (n : Int) (w : World) :
    Calls Tryz.prog 36 #[.agg #[.int .i64 2, .int .i64 n, .string ⟨#[]⟩, .slice none 0 0]] w fun e w' => e = .returned (.int .i64 0) ∧ Below w.heap.size w w' := by
  go_enter Tryz.func36, Tryz.ntmps36
  go_wp2
  go_ret
  exact ⟨rfl, (Below.refl _ _).alloc (Nat.le_refl _) _⟩

set_option maxHeartbeats 1000000 in
theorem checkPlain_null (w : World) :
    Calls Tryz.prog 36 #[.agg #[.int .i64 0, .int .i64 0, .string ⟨#[]⟩, .slice none 0 0]] w fun e w' => e = .returned (.int .i64 0) ∧ Below w.heap.size w w' := by
  go_enter Tryz.func36, Tryz.ntmps36
  go_wp2
  go_ret
  exact ⟨rfl, (Below.refl _ _).alloc (Nat.le_refl _) _⟩

/-- A row of values, as one reads it: kinds, numbers, texts, lists (their arrays, lengths, capacities). -/
structure Vals where
  k : Nat → Int
  n : Nat → Int
  s : Nat → ByteArray
  a : Nat → Option Addr
  l : Nat → Nat
  c : Nat → Nat

/-- The value at a place of a row. -/
def Vals.at (V : Vals) (i : Nat) : Value := .agg #[.int .i64 (V.k i), .int .i64 (V.n i), .string (V.s i), .slice (V.a i) (V.l i) (V.c i)]

/-- The row lies there. -/
def ListAt (w : World) (b off len : Nat) (V : Vals) : Prop :=
  ∀ i, i < len → w.cell? ⟨b, off + i * 4, none⟩ = some (.int .i64 (V.k i)) ∧ w.cell? ⟨b, off + i * 4 + 1, none⟩ = some (.int .i64 (V.n i)) ∧ w.cell? ⟨b, off + i * 4 + 1 + 1, none⟩ = some (.string (V.s i)) ∧ w.cell? ⟨b, off + i * 4 + 1 + 1 + 1, none⟩ = some (.slice (V.a i) (V.l i) (V.c i))

/-- What a list's check answers, if its values' checks answer 'es'. -/
def firstErr (es : Nat → Int) : Nat → Nat → Int → Int
  | _, 0, z => z
  | i, n + 1, z => if es i = 0 then firstErr es (i + 1) n z else es i

set_option maxHeartbeats 2000000 in
set_option maxRecDepth 100000 in
theorem checkList_any (k n : Int) (s : ByteArray) (b off len cap : Nat) (lists : Int) (es : Nat → Int) (V : Vals) (z : Int) (w : World)
    (hz0 : n = 0 → s = ⟨#[]⟩ → z = 0) (hz1 : n ≠ 0 → z = 6) (hz2 : s ≠ ⟨#[]⟩ → z = 6) (hlen : len ≤ 30) (hl0 : 0 ≤ lists) (hl : lists < 6) (hb : b < w.heap.size) (hat : ListAt w b off len V)
    (hel : ∀ i, i < len → ∀ w', Below w.heap.size w w' → Calls Tryz.prog 20 #[V.at i, .int .i64 (lists + 1)] w' fun e w'' => e = .returned (.int .i64 (es i)) ∧ Below w'.heap.size w' w'') :
    Calls Tryz.prog 34 #[.agg #[.int .i64 k, .int .i64 n, .string s, .slice (some ⟨b, off, none⟩) len cap], .int .i64 lists] w fun e w' => e = .returned (.int .i64 (firstErr es 0 len z)) ∧ Below w.heap.size w w' := by
  have HE := toHid hel
  have HZ0 := toHid hz0
  have HZ1 := toHid hz1
  have HZ2 := toHid hz2
  clear hel hz0 hz1 hz2
  go_enter Tryz.func34, Tryz.ntmps34
  go_wp2_with fail
  go_loopg [19] len (fun g s19 wr => ∃ i : Nat, i ≤ len ∧ len - i ≤ g ∧ s19 = .int .i64 i ∧ Below (w.heap.size + 1) (w.alloc (.cells #[.int .i64 k, .int .i64 n, .string s, .slice (some ⟨b, off, none⟩) len cap] 24)) wr ∧ firstErr es 0 len z = firstErr es i (len - i) z)
  case atStart => exact ⟨0, Nat.zero_le _, by omega, rfl, Below.refl _ _, rfl⟩
  case round =>
    obtain ⟨i, hi, hg, rfl, hbw, hfe⟩ := hrel
    have HF := toHid hfe
    clear hfe
    have hz : w.heap.size + 1 ≤ wr.heap.size := by have := hbw.size; simpa using this
    have hw0 : Below w.heap.size w wr := ((Below.refl _ _).alloc (Nat.le_refl _) _).trans (hbw.mono (by omega))
    by_cases hlt : i < len
    · obtain ⟨c0, c1, c2, c3⟩ := hat i hlt
      clear hat
      have hbc : ∀ o, wr.cell? ⟨b, o, none⟩ = w.cell? ⟨b, o, none⟩ := fun o => by rw [hbw.cell (by show b < _; omega), cell_past _ _ _ _ hb]
      have d0 := (hbc _).trans c0
      have d1 := (hbc _).trans c1
      have d2 := (hbc _).trans c2
      have d3 := (hbc _).trans c3
      clear c0 c1 c2 c3 hbc
      go_wp2_with fail
      refine (HE.out i hlt _ (hw0.alloc (by omega) _)).mono ?_
      rintro e w' ⟨rfl, hb'⟩
      by_cases he : es i = 0
      · have he' : (es i != 0) = false := by simp [he]
        have H2 := toHid he
        clear he
        go_wp2_with fail
        go_roundg (len - (i + 1))
        case measure => omega
        case rel =>
          refine ⟨i + 1, by omega, by omega, by go_num, ?_, ?_⟩
          · exact hbw.trans (((Below.refl _ _).alloc (by omega) _).trans (hb'.mono (by simp; omega)))
          · rw [HF.out, show len - i = (len - (i + 1)) + 1 from by omega, firstErr, if_pos H2.out]
      · have he' : (es i != 0) = true := by simp [he]
        have H2 := toHid he
        clear he
        go_wp2_with fail
        go_ret
        refine ⟨?_, ?_⟩
        · refine ret_int ?_
          rw [HF.out, show len - i = (len - (i + 1)) + 1 from by omega, firstErr, if_neg H2.out]
        · exact hw0.trans (((Below.refl _ _).alloc (by omega) _).trans (hb'.mono (by simp; omega)))
    · have hil : i = len := by omega
      subst hil
      have hc1 : wr.cell? ⟨w.heap.size, 1, none⟩ = some (.int .i64 n) := by rw [hbw.cell (by show w.heap.size < _; omega)]; simp
      have hc2 : wr.cell? ⟨w.heap.size, 2, none⟩ = some (.string s) := by rw [hbw.cell (by show w.heap.size < _; omega)]; simp
      have hff : firstErr es i (i - i) z = z := by rw [Nat.sub_self]; rfl
      have HG := toHid (HF.out.trans hff)
      clear HF hff hat
      by_cases hn : n = 0
      · subst hn
        by_cases hs : s = ⟨#[]⟩
        · subst hs
          have H3 := toHid (HZ0.out rfl rfl)
          clear HZ0 HZ1 HZ2
          go_wp2_with fail
          go_ret
          exact ⟨ret_int (by rw [HG.out, H3.out]), hw0⟩
        · have HS := toHid hs
          have H3 := toHid (HZ2.out hs)
          have hs' := isEmpty_no hs
          clear hs HZ0 HZ1 HZ2
          go_wp2_with fail
          go_ret
          exact ⟨ret_int (by rw [HG.out, H3.out]), hw0⟩
      · have H3 := toHid (HZ1.out hn)
        clear HZ0 HZ1 HZ2
        go_wp2_with fail
        go_ret
        exact ⟨ret_int (by rw [HG.out, H3.out]), hw0⟩

/-- A text's check, given what ValidString answers. -/
theorem checkText_any (n : Int) (s : ByteArray) (a : Option Addr) (l c : Nat) (r : Bool) (w : World) (hs : s.size ≤ 9223372036854775807) (hl : l ≤ 9223372036854775807)
    (hv : ∀ w', Below w.heap.size w w' → Calls Tryz.prog 10 #[.string s] w' fun e w'' => e = .returned (.bool r) ∧ Below w'.heap.size w' w'') :
    Calls Tryz.prog 35 #[.agg #[.int .i64 3, .int .i64 n, .string s, .slice a l c]] w fun e w' => e = .returned (.int .i64 (if s.size > 4000 then 2 else if r = true ∧ n = 0 ∧ l = 0 then 0 else 6)) ∧ Below w.heap.size w w' := by
  have HV := toHid hv
  clear hv
  have fin : ∀ (z : Int), (if s.size > 4000 then 2 else if r = true ∧ n = 0 ∧ l = 0 then 0 else 6 : Int) = z → (Calls Tryz.prog 35 #[.agg #[.int .i64 3, .int .i64 n, .string s, .slice a l c]] w fun e w' => e = .returned (.int .i64 z) ∧ Below w.heap.size w w') → (Calls Tryz.prog 35 #[.agg #[.int .i64 3, .int .i64 n, .string s, .slice a l c]] w fun e w' => e = .returned (.int .i64 (if s.size > 4000 then 2 else if r = true ∧ n = 0 ∧ l = 0 then 0 else 6)) ∧ Below w.heap.size w w') := by
    intro z hz h; rw [hz]; exact h
  by_cases hbig : s.size > 4000
  · refine fin 2 (by simp [hbig]) ?_
    have hbig' : (4000 : Int) < s.size := by omega
    go_enter Tryz.func35, Tryz.ntmps35
    go_wp2_with fail
    go_ret
    exact ⟨rfl, (Below.refl _ _).alloc (Nat.le_refl _) _⟩
  · have hbig' : ¬ (4000 : Int) < s.size := by omega
    refine fin (if r = true ∧ n = 0 ∧ l = 0 then 0 else 6) (by simp [hbig]) ?_
    clear fin
    obtain ⟨z, hz⟩ : ∃ z : Int, z = (if r = true ∧ n = 0 ∧ l = 0 then 0 else 6) := ⟨_, rfl⟩
    rw [← hz]
    have HZ := toHid hz
    clear hz
    go_enter Tryz.func35, Tryz.ntmps35
    go_wp2_with fail
    refine (HV.out _ ((Below.refl _ _).alloc (Nat.le_refl _) _)).mono ?_
    rintro e w' ⟨rfl, hb'⟩
    have hz1 : w.heap.size + 1 ≤ w'.heap.size := by have := hb'.size; simpa using this
    have hw0 : Below w.heap.size w w' := ((Below.refl _ _).alloc (Nat.le_refl _) _).trans (hb'.mono (by simp))
    have hc1 : w'.cell? ⟨w.heap.size, 1, none⟩ = some (.int .i64 n) := by rw [hb'.cell (by simp)]; simp
    have hc3 : w'.cell? ⟨w.heap.size, 3, none⟩ = some (.slice a l c) := by rw [hb'.cell (by simp)]; simp
    cases r with
    | false =>
      have H3 := toHid (show z = 6 by rw [HZ.out]; simp)
      clear HZ
      go_wp2_with fail
      go_ret
      exact ⟨ret_int (by rw [H3.out]), hw0⟩
    | true =>
      by_cases hn : n = 0
      · subst hn
        by_cases hl0 : l = 0
        · subst hl0
          have H3 := toHid (show z = 0 by rw [HZ.out]; simp)
          clear HZ
          go_wp2_with fail
          go_ret
          exact ⟨ret_int (by rw [H3.out]), hw0⟩
        · have H3 := toHid (show z = 6 by rw [HZ.out]; simp [hl0])
          have hl1 : (0 : Int) < l := by omega
          clear HZ hl0
          go_wp2_with fail
          go_ret
          exact ⟨ret_int (by rw [H3.out]), hw0⟩
      · have H3 := toHid (show z = 6 by rw [HZ.out]; simp [hn])
        have hn' : (n != 0) = true := by simp [hn]
        clear HZ hn
        go_wp2_with fail
        go_ret
        exact ⟨ret_int (by rw [H3.out]), hw0⟩

end Go.Proofs.YtonjeaoagpelmaaGreatDoor
