/-
  What is proved here: espalierref.BytesOf answers the bytes of any value that Check takes; what was there is as it was.
-/
import Derived.Test.YtdefjgbiinahdaaDoorCTreeA
import Derived.Test.YtdefjgbiinahdaaDoorCRef1
import Derived.Test.YtdefjgbiinahdaaDoorShelf
import Derived.Lib.BufferKept
namespace Go.Proofs.YtdefjgbiinahdaaDoor
open Go.RowKit
set_option linter.unusedVariables false

/-- A buffer's type. -/
abbrev BUF : TypeId := 60

theorem buf_carry {B b : Nat} {bs : List Value} {w w' : World} (h : Lib.IsBuffer BUF BE B b bs w) (k : Below w.heap.size w w') : Lib.IsBuffer BUF BE B b bs w' := by
  have hlt := h.lt
  obtain ⟨h1, v, lr, h2, h3, h4⟩ := h
  exact ⟨h1, v, lr, (k.block b hlt).trans h2, row_kept h3 (fun j _ hj => k.block j hj), h4⟩

theorem xor_high (x : Nat) (h : x < 18446744073709551616) : x ^^^ 9223372036854775808 = (x + 9223372036854775808) % 18446744073709551616 := by
  have key : ∀ r, r < 9223372036854775808 → r ^^^ 9223372036854775808 = r + 9223372036854775808 := by
    intro r hr
    have e63 : (9223372036854775808 : Nat) = 2 ^ 63 := by decide
    rw [e63] at hr ⊢
    apply Nat.eq_of_testBit_eq
    intro i
    rw [Nat.testBit_xor, Nat.testBit_two_pow, Nat.add_comm r]
    rcases Nat.lt_trichotomy i 63 with hi | hi | hi
    · rw [Nat.testBit_two_pow_add_gt hi, show decide (63 = i) = false from by simp; omega]; simp
    · subst hi
      rw [Nat.testBit_two_pow_add_eq]; simp
    · rw [Nat.testBit_lt_two_pow (x := r) (i := i) (Nat.lt_trans hr (Nat.pow_lt_pow_right (by decide) hi)), Nat.testBit_lt_two_pow (x := 2 ^ 63 + r) (i := i) (Nat.lt_of_lt_of_le (show 2 ^ 63 + r < 2 ^ 64 by omega) (Nat.pow_le_pow_right (by decide) hi)), show decide (63 = i) = false from by simp; omega]
      rfl
  by_cases hx : x < 9223372036854775808
  · rw [key x hx]; omega
  · obtain ⟨r, rfl⟩ : ∃ r, x = r + 9223372036854775808 := ⟨x - 9223372036854775808, by omega⟩
    rw [← key r (by omega), Nat.xor_assoc, Nat.xor_self, Nat.xor_zero, key r (by omega)]
    omega

theorem xor_up (n : Int) (h0 : -9223372036854775808 ≤ n) (h1 : n ≤ 9223372036854775807) : bits .xor .u64 (IntKind.u64.wrap n) 9223372036854775808 = (up n : Int) := by
  rw [IntKind.wrap_u64]
  obtain ⟨x, hx⟩ : ∃ x : Nat, n % 18446744073709551616 = (x : Int) := ⟨(n % 18446744073709551616).toNat, by omega⟩
  have hx2 : x < 18446744073709551616 := by omega
  rw [hx]
  have := u64_xor_nat x 9223372036854775808 hx2 (by omega)
  rw [xor_high x hx2] at this
  have e : (9223372036854775808 : Int) = ((9223372036854775808 : Nat) : Int) := rfl
  rw [e, this]
  unfold up
  omega

theorem bT_len : ∀ (d : Nat) (t : T), Ck d t → (bT t).length ≤ 4003 * 31 ^ d := by
  have p : ∀ d, 1 ≤ 31 ^ d := fun d => Nat.one_le_pow _ _ (by decide)
  have flat : ∀ (d : Nat) (m : Nat), m ≤ 4003 → m ≤ 4003 * 31 ^ d := fun d m h => Nat.le_trans h (Nat.le_mul_of_pos_right _ (p d))
  intro d
  induction d with
  | zero =>
    intro t h
    cases h with
    | null => unfold bT; simp
    | bool => unfold bT; simp [hiB_length]
    | int => unfold bT; simp [hiB_length]
    | text d s h0 h1 => unfold bT; simp [hiB_length]; omega
  | succ d ih =>
    intro t h
    cases h with
    | null => exact flat _ _ (by unfold bT; simp)
    | bool => exact flat _ _ (by unfold bT; simp [hiB_length])
    | int => exact flat _ _ (by unfold bT; simp [hiB_length])
    | text d s h0 h1 => exact flat _ _ (by unfold bT; simp [hiB_length]; omega)
    | list d L g0 g1 =>
      have e : ∀ M : List T, (∀ u ∈ M, Ck d u) → (bL M).length ≤ M.length * (4003 * 31 ^ d) := by
        intro M
        induction M with
        | nil => intro _; simp [bL]
        | cons u us ihM =>
          intro hM
          have h1 := ih u (hM u (List.mem_cons_self ..))
          have h2 := ihM (fun y hy => hM y (List.mem_cons_of_mem _ hy))
          rw [bL_cons, List.length_append, List.length_cons, Nat.add_mul]
          omega
      have h3 := e L g1
      have h4 : L.length * (4003 * 31 ^ d) ≤ 30 * (4003 * 31 ^ d) := Nat.mul_le_mul_right _ g0
      have h5 := p d
      rw [bT_list, Nat.pow_succ]
      simp only [List.length_cons, List.length_append, hiB_length]
      omega

theorem cells_one (l : List UInt8) : ∀ v ∈ Lib.byteCells l, v.oneCell' = true := Lib.byteCells_one l

theorem cells_more (l : List UInt8) (c : UInt8) : Lib.byteCells l ++ [.int .u8 (c.toNat : Int)] = Lib.byteCells (l ++ [c]) := by simp [Lib.byteCells]


/-- The box of the value, and behind it the new buffer: the first byte. -/
theorem wb_first (O : Obj) (w : World) (k : Int) (c : UInt8) (hk : k = (c.toNat : Int)) :
    Calls Tryd.prog 27 #[.pointer (some ⟨w.heap.size + 1, 0, none⟩), .int .u8 k] ((w.alloc O).alloc (.cells #[.slice none 0 0, .int .i64 0, .int .i8 0] BUF)) fun e w' => e = .returned .nilIface ∧ Lib.IsBuffer BUF BE (w.heap.size + 1) (w.heap.size + 1) (Lib.byteCells [c]) w' ∧ w'.heap[w.heap.size]? = some O ∧ Below w.heap.size w w' ∧ w.heap.size + 2 ≤ w'.heap.size := by
  subst hk
  have hz : (w.alloc O).heap.size = w.heap.size + 1 := by simp
  have hf := Lib.fresh_isBuffer BUF BE (w.alloc O)
  rw [hz] at hf
  refine (Tryd.Buffer_WriteByte_k (w.heap.size + 1) (w.heap.size + 1) [] (c.toNat : Int) _ hf (by simp) (fun v hv => by cases hv) (by simp)).mono ?_
  rintro e w' ⟨rfl, hb, hB, _⟩
  have h0 : Below w.heap.size w ((w.alloc O).alloc (.cells #[.slice none 0 0, .int .i64 0, .int .i8 0] BUF)) := ((Below.refl _ _).alloc (Nat.le_refl _) _).alloc (by simp) _
  have hs := hB.size
  simp at hs
  refine ⟨rfl, hb, ?_, h0.trans (hB.mono (by omega)), by omega⟩
  rw [hB.block w.heap.size (by omega), Below.heap_alloc _ _ _ (by simp)]
  exact alloc_new _ _

/-- A text more. -/
theorem wb_str (B b : Nat) (l : List UInt8) (s : ByteArray) (w : World) (h : Lib.IsBuffer BUF BE B b (Lib.byteCells l) w) (hBw : B ≤ w.heap.size) (hl : l.length + s.size ≤ 140737488355328) :
    Calls Tryd.prog 28 #[.pointer (some ⟨b, 0, none⟩), .string s] w fun e w' => e = .returned (.tuple #[.int .i64 s.size, .nilIface]) ∧ Lib.IsBuffer BUF BE B b (Lib.byteCells (l ++ s.data.toList)) w' ∧ Below B w w' := by
  refine (Tryd.Buffer_WriteString_k B b _ s w h hBw (cells_one l) (by simpa [Lib.byteCells] using hl)).mono ?_
  rintro e w' ⟨rfl, hb, hB, _⟩
  exact ⟨rfl, by simpa [Lib.byteCells] using hb, hB⟩

/-- A byte more. -/
theorem wb_byte (B b : Nat) (l : List UInt8) (k : Int) (c : UInt8) (w : World) (hk : k = (c.toNat : Int)) (h : Lib.IsBuffer BUF BE B b (Lib.byteCells l) w) (hBw : B ≤ w.heap.size) (hl : l.length + 1 ≤ 140737488355328) :
    Calls Tryd.prog 27 #[.pointer (some ⟨b, 0, none⟩), .int .u8 k] w fun e w' => e = .returned .nilIface ∧ Lib.IsBuffer BUF BE B b (Lib.byteCells (l ++ [c])) w' ∧ Below B w w' := by
  subst hk
  refine (Tryd.Buffer_WriteByte_k B b _ (c.toNat : Int) w h hBw (cells_one l) (by simpa [Lib.byteCells] using hl)).mono ?_
  rintro e w' ⟨rfl, hb, hB, _⟩
  exact ⟨rfl, by simpa [Lib.byteCells] using hb, hB⟩

theorem drew_below (n B : Nat) (w : World) : Below B w (w.drewN n) := ⟨rfl, rfl, rfl, Nat.le_refl _, fun _ _ => rfl⟩

set_option maxHeartbeats 2000000 in
set_option maxRecDepth 100000 in
theorem bo_null (a : Option Addr) (c : Nat) (w : World) :
    Calls Tryd.prog 12 #[.agg #[.int .i64 0, .int .i64 0, .string ⟨#[]⟩, .slice a 0 c]] w fun e w' => e = .returned (.string ⟨#[0]⟩) ∧ Below w.heap.size w w' := by
  go_enter Tryd.func12, Tryd.ntmps12
  go_wp2_with fail
  refine (wb_first _ w 0 0 rfl).mono ?_
  rintro e w1 ⟨rfl, hb1, hx1, hB1, hs1⟩
  have x0 := cell_of hx1 0
  simp at x0
  have HX := toHid hx1
  have HB := toHid hb1
  clear hx1 hb1
  go_wp2_with fail
  refine (Tryd.Buffer_String _ _ _ w1 HB.out).mono ?_
  rintro e w2 ⟨rfl, n, rfl⟩
  go_wp2_with fail
  go_ret
  exact ⟨rfl, hB1.trans (drew_below n _ w1)⟩


set_option maxHeartbeats 2000000 in
set_option maxRecDepth 100000 in
theorem bo_num1 (n : Int) (a : Option Addr) (c : Nat) (w : World) (h0 : -9223372036854775808 ≤ n) (h1 : n ≤ 9223372036854775807) :
    Calls Tryd.prog 12 #[.agg #[.int .i64 1, .int .i64 n, .string ⟨#[]⟩, .slice a 0 c]] w fun e w' => e = .returned (.string ⟨(1 :: hiB (up n) 8).toArray⟩) ∧ Below w.heap.size w w' := by
  have hx := xor_up n h0 h1
  have hu : up n ≤ 18446744073709551615 := by unfold up; omega
  go_enter Tryd.func12, Tryd.ntmps12
  go_wp2_with fail
  refine (wb_first _ w 1 1 rfl).mono ?_
  rintro e w1 ⟨rfl, hb1, hx1, hB1, hs1⟩
  have x0 := cell_of hx1 0
  have x1 := cell_of hx1 1
  simp at x0 x1
  have HX := toHid hx1
  have HB := toHid hb1
  clear hx1 hb1
  go_wp2_with fail
  refine (high_any (up n) 8 w1 (by omega) hu).mono ?_
  rintro e w2 ⟨rfl, hB2⟩
  have hb2 := buf_carry HB.out hB2
  have hs2 : w1.heap.size ≤ w2.heap.size := hB2.size
  have hB3 : Below w.heap.size w w2 := hB1.trans (hB2.mono (by omega))
  have HB2 := toHid hb2
  clear hb2 hB2
  go_wp2_with fail
  refine (wb_str _ _ _ _ w2 HB2.out (by omega) (by simp [ByteArray.size, hiB_length])).mono ?_
  rintro e w3 ⟨rfl, hb3, hB4⟩
  have HB3 := toHid hb3
  have hB5 : Below w.heap.size w w3 := hB3.trans (hB4.mono (by omega))
  clear hb3 hB4
  go_wp2_with fail
  refine (Tryd.Buffer_String _ _ _ w3 HB3.out).mono ?_
  rintro e w4 ⟨rfl, m, rfl⟩
  go_wp2_with fail
  go_ret
  exact ⟨by simp, hB5.trans (drew_below m _ w3)⟩

set_option maxHeartbeats 2000000 in
set_option maxRecDepth 100000 in
theorem bo_num2 (n : Int) (a : Option Addr) (c : Nat) (w : World) (h0 : -9223372036854775808 ≤ n) (h1 : n ≤ 9223372036854775807) :
    Calls Tryd.prog 12 #[.agg #[.int .i64 2, .int .i64 n, .string ⟨#[]⟩, .slice a 0 c]] w fun e w' => e = .returned (.string ⟨(2 :: hiB (up n) 8).toArray⟩) ∧ Below w.heap.size w w' := by
  have hx := xor_up n h0 h1
  have hu : up n ≤ 18446744073709551615 := by unfold up; omega
  go_enter Tryd.func12, Tryd.ntmps12
  go_wp2_with fail
  refine (wb_first _ w 2 2 rfl).mono ?_
  rintro e w1 ⟨rfl, hb1, hx1, hB1, hs1⟩
  have x0 := cell_of hx1 0
  have x1 := cell_of hx1 1
  simp at x0 x1
  have HX := toHid hx1
  have HB := toHid hb1
  clear hx1 hb1
  go_wp2_with fail
  refine (high_any (up n) 8 w1 (by omega) hu).mono ?_
  rintro e w2 ⟨rfl, hB2⟩
  have hb2 := buf_carry HB.out hB2
  have hs2 : w1.heap.size ≤ w2.heap.size := hB2.size
  have hB3 : Below w.heap.size w w2 := hB1.trans (hB2.mono (by omega))
  have HB2 := toHid hb2
  clear hb2 hB2
  go_wp2_with fail
  refine (wb_str _ _ _ _ w2 HB2.out (by omega) (by simp [ByteArray.size, hiB_length])).mono ?_
  rintro e w3 ⟨rfl, hb3, hB4⟩
  have HB3 := toHid hb3
  have hB5 : Below w.heap.size w w3 := hB3.trans (hB4.mono (by omega))
  clear hb3 hB4
  go_wp2_with fail
  refine (Tryd.Buffer_String _ _ _ w3 HB3.out).mono ?_
  rintro e w4 ⟨rfl, m, rfl⟩
  go_wp2_with fail
  go_ret
  exact ⟨by simp, hB5.trans (drew_below m _ w3)⟩

set_option maxHeartbeats 2000000 in
set_option maxRecDepth 100000 in
theorem bo_text (s : ByteArray) (a : Option Addr) (c : Nat) (w : World) (hs : s.size ≤ 4000) :
    Calls Tryd.prog 12 #[.agg #[.int .i64 3, .int .i64 0, .string s, .slice a 0 c]] w fun e w' => e = .returned (.string ⟨(3 :: (hiB s.size 2 ++ s.data.toList)).toArray⟩) ∧ Below w.heap.size w w' := by
  have hwr : IntKind.u64.wrap (s.size : Int) = (s.size : Int) := by rw [IntKind.wrap_u64]; omega
  go_enter Tryd.func12, Tryd.ntmps12
  go_wp2_with fail
  refine (wb_first _ w 3 3 rfl).mono ?_
  rintro e w1 ⟨rfl, hb1, hx1, hB1, hs1⟩
  have x0 := cell_of hx1 0
  have x2 := cell_of hx1 2
  simp at x0 x2
  have HX := toHid hx1
  have HB := toHid hb1
  clear hx1 hb1
  go_wp2_with fail
  refine (high_any s.size 2 w1 (by omega) (by omega)).mono ?_
  rintro e w2 ⟨rfl, hB2⟩
  have hb2 := buf_carry HB.out hB2
  have hs2 : w1.heap.size ≤ w2.heap.size := hB2.size
  have hB3 : Below w.heap.size w w2 := hB1.trans (hB2.mono (by omega))
  have hx2 : w2.heap[w.heap.size]? = some _ := (hB2.block _ (by omega)).trans HX.out
  have HB2 := toHid hb2
  have HX2 := toHid hx2
  clear hb2 hB2 hx2
  go_wp2_with fail
  refine (wb_str _ _ _ _ w2 HB2.out (by omega) (by show 1 + (hiB s.size 2).toArray.size ≤ _; rw [List.size_toArray, hiB_length]; omega)).mono ?_
  rintro e w3 ⟨rfl, hb3, hB4⟩
  have HB3 := toHid hb3
  have hs3 : w2.heap.size ≤ w3.heap.size := hB4.size
  have hB5 : Below w.heap.size w w3 := hB3.trans (hB4.mono (by omega))
  have hx3 : w3.heap[w.heap.size]? = some _ := (hB4.block _ (by omega)).trans HX2.out
  have y2 := cell_of hx3 2
  simp at y2
  clear hb3 hB4 hx3
  go_wp2_with fail
  refine (wb_str _ _ _ _ w3 HB3.out (by omega) (by show ([3] ++ (hiB s.size 2).toArray.toList).length + s.size ≤ _; rw [List.length_append, List.toList_toArray, hiB_length, List.length_singleton]; omega)).mono ?_
  rintro e w4 ⟨rfl, hb4, hB6⟩
  have HB4 := toHid hb4
  have hB7 : Below w.heap.size w w4 := hB5.trans (hB6.mono (by omega))
  clear hb4 hB6
  go_wp2_with fail
  refine (Tryd.Buffer_String _ _ _ w4 HB4.out).mono ?_
  rintro e w5 ⟨rfl, m, rfl⟩
  go_wp2_with fail
  go_ret
  exact ⟨by simp, hB7.trans (drew_below m _ w4)⟩

theorem cats_len (ps : Nat → List UInt8) (n M : Nat) (h : ∀ i, i < n → (ps i).length ≤ M) : ∀ k, k ≤ n → (cats ps k).length ≤ k * M
  | 0, _ => by simp [cats]
  | k + 1, hk => by
    have h1 := cats_len ps n M h k (by omega)
    have h2 := h k (by omega)
    rw [cats, List.length_append, Nat.add_mul]
    omega

set_option maxHeartbeats 4000000 in
set_option maxRecDepth 100000 in
theorem bo_list (a : Option Addr) (len cap : Nat) (V : Vals) (ps : Nat → List UInt8) (w : World) (hlen : len ≤ 30) (hps : ∀ i, i < len → (ps i).length ≤ 4000000000000)
    (ha : 0 < len → ∃ b off, a = some ⟨b, off, none⟩ ∧ b < w.heap.size ∧ ListAt w b off len V)
    (hel : ∀ i, i < len → ∀ W, Below w.heap.size w W → Calls Tryd.prog 12 #[V.at i] W fun e w' => e = .returned (.string ⟨(ps i).toArray⟩) ∧ Below W.heap.size W w') :
    Calls Tryd.prog 12 #[.agg #[.int .i64 4, .int .i64 0, .string ⟨#[]⟩, .slice a len cap]] w fun e w' => e = .returned (.string ⟨(4 :: (hiB len 1 ++ cats ps len)).toArray⟩) ∧ Below w.heap.size w w' := by
  have HE := toHid hel
  have HA := toHid ha
  have HC := toHid (cats_len ps len _ hps)
  have HP := toHid hps
  clear hel ha hps
  have hwr : IntKind.u8.wrap (len : Int) = (len : Int) := by rw [IntKind.wrap_u8]; omega
  obtain ⟨cl, hcl, hcl2⟩ : ∃ c : UInt8, (len : Int) = (c.toNat : Int) ∧ hiB len 1 = [c] := ⟨UInt8.ofNat len, by simp; omega, by simp [hiB]⟩
  have HCL := toHid hcl
  have HCL2 := toHid hcl2
  clear hcl hcl2
  go_enter Tryd.func12, Tryd.ntmps12
  go_wp2_with fail
  refine (wb_first _ w 4 4 rfl).mono ?_
  rintro e w1 ⟨rfl, hb1, hx1, hB1, hs1⟩
  have x0 := cell_of hx1 0
  have x3 := cell_of hx1 3
  simp at x0 x3
  have HX := toHid hx1
  have HB := toHid hb1
  clear hx1 hb1
  go_wp2_with fail
  refine (wb_byte _ _ _ _ cl w1 HCL.out HB.out (by omega) (by simp)).mono ?_
  rintro e w2 ⟨rfl, hb2, hB2⟩
  have hs2 : w1.heap.size ≤ w2.heap.size := hB2.size
  have hB3 : Below w.heap.size w w2 := hB1.trans (hB2.mono (by omega))
  have hx2 : w2.heap[w.heap.size]? = some _ := (hB2.block _ (by omega)).trans HX.out
  have y3 := cell_of hx2 3
  simp at y3
  have HB2 := toHid hb2
  clear hb2 hB2 hx2
  go_wp2_with fail
  go_loopg [42] len (fun g s42 wr => ∃ (k : Nat), k ≤ len ∧ len - k ≤ g ∧ s42 = .int .i64 k ∧ Lib.IsBuffer BUF BE (w.heap.size + 1) (w.heap.size + 1) (Lib.byteCells ([4] ++ [cl] ++ cats ps k)) wr ∧ Below w.heap.size w wr ∧ w.heap.size + 2 ≤ wr.heap.size)
  case atStart => exact ⟨0, Nat.zero_le _, by omega, rfl, by simpa [cats] using HB2.out, hB3, by omega⟩
  case round =>
    clear HB2 hB3 y3
    obtain ⟨k, hk, hg, rfl, hb, hbw, hsz⟩ := hrel
    have HBW := toHid hb
    clear hb
    by_cases hlt : k < len
    · obtain ⟨b, off, ha, hb, hat⟩ := HA.out (by omega)
      subst ha
      obtain ⟨g0, g1, g2, g3⟩ := hat k hlt
      have hbc : ∀ o, wr.cell? ⟨b, o, none⟩ = w.cell? ⟨b, o, none⟩ := fun o => hbw.cell (p := ⟨b, o, none⟩) hb
      have d0 := (hbc _).trans g0
      have d1 := (hbc _).trans g1
      have d2 := (hbc _).trans g2
      have d3 := (hbc _).trans g3
      clear g0 g1 g2 g3 hbc hat
      go_wp2_with fail
      refine (HE.out k hlt _ (hbw.alloc (by omega) _)).mono ?_
      rintro e w4 ⟨rfl, hb4⟩
      have HB4 := toHid (buf_carry (HBW.out.alloc _) hb4)
      have hb5 : Below w.heap.size w w4 := (hbw.alloc (by omega) _).trans (hb4.mono (by simp; omega))
      have hs4 : wr.heap.size ≤ w4.heap.size := by have := hb4.size; simp at this; omega
      clear hb4
      go_wp2_with fail
      refine (wb_str _ _ _ _ w4 HB4.out (by omega) ?_).mono ?_
      · have h1 := HC.out k (by omega)
        have h2 := HP.out k hlt
        have h3 : k * 4000000000000 ≤ 30 * 4000000000000 := Nat.mul_le_mul_right _ (by omega)
        show ([4] ++ [cl] ++ cats ps k).length + (ps k).toArray.size ≤ _
        rw [List.length_append, List.size_toArray]
        simp only [List.length_append, List.length_singleton]
        omega
      rintro e w5 ⟨rfl, hb6, hB6⟩
      have HB6 := toHid hb6
      have hs5 : w4.heap.size ≤ w5.heap.size := hB6.size
      have hb7 : Below w.heap.size w w5 := hb5.trans (hB6.mono (by omega))
      clear hb6 hB6
      go_wp2_with fail
      go_roundg (len - (k + 1))
      case measure => omega
      case rel =>
        refine ⟨k + 1, by omega, by omega, by go_num, ?_, hb7, by omega⟩
        have := HB6.out
        rw [List.append_assoc] at this
        exact this
    · have hkk : k = len := by omega
      have HK := toHid hkk
      clear hkk
      go_wp2_with fail
      refine (Tryd.Buffer_String _ _ _ wr HBW.out).mono ?_
      rintro e w5 ⟨rfl, m, rfl⟩
      go_wp2_with fail
      go_ret
      refine ⟨?_, hbw.trans (drew_below m _ wr)⟩
      rw [HCL2.out, HK.out]
      rfl
end Go.Proofs.YtdefjgbiinahdaaDoor
