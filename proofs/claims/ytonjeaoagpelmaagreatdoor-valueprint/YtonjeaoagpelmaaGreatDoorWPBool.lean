/-
  What is proved here: see the remark of the text PBool (the parts of it that this seat needs).
-/
import Derived.Test.YtonjeaoagpelmaaGreatDoorWPTree
import Derived.Test.YtonjeaoagpelmaaGreatDoorShelf
namespace Go.Proofs.YtonjeaoagpelmaaGreatDoor
open Go.RowKit
set_option linter.unusedVariables false

/-- 'true' or 'false'. -/
def boolB (b : Bool) : List UInt8 := if b then [116, 114, 117, 101] else [102, 97, 108, 115, 101]

set_option maxHeartbeats 2000000 in
set_option maxRecDepth 100000 in
theorem appendBool_in (B : Nat) (sv : Value) (l : List UInt8) (b : Bool) (w : World) (h : Out B w sv l) (hB : B ≤ w.heap.size) (hl : l.length ≤ 20000) :
    Calls Tryz.prog 37 #[sv, .bool b] w fun e w' => ∃ v', e = .returned v' ∧ Out B w' v' (l ++ boolB b) ∧ Below B w w' := by
  obtain ⟨i0, hi, hz0, hz1, hz2⟩ := info_byte
  have H := toHid h
  obtain ⟨a0, c0, rfl⟩ := h.len
  clear h
  cases b with
  | true =>
    go_enter Tryz.func37, Tryz.ntmps37
    go_wp2_with (at_builtin; refine Lib.wpList_append_own_string _ rfl _ _ 33 9 rfl B BE i0 Tryz.underlying33 Tryz.underlying9 hi hz0 hz1 hz2 _ _ _ rfl H.out ⟨#[116, 114, 117, 101]⟩ rfl ?c3 ?c4 ?c5 ?_)
    case c3 => have e4 : (⟨#[116, 114, 117, 101]⟩ : ByteArray).size = 4 := rfl; unfold maxLen; omega
    case c4 => have e4 : (⟨#[116, 114, 117, 101]⟩ : ByteArray).size = 4 := rfl; omega
    case c5 => omega
    intro v1 w1 hown1 hg1 _
    have o1 : Out B w1 v1 (l ++ [116, 114, 117, 101]) := out_of hown1 rfl
    have hb1 : Below B w w1 := H.out.grown (Below.refl _ _) hg1 hB
    have O1 := toHid o1
    clear o1 hown1 hg1
    go_wp2_with fail
    go_ret
    exact ⟨v1, rfl, O1.out, hb1⟩
  | false =>
    go_enter Tryz.func37, Tryz.ntmps37
    go_wp2_with (at_builtin; refine Lib.wpList_append_own_string _ rfl _ _ 33 9 rfl B BE i0 Tryz.underlying33 Tryz.underlying9 hi hz0 hz1 hz2 _ _ _ rfl H.out ⟨#[102, 97, 108, 115, 101]⟩ rfl ?c3 ?c4 ?c5 ?_)
    case c3 => have e4 : (⟨#[102, 97, 108, 115, 101]⟩ : ByteArray).size = 5 := rfl; unfold maxLen; omega
    case c4 => have e4 : (⟨#[102, 97, 108, 115, 101]⟩ : ByteArray).size = 5 := rfl; omega
    case c5 => omega
    intro v1 w1 hown1 hg1 _
    have o1 : Out B w1 v1 (l ++ [102, 97, 108, 115, 101]) := out_of hown1 rfl
    have hb1 : Below B w w1 := H.out.grown (Below.refl _ _) hg1 hB
    have O1 := toHid o1
    clear o1 hown1 hg1
    go_wp2_with fail
    go_ret
    exact ⟨v1, rfl, O1.out, hb1⟩

set_option maxHeartbeats 2000000 in
set_option maxRecDepth 100000 in
theorem appendBool_any (B : Nat) (sv : Value) (l : List UInt8) (b : Bool) (w : World) (h : Out B w sv l) (hB : B ≤ w.heap.size) (hl : l.length ≤ 20000) :
    Calls Tryz.prog 21 #[sv, .bool b] w fun e w' => ∃ v', e = .returned v' ∧ Out B w' v' (l ++ boolB b) ∧ Below B w w' := by
  have H := toHid h
  obtain ⟨a0, c0, rfl⟩ := h.len
  clear h
  go_enter Tryz.func21, Tryz.ntmps21
  go_wp2_with fail
  refine (appendBool_in B _ l b _ H.out hB hl).mono ?_
  rintro e w1 ⟨v1, rfl, o1, hb1⟩
  have O1 := toHid o1
  clear o1
  go_wp2_with fail
  go_ret
  exact ⟨v1, rfl, O1.out, hb1⟩

set_option maxHeartbeats 2000000 in
set_option maxRecDepth 100000 in
/-- Where out is too long already. -/
theorem av_long (B : Nat) (sv : Value) (l : List UInt8) (k n : Int) (s : ByteArray) (a : Option Addr) (len c : Nat) (w : World) (h : Out B w sv l) (hB : B ≤ w.heap.size) (hl : 4000 < l.length) (hl2 : l.length ≤ 20000) :
    Calls Tryz.prog 9 #[sv, .agg #[.int .i64 k, .int .i64 n, .string s, .slice a len c]] w fun e w' => ∃ v', e = .returned v' ∧ Out B w' v' l ∧ Below B w w' := by
  have H := toHid h
  obtain ⟨a0, c0, rfl⟩ := h.len
  have hb0 : ∀ o, Below B w (w.alloc o) := fun o => (Below.refl _ _).alloc hB _
  clear h
  have hbig : (4000 : Int) < (l.length : Int) := by omega
  go_enter Tryz.func9, Tryz.ntmps9
  go_wp2_with fail
  go_ret
  exact ⟨_, rfl, H.out.alloc _, hb0 _⟩

set_option maxHeartbeats 2000000 in
set_option maxRecDepth 100000 in
theorem av_null (B : Nat) (sv : Value) (l : List UInt8) (n : Int) (s : ByteArray) (a : Option Addr) (len c : Nat) (w : World) (h : Out B w sv l) (hB : B ≤ w.heap.size) (hl : l.length ≤ 4000) :
    Calls Tryz.prog 9 #[sv, .agg #[.int .i64 0, .int .i64 n, .string s, .slice a len c]] w fun e w' => ∃ v', e = .returned v' ∧ Out B w' v' (l ++ [110, 117, 108, 108]) ∧ Below B w w' := by
  obtain ⟨i0, hi, hz0, hz1, hz2⟩ := info_byte
  have H := toHid h
  obtain ⟨a0, c0, rfl⟩ := h.len
  clear h
  have hbig : ¬ (4000 : Int) < (l.length : Int) := by omega
  go_enter Tryz.func9, Tryz.ntmps9
  go_wp2_with (at_builtin; refine Lib.wpList_append_own_string _ rfl _ _ 33 9 rfl B BE i0 Tryz.underlying33 Tryz.underlying9 hi hz0 hz1 hz2 _ _ _ rfl (H.out.alloc _) ⟨#[110, 117, 108, 108]⟩ rfl ?c3 ?c4 ?c5 ?_)
  case c3 => unfold maxLen; omega
  case c4 => omega
  case c5 => omega
  intro v1 w1 hown1 hg1 _
  have o1 : Out B w1 v1 (l ++ [110, 117, 108, 108]) := out_of hown1 rfl
  have hb1 : Below B w w1 := (H.out.alloc _).grown ((Below.refl _ _).alloc hB _) hg1 (by simp; omega)
  have O1 := toHid o1
  clear o1 hown1 hg1
  go_wp2_with fail
  go_ret
  exact ⟨v1, rfl, O1.out, hb1⟩

set_option maxHeartbeats 2000000 in
set_option maxRecDepth 100000 in
theorem av_bool (B : Nat) (sv : Value) (l : List UInt8) (n : Int) (s : ByteArray) (a : Option Addr) (len c : Nat) (w : World) (h : Out B w sv l) (hB : B ≤ w.heap.size) (hl : l.length ≤ 4000) :
    Calls Tryz.prog 9 #[sv, .agg #[.int .i64 1, .int .i64 n, .string s, .slice a len c]] w fun e w' => ∃ v', e = .returned v' ∧ Out B w' v' (l ++ boolB (n == 1)) ∧ Below B w w' := by
  have H := toHid h
  obtain ⟨a0, c0, rfl⟩ := h.len
  have hb0 : ∀ o, Below B w (w.alloc o) := fun o => (Below.refl _ _).alloc hB _
  clear h
  have hbig : ¬ (4000 : Int) < (l.length : Int) := by omega
  go_enter Tryz.func9, Tryz.ntmps9
  go_wp2_with fail
  refine (appendBool_any B _ l (n == 1) _ (H.out.alloc _) (by simp; omega) (by omega)).mono ?_
  rintro e w1 ⟨v1, rfl, o1, hb1⟩
  have O1 := toHid o1
  clear o1
  go_wp2_with fail
  go_ret
  exact ⟨v1, rfl, O1.out, (hb0 _).trans hb1⟩

set_option maxHeartbeats 2000000 in
set_option maxRecDepth 100000 in
theorem av_int (B : Nat) (sv : Value) (l : List UInt8) (n : Int) (s : ByteArray) (a : Option Addr) (len c : Nat) (w : World) (h : Out B w sv l) (hB : B ≤ w.heap.size) (hl : l.length ≤ 4000) (hn0 : -9223372036854775808 ≤ n) (hn1 : n ≤ 9223372036854775807) (hP : Pow10 B w) :
    Calls Tryz.prog 9 #[sv, .agg #[.int .i64 2, .int .i64 n, .string s, .slice a len c]] w fun e w' => ∃ v', e = .returned v' ∧ Out B w' v' (l ++ Lib.itoa n) ∧ Below B w w' := by
  have H := toHid h
  obtain ⟨a0, c0, rfl⟩ := h.len
  have hb0 : ∀ o, Below B w (w.alloc o) := fun o => (Below.refl _ _).alloc hB _
  have HP := toHid hP
  clear h hP
  have hbig : ¬ (4000 : Int) < (l.length : Int) := by omega
  go_enter Tryz.func9, Tryz.ntmps9
  go_wp2_with fail
  refine (Tryz.strconv_AppendInt_10 B l.length n hn0 hn1 _ _ _ (H.out.alloc _) (by simp; omega) (by omega) (HP.out.below (hb0 _))).mono ?_
  rintro e w1 ⟨v1, rfl, hown1, hb1, _⟩
  have o1 : Out B w1 v1 (l ++ Lib.itoa n) := out_of hown1 rfl
  have O1 := toHid o1
  clear o1 hown1
  go_wp2_with fail
  go_ret
  exact ⟨v1, rfl, O1.out, (hb0 _).trans hb1⟩

set_option maxHeartbeats 2000000 in
set_option maxRecDepth 100000 in
theorem av_text (B : Nat) (sv : Value) (l : List UInt8) (n : Int) (s : ByteArray) (a : Option Addr) (len c : Nat) (w : World) (h : Out B w sv l) (hB : B ≤ w.heap.size) (hl : l.length ≤ 4000) (hs : s.size ≤ 4000) :
    Calls Tryz.prog 9 #[sv, .agg #[.int .i64 3, .int .i64 n, .string s, .slice a len c]] w fun e w' => ∃ v', e = .returned v' ∧ Out B w' v' (l ++ ([39] ++ escape s.data.toList ++ [39])) ∧ Below B w w' := by
  have H := toHid h
  obtain ⟨a0, c0, rfl⟩ := h.len
  have hb0 : ∀ o, Below B w (w.alloc o) := fun o => (Below.refl _ _).alloc hB _
  clear h
  have hbig : ¬ (4000 : Int) < (l.length : Int) := by omega
  obtain ⟨Q, hQ⟩ : ∃ Q, Q = l ++ ([39] ++ escape s.data.toList ++ [39]) := ⟨_, rfl⟩
  rw [← hQ]
  have HQ := toHid hQ
  clear hQ
  go_enter Tryz.func9, Tryz.ntmps9
  go_wp2_with fail
  refine (appendText_any B _ l s _ (H.out.alloc _) (by simp; omega) (by omega) hs).mono ?_
  rintro e w1 ⟨v1, rfl, o1, hb1⟩
  rw [← HQ.out] at o1
  have O1 := toHid o1
  clear o1
  go_wp2_with fail
  go_ret
  exact ⟨v1, rfl, O1.out, (hb0 _).trans hb1⟩

set_option maxHeartbeats 2000000 in
set_option maxRecDepth 100000 in
theorem av_list (B : Nat) (sv : Value) (l : List UInt8) (n : Int) (s : ByteArray) (a : Option Addr) (len c : Nat) (P : List UInt8 → Prop) (w : World) (h : Out B w sv l) (hB : B ≤ w.heap.size) (hl : l.length ≤ 4000)
    (hA : ∀ W, B ≤ W.heap.size → Below B w W → Out B W sv l → Calls Tryz.prog 24 #[sv, .slice a len c] W fun e w' => ∃ v' Q, e = .returned v' ∧ Out B w' v' Q ∧ P Q ∧ Below B W w') :
    Calls Tryz.prog 9 #[sv, .agg #[.int .i64 4, .int .i64 n, .string s, .slice a len c]] w fun e w' => ∃ v' Q, e = .returned v' ∧ Out B w' v' Q ∧ P Q ∧ Below B w w' := by
  have H := toHid h
  have HA := toHid hA
  clear hA
  obtain ⟨a0, c0, rfl⟩ := h.len
  have hb0 : ∀ o, Below B w (w.alloc o) := fun o => (Below.refl _ _).alloc hB _
  clear h
  have hbig : ¬ (4000 : Int) < (l.length : Int) := by omega
  go_enter Tryz.func9, Tryz.ntmps9
  go_wp2_with fail
  refine (HA.out _ (by simp; omega) (hb0 _) (H.out.alloc _)).mono ?_
  rintro e w1 ⟨v1, Q, rfl, o1, p1, hb1⟩
  have O1 := toHid o1
  have P1 := toHid p1
  clear o1 p1
  go_wp2_with fail
  go_ret
  exact ⟨v1, Q, rfl, O1.out, P1.out, (hb0 _).trans hb1⟩

set_option maxHeartbeats 2000000 in
set_option maxRecDepth 100000 in
theorem al_empty (B : Nat) (sv : Value) (l : List UInt8) (a : Option Addr) (c : Nat) (w : World) (h : Out B w sv l) (hB : B ≤ w.heap.size) (hl : l.length ≤ 4000) :
    Calls Tryz.prog 24 #[sv, .slice a 0 c] w fun e w' => ∃ v', e = .returned v' ∧ Out B w' v' (l ++ [91] ++ [93]) ∧ Below B w w' := by
  obtain ⟨i0, hi, hz0, hz1, hz2⟩ := info_byte
  have H := toHid h
  obtain ⟨a0, c0, rfl⟩ := h.len
  clear h
  obtain ⟨Q, hQ⟩ : ∃ Q, Q = l ++ [91] ++ [93] := ⟨_, rfl⟩
  rw [← hQ]
  have HQ := toHid hQ
  clear hQ
  go_enter Tryz.func24, Tryz.ntmps24
  go_wp2_with (at_builtin; refine wpList_append_own _ rfl _ _ 33 rfl B BE i0 (.int .u8 0) 1 1 Tryz.underlying33 hi hz0 hz1 hz2 rfl (by decide) _ _ _ rfl (H.out.alloc _) ⟨w.heap.size, 0, none⟩ 1 1 [.int .u8 91] rfl rfl (one_new _ _ _) (fun x hx => by simp at hx; subst hx; rfl) (by unfold maxLen; omega) (by omega) (by simp; omega) ?_)
  intro v1 w1 hown1 hg1 _
  have o1 : Out B w1 v1 (l ++ [91]) := out_of hown1 rfl
  have hb1 : Below B w w1 := (H.out.alloc _).grown ((Below.refl _ _).alloc hB _) hg1 (by simp; omega)
  have hz1' : B ≤ w1.heap.size := by have := hb1.size; omega
  obtain ⟨L, hL⟩ : ∃ L, L = l ++ [91] := ⟨_, rfl⟩
  have hL0 : L.length ≤ 4001 := by rw [hL]; simp; omega
  rw [← hL] at o1
  have HL := toHid hL
  obtain ⟨a1, c1, hv⟩ := o1.len
  subst hv
  have O1 := toHid o1
  clear o1 hown1 hg1 H hL
  go_wp2_with fail
  go_loopg [0, 12] 0 (fun g s0 s12 wr => s0 = .slice a1 L.length c1 ∧ s12 = .int .i64 0 ∧ wr = w1)
  case atStart => exact ⟨rfl, rfl, rfl⟩
  case round =>
    obtain ⟨rfl, rfl, rfl⟩ := hrel
    go_wp2_with (at_builtin; refine wpList_append_own _ rfl _ _ 33 rfl B BE i0 (.int .u8 0) 1 1 Tryz.underlying33 hi hz0 hz1 hz2 rfl (by decide) _ _ _ rfl (O1.out.alloc _) ⟨wr.heap.size, 0, none⟩ 1 1 [.int .u8 93] rfl rfl (one_new _ _ _) (fun x hx => by simp at hx; subst hx; rfl) (by unfold maxLen; omega) (by omega) (by simp; omega) ?_)
    intro v2 w2 hown2 hg2 _
    have o2 : Out B w2 v2 (L ++ [93]) := out_of hown2 rfl
    have hb2 : Below B w w2 := hb1.trans ((O1.out.alloc _).grown ((Below.refl _ _).alloc hz1' _) hg2 (by simp; omega))
    have O2 := toHid o2
    clear o2 hown2 hg2
    go_wp2_with fail
    go_ret
    refine ⟨v2, rfl, ?_, hb2⟩
    rw [HQ.out, ← HL.out]
    exact O2.out

end Go.Proofs.YtonjeaoagpelmaaGreatDoor
