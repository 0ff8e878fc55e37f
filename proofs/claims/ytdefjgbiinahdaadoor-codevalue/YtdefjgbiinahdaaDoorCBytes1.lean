/-
  What is proved here: code.appendValue adds the bytes of null, a number or a text, and of a list given that it adds those of its values; nothing where there are too many bytes already.
-/
import Derived.Test.YtdefjgbiinahdaaDoorCFrame
import Derived.Test.YtdefjgbiinahdaaDoorOCheck
import Derived.Deep.RegionHeld3
namespace Go.Proofs.YtdefjgbiinahdaaDoor
open Go.RowKit
set_option linter.unusedVariables false

/-- The number without a sign. -/
def up (n : Int) : Nat := (n + 9223372036854775808).toNat

theorem up_eq (n : Int) (h0 : -9223372036854775808 ≤ n) (h1 : n ≤ 9223372036854775807) : IntKind.u64.wrap (IntKind.u64.wrap n + 9223372036854775808) = (up n : Int) := by
  rw [IntKind.wrap_u64, IntKind.wrap_u64]
  unfold up
  omega

theorem first_after {B : Nat} {w w1 : World} {v v1 : Value} {l m : List UInt8} {bx : Array Value} {T : TypeId} {o : Obj} {n : Nat} {ys : List Value} (h : Out B w v l) (hB : B ≤ w.heap.size)
    (hown : w1.ownsRow B BE 1 v1 n (Lib.byteCells l ++ ys)) (hg : ((w.alloc (.cells bx T)).alloc o).grownBy w1 v.ownBlock) (e : ys = Lib.byteCells m) :
    Out B w1 v1 (l ++ m) ∧ Below B w w1 ∧ w.heap.size + 1 ≤ w1.heap.size ∧ w1.heap[w.heap.size]? = some (.cells bx T (0, 0)) := by
  refine ⟨out_of hown e, ((h.alloc _).alloc _).grown (((Below.refl _ _).alloc hB _).alloc (by simp; omega) _) hg (by simp; omega), by have := hg.size; simp at this; omega, ?_⟩
  rw [hg.block _ (by simp; omega) (fun e => by
    rcases h.2 with ⟨q0, _⟩ | ⟨q1, q2, q3, q4, q5, q6, _⟩
    · rw [q0] at e; simp [Value.ownBlock] at e
    · rw [q4] at e
      simp [Value.ownBlock] at e
      have := (Array.getElem?_eq_some_iff.1 q6).1
      omega), Below.heap_alloc _ _ _ (by simp)]
  exact alloc_new _ _

theorem one_new2 (w : World) (o : Obj) (x : Value) (t : TypeId) : ∀ j u, [x][j]? = some u → ((w.alloc o).alloc (.cells #[x] t)).cell? ((⟨w.heap.size + 1, 0, none⟩ : Addr).add j) = some u := by
  have := one_new (w.alloc o) x t
  rw [show (w.alloc o).heap.size = w.heap.size + 1 from by simp] at this
  exact this

set_option maxHeartbeats 1000000 in
set_option maxRecDepth 100000 in
theorem bv_null (B : Nat) (sv : Value) (l : List UInt8) (a : Option Addr) (c : Nat) (w : World) (h : Out B w sv l) (hB : B ≤ w.heap.size) (hl : l.length ≤ 8000) :
    Calls Tryd.prog 25 #[sv, .agg #[.int .i64 0, .int .i64 0, .string ⟨#[]⟩, .slice a 0 c]] w fun e w' => ∃ v', e = .returned v' ∧ Out B w' v' (l ++ [0]) ∧ Below B w w' := by
  obtain ⟨i0, hi, hz0, hz1, hz2⟩ := info_byte
  have H := toHid h
  obtain ⟨a0, c0, rfl⟩ := h.len
  clear h
  have hbig : ¬ (8000 : Int) < (l.length : Int) := by omega
  go_enter Tryd.func25, Tryd.ntmps25
  go_wp2_with (at_builtin; refine wpList_append_own _ rfl _ _ 55 rfl B BE i0 (.int .u8 0) 1 1 Tryd.underlying55 hi hz0 hz1 hz2 rfl (by decide) _ _ _ rfl ((H.out.alloc _).alloc _) ⟨w.heap.size + 1, 0, none⟩ 1 1 [.int .u8 0] rfl rfl (one_new2 w _ _ _) (fun x hx => by simp at hx; subst hx; rfl) (by unfold maxLen; omega) (by omega) (by simp; omega) ?_)
  intro v1 w1 hown1 hg1 _
  obtain ⟨o1, hb1, hs1, hbx⟩ := first_after (m := [0]) H.out hB hown1 hg1 rfl
  have hlen1 : (l ++ [(0 : UInt8)]).length ≤ 8001 := by simp; omega
  obtain ⟨L1, hL1⟩ : ∃ L1, L1 = l ++ [(0 : UInt8)] := ⟨_, rfl⟩
  rw [← hL1] at o1 hlen1
  have HL1 := toHid hL1
  have x0 := cell_of hbx 0
  have x1 := cell_of hbx 1
  have x2 := cell_of hbx 2
  have x3 := cell_of hbx 3
  simp at x0 x1 x2 x3
  have O1 := toHid o1
  clear o1 hown1 hg1 hbx hL1
  go_wp2_with fail
  go_ret
  exact ⟨v1, rfl, by rw [← HL1.out]; exact O1.out, hb1⟩

set_option maxHeartbeats 1000000 in
set_option maxRecDepth 100000 in
theorem bv_num1 (B : Nat) (sv : Value) (l : List UInt8) (n : Int) (a : Option Addr) (c : Nat) (w : World) (h : Out B w sv l) (hB : B ≤ w.heap.size) (hl : l.length ≤ 8000) (hn0 : -9223372036854775808 ≤ n) (hn1 : n ≤ 9223372036854775807) :
    Calls Tryd.prog 25 #[sv, .agg #[.int .i64 1, .int .i64 n, .string ⟨#[]⟩, .slice a 0 c]] w fun e w' => ∃ v', e = .returned v' ∧ Out B w' v' (l ++ (1 :: hiB (up n) 8)) ∧ Below B w w' := by
  have hU := up_eq n hn0 hn1
  have hup : up n ≤ 18446744073709551615 := by unfold up; omega
  have HU := toHid hU
  clear hU
  obtain ⟨i0, hi, hz0, hz1, hz2⟩ := info_byte
  have H := toHid h
  obtain ⟨a0, c0, rfl⟩ := h.len
  clear h
  have hbig : ¬ (8000 : Int) < (l.length : Int) := by omega
  go_enter Tryd.func25, Tryd.ntmps25
  go_wp2_with (at_builtin; refine wpList_append_own _ rfl _ _ 55 rfl B BE i0 (.int .u8 0) 1 1 Tryd.underlying55 hi hz0 hz1 hz2 rfl (by decide) _ _ _ rfl ((H.out.alloc _).alloc _) ⟨w.heap.size + 1, 0, none⟩ 1 1 [.int .u8 1] rfl rfl (one_new2 w _ _ _) (fun x hx => by simp at hx; subst hx; rfl) (by unfold maxLen; omega) (by omega) (by simp; omega) ?_)
  intro v1 w1 hown1 hg1 _
  obtain ⟨o1, hb1, hs1, hbx⟩ := first_after (m := [1]) H.out hB hown1 hg1 rfl
  have hlen1 : (l ++ [(1 : UInt8)]).length ≤ 8001 := by simp; omega
  obtain ⟨L1, hL1⟩ : ∃ L1, L1 = l ++ [(1 : UInt8)] := ⟨_, rfl⟩
  rw [← hL1] at o1 hlen1
  have HL1 := toHid hL1
  have x0 := cell_of hbx 0
  have x1 := cell_of hbx 1
  have x2 := cell_of hbx 2
  have x3 := cell_of hbx 3
  simp at x0 x1 x2 x3
  have O1 := toHid o1
  clear o1 hown1 hg1 hbx hL1
  obtain ⟨a1, c1, hv1⟩ := O1.out.len
  subst hv1
  go_wp2_with fail
  rw [HU.out]
  refine (appendNumber_any B _ L1 (up n) 8 w1 O1.out (by omega) (by omega) (by omega) hup).mono ?_
  rintro e w2 ⟨v2, rfl, o2, hb2⟩
  have O2 := toHid o2
  clear o2
  go_wp2_with fail
  go_ret
  exact ⟨v2, rfl, by have := O2.out; rw [HL1.out, List.append_assoc] at this; exact this, hb1.trans hb2⟩

set_option maxHeartbeats 1000000 in
set_option maxRecDepth 100000 in
theorem bv_num2 (B : Nat) (sv : Value) (l : List UInt8) (n : Int) (a : Option Addr) (c : Nat) (w : World) (h : Out B w sv l) (hB : B ≤ w.heap.size) (hl : l.length ≤ 8000) (hn0 : -9223372036854775808 ≤ n) (hn1 : n ≤ 9223372036854775807) :
    Calls Tryd.prog 25 #[sv, .agg #[.int .i64 2, .int .i64 n, .string ⟨#[]⟩, .slice a 0 c]] w fun e w' => ∃ v', e = .returned v' ∧ Out B w' v' (l ++ (2 :: hiB (up n) 8)) ∧ Below B w w' := by
  have hU := up_eq n hn0 hn1
  have hup : up n ≤ 18446744073709551615 := by unfold up; omega
  have HU := toHid hU
  clear hU
  obtain ⟨i0, hi, hz0, hz1, hz2⟩ := info_byte
  have H := toHid h
  obtain ⟨a0, c0, rfl⟩ := h.len
  clear h
  have hbig : ¬ (8000 : Int) < (l.length : Int) := by omega
  go_enter Tryd.func25, Tryd.ntmps25
  go_wp2_with (at_builtin; refine wpList_append_own _ rfl _ _ 55 rfl B BE i0 (.int .u8 0) 1 1 Tryd.underlying55 hi hz0 hz1 hz2 rfl (by decide) _ _ _ rfl ((H.out.alloc _).alloc _) ⟨w.heap.size + 1, 0, none⟩ 1 1 [.int .u8 2] rfl rfl (one_new2 w _ _ _) (fun x hx => by simp at hx; subst hx; rfl) (by unfold maxLen; omega) (by omega) (by simp; omega) ?_)
  intro v1 w1 hown1 hg1 _
  obtain ⟨o1, hb1, hs1, hbx⟩ := first_after (m := [2]) H.out hB hown1 hg1 rfl
  have hlen1 : (l ++ [(2 : UInt8)]).length ≤ 8001 := by simp; omega
  obtain ⟨L1, hL1⟩ : ∃ L1, L1 = l ++ [(2 : UInt8)] := ⟨_, rfl⟩
  rw [← hL1] at o1 hlen1
  have HL1 := toHid hL1
  have x0 := cell_of hbx 0
  have x1 := cell_of hbx 1
  have x2 := cell_of hbx 2
  have x3 := cell_of hbx 3
  simp at x0 x1 x2 x3
  have O1 := toHid o1
  clear o1 hown1 hg1 hbx hL1
  obtain ⟨a1, c1, hv1⟩ := O1.out.len
  subst hv1
  go_wp2_with fail
  rw [HU.out]
  refine (appendNumber_any B _ L1 (up n) 8 w1 O1.out (by omega) (by omega) (by omega) hup).mono ?_
  rintro e w2 ⟨v2, rfl, o2, hb2⟩
  have O2 := toHid o2
  clear o2
  go_wp2_with fail
  go_ret
  exact ⟨v2, rfl, by have := O2.out; rw [HL1.out, List.append_assoc] at this; exact this, hb1.trans hb2⟩

end Go.Proofs.YtdefjgbiinahdaaDoor
