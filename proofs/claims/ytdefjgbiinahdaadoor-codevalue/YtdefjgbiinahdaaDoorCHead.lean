/-
  What is proved here: the reader's method head: what it answers and where it stands behind it.
-/
import Derived.Test.YtdefjgbiinahdaaDoorCFrames
import Derived.Test.YtdefjgbiinahdaaDoorPQuoted
import Derived.Laws.IdiomStrings
namespace Go.Proofs.YtdefjgbiinahdaaDoor
open Go.RowKit
set_option linter.unusedVariables false

/-- A value's cells lie in a block of their own. -/
def VB (w : World) (vb : Nat) (k n : Int) (s : ByteArray) (a : Option Addr) (l c : Nat) : Prop := w.heap[vb]? = some (.cells #[.int .i64 k, .int .i64 n, .string s, .slice a l c] 24 (0, 0))

theorem RdS.same {r tb : Nat} {text : List UInt8} {st : Option Nat} {w w' : World} (h : RdS r tb text st w) (hz : w.heap.size ≤ w'.heap.size) (hr : w'.heap[r]? = w.heap[r]?) (ht : w'.heap[tb]? = w.heap[tb]?) : RdS r tb text st w' := by
  obtain ⟨t1, t2, t3, t4⟩ := h
  refine ⟨t1.kept ht, t2, by omega, ?_⟩
  cases st with
  | none => obtain ⟨x, hx⟩ := t4; exact ⟨x, hr.trans hx⟩
  | some p => obtain ⟨p0, off, c, p1, p2⟩ := t4; exact ⟨p0, off, c, hr.trans p1, p2⟩

theorem RdS.below {r tb : Nat} {text : List UInt8} {st : Option Nat} {w w' : World} (h : RdS r tb text st w) (k : Below w.heap.size w w') : RdS r tb text st w' := h.same k.size (k.block _ h.2.2.1) (k.block _ (by have := h.2.1; have := h.2.2.1; omega))

theorem RdS.setOther {r tb : Nat} {text : List UInt8} {st : Option Nat} {w : World} (h : RdS r tb text st w) (b o : Nat) (v : Value) (hb : b ≠ r) (hb2 : b ≠ tb) : RdS r tb text st (w.setCell ⟨b, o, none⟩ v) :=
  h.same (by simp [World.setCell]) (by simp [World.setCell, Array.getElem?_modify, hb]) (by simp [World.setCell, Array.getElem?_modify, hb2])

theorem set_other (w : World) (b o j : Nat) (v : Value) (h : j ≠ b) : (w.setCell ⟨b, o, none⟩ v).heap[j]? = w.heap[j]? := by
  simp [World.setCell, Array.getElem?_modify, Ne.symm h]

theorem VB.cells {w : World} {vb : Nat} {k n : Int} {s : ByteArray} {a : Option Addr} {l c : Nat} (h : VB w vb k n s a l c) : w.cell? ⟨vb, 0, none⟩ = some (.int .i64 k) ∧ w.cell? ⟨vb, 1, none⟩ = some (.int .i64 n) ∧ w.cell? ⟨vb, 2, none⟩ = some (.string s) ∧ w.cell? ⟨vb, 3, none⟩ = some (.slice a l c) :=
  ⟨by have := cell_of h 0; simpa using this, by have := cell_of h 1; simpa using this, by have := cell_of h 2; simpa using this, by have := cell_of h 3; simpa using this⟩

theorem VB.frees {w : World} {vb : Nat} {k n : Int} {s : ByteArray} {a : Option Addr} {l c : Nat} (h : VB w vb k n s a l c) : w.frozen? ⟨vb, 0, none⟩ = false ∧ w.frozen? ⟨vb, 1, none⟩ = false ∧ w.frozen? ⟨vb, 2, none⟩ = false ∧ w.frozen? ⟨vb, 3, none⟩ = false :=
  ⟨free_of h 0, free_of h 1, free_of h 2, free_of h 3⟩

theorem VB.set0 {w : World} {vb : Nat} {k n : Int} {s : ByteArray} {a : Option Addr} {l c : Nat} (h : VB w vb k n s a l c) (k' : Int) : VB (w.setCell ⟨vb, 0, none⟩ (.int .i64 k')) vb k' n s a l c := by
  unfold VB at *
  simp [World.setCell, Array.getElem?_modify, h]

theorem VB.set1 {w : World} {vb : Nat} {k n : Int} {s : ByteArray} {a : Option Addr} {l c : Nat} (h : VB w vb k n s a l c) (n' : Int) : VB (w.setCell ⟨vb, 1, none⟩ (.int .i64 n')) vb k n' s a l c := by
  unfold VB at *
  simp [World.setCell, Array.getElem?_modify, h]

theorem VB.set2 {w : World} {vb : Nat} {k n : Int} {s : ByteArray} {a : Option Addr} {l c : Nat} (h : VB w vb k n s a l c) (s' : ByteArray) : VB (w.setCell ⟨vb, 2, none⟩ (.string s')) vb k n s' a l c := by
  unfold VB at *
  simp [World.setCell, Array.getElem?_modify, h]

theorem Mv.setNew {r : Nat} {w w' : World} (h : Mv r w w') (b o : Nat) (v : Value) (hb : w.heap.size ≤ b) : Mv r w (w'.setCell ⟨b, o, none⟩ v) :=
  ⟨h.os, h.tape, h.output, by have := h.size; simpa [World.setCell] using this, fun k hk hn => by rw [set_other _ _ _ _ _ (by omega)]; exact h.block k hk hn⟩

theorem head_end {r tb : Nat} {text : List UInt8} {st : Option Nat} {w W : World} {vb : Nat} {k0 n0 : Int} {s0 : ByteArray} {a0 : Option Addr} {l0 c0 : Nat} (hv : VB W vb k0 n0 s0 a0 l0 c0) (hr : RdS r tb text st W) (hm : Mv r w W) (hvb : w.heap.size ≤ vb) (h1 : vb ≠ r) (h2 : vb ≠ tb) (k n : Int) (s : ByteArray) (a : Option Addr) (l c : Nat) :
    VB (put4 W vb (.int .i64 k) (.int .i64 n) (.string s) (.slice a l c)) vb k n s a l c ∧ RdS r tb text st (put4 W vb (.int .i64 k) (.int .i64 n) (.string s) (.slice a l c)) ∧ Mv r w (put4 W vb (.int .i64 k) (.int .i64 n) (.string s) (.slice a l c)) := by
  refine ⟨put4_here hv _ _ _ _, ?_, ?_⟩
  · unfold put4
    exact (((hr.setOther vb 0 _ h1 h2).setOther vb 1 _ h1 h2).setOther vb 2 _ h1 h2).setOther vb 3 _ h1 h2
  · unfold put4
    exact (((hm.setNew vb 0 _ hvb).setNew vb 1 _ hvb).setNew vb 2 _ hvb).setNew vb 3 _ hvb

theorem VB.other {w : World} {vb b o : Nat} {k n : Int} {s : ByteArray} {a : Option Addr} {l c : Nat} (h : VB w vb k n s a l c) (hb : vb ≠ b) (v : Value) : VB (w.setCell ⟨b, o, none⟩ v) vb k n s a l c := by
  unfold VB at *
  rw [set_other _ _ _ _ _ hb]
  exact h

/-- The number with its sign. -/
def dn (x : Nat) : Int := (x : Int) - 9223372036854775808

theorem dn_eq (x : Nat) (h : x < 18446744073709551616) : IntKind.i64.wrap (IntKind.u64.wrap ((x : Int) + 9223372036854775808)) = dn x := by
  rw [IntKind.wrap_u64, IntKind.wrap_i64]
  unfold dn
  omega

theorem ofHi_eight (l : List UInt8) (h : l.length ≤ 8) : ofHi l < 18446744073709551616 := by
  have h1 := ofHi_lt l _ (Nat.le_refl _)
  rw [List.take_length] at h1
  have h2 : 256 ^ l.length ≤ 256 ^ 8 := Nat.pow_le_pow_right (by decide) h
  have h3 : (256 : Nat) ^ 8 = 18446744073709551616 := by decide
  omega

theorem ofHi_two (l : List UInt8) (h : l.length ≤ 2) : ofHi l < 65536 := by
  have h1 := ofHi_lt l _ (Nat.le_refl _)
  rw [List.take_length] at h1
  have h2 : 256 ^ l.length ≤ 256 ^ 2 := Nat.pow_le_pow_right (by decide) h
  have h3 : (256 : Nat) ^ 2 = 65536 := by decide
  omega

theorem ofHi_one (l : List UInt8) (h : l.length ≤ 1) : ofHi l < 256 := by
  have h1 := ofHi_lt l _ (Nat.le_refl _)
  rw [List.take_length] at h1
  have h2 : 256 ^ l.length ≤ 256 ^ 1 := Nat.pow_le_pow_right (by decide) h
  have h3 : (256 : Nat) ^ 1 = 256 := by decide
  omega

/-- Bytes that were cut off as a text. -/
theorem conv_piece {tb : Nat} {a : Option Addr} {H : List UInt8} {w : World} (h : Piece tb a H w) : (convert 55 9 (.slice a H.length H.length)).run Tryd.prog w = .ok (.string ⟨H.toArray⟩) w := by
  rcases h with rfl | ⟨off, rfl, hr⟩
  · cases a with
    | none =>
      show (convert 55 9 (.slice none 0 0)).run Tryd.prog w = _
      rw [run_convert_bytes_string w 55 9 BE none 0 0 Tryd.underlying55 Tryd.underlying5 Tryd.underlying9]
      rfl
    | some ad => exact run_convert_bytes_back (P := Tryd.prog) w 55 9 BE ad 0 [] Tryd.underlying55 Tryd.underlying5 Tryd.underlying9 (fun j hj => absurd hj (Nat.not_lt_zero _))
  · exact run_convert_bytes_back (P := Tryd.prog) w 55 9 BE ⟨tb, off, none⟩ H.length H Tryd.underlying55 Tryd.underlying5 Tryd.underlying9 (fun j hj => by
      have e : (⟨tb, off, none⟩ : Addr).add j = ⟨tb, off + j, none⟩ := by
        unfold Addr.add
        split <;> simp_all
      rw [e]
      exact hr j hj)

theorem Mv.old {r B : Nat} {w w' w'' : World} (h : Mv r w w') (k : Below B w' w'') (hB : w.heap.size ≤ B) : Mv r w w'' :=
  ⟨k.os.trans h.os, k.tape.trans h.tape, k.output.trans h.output, Nat.le_trans h.size k.size, fun i hi hn => (k.block i (by omega)).trans (h.block i hi hn)⟩

set_option maxHeartbeats 2000000 in
set_option maxRecDepth 100000 in
/-- No byte is left, or the reader is torn. -/
theorem head_none (r tb : Nat) (text : List UInt8) (st : Option Nat) (lists : Int) (w : World) (h : RdS r tb text st w) (k1 : ofHi (cutP text st 1).1 = 0) (e1 : (cutP text st 1).2 = none) :
    Calls Tryd.prog 45 #[.pointer (some ⟨r, 0, none⟩), .int .i64 lists] w fun e w' => e = .returned (.tuple #[.agg #[.int .i64 0, .int .i64 0, .string ⟨#[]⟩, .slice none 0 0], .int .i64 0]) ∧ RdS r tb text none w' ∧ Mv r w w' := by
  have hr := h.2.2.1
  have htb := h.2.1
  have c1 : Hid (∀ W, RdS r tb text st W → Calls Tryd.prog 47 #[.pointer (some ⟨r, 0, none⟩), .int .i64 1] W fun e w' => e = .returned (.int .u64 0) ∧ RdS r tb text (cutP text st 1).2 w' ∧ Mv r W w') := fun W hW => by
    have := number_any r tb 1 text st W hW (by omega)
    rw [k1] at this
    exact this
  rw [e1] at c1
  clear k1 e1
  have hb0 : ∀ o, Below w.heap.size w (w.alloc o) := fun o => (Below.refl _ _).alloc (Nat.le_refl _) _
  have hv0 : VB (w.alloc (.cells #[.int .i64 0, .int .i64 0, .string ⟨#[]⟩, .slice none 0 0] 24)) w.heap.size 0 0 ⟨#[]⟩ none 0 0 := alloc_new _ _
  have HV0 := toHid hv0
  have H := toHid h
  clear h hv0
  go_enter Tryd.func45, Tryd.ntmps45
  go_wp2_with fail
  refine (c1.out _ (H.out.below (hb0 _))).mono ?_
  rintro e w1 ⟨rfl, r1, m1⟩
  have hs1 : w.heap.size + 1 ≤ w1.heap.size := by have := m1.size; simpa using this
  have v1 : VB w1 w.heap.size 0 0 ⟨#[]⟩ none 0 0 := (m1.block _ (by simp) (by omega)).trans HV0.out
  have hm1 : Mv r w w1 := (Mv.below (hb0 _)).trans m1
  obtain ⟨x0, x1, x2, x3⟩ := v1.cells
  obtain ⟨f0, f1, f2, f3⟩ := v1.frees
  obtain ⟨y1, g1⟩ := r1.flag
  have hne : w.heap.size ≠ r := by omega
  have hne' : r ≠ w.heap.size := by omega
  have V1 := toHid v1
  have R1 := toHid r1
  have M1 := toHid hm1
  clear m1 v1 r1 hm1
  simp at y1
  go_wp2_with fail
  have E := head_end ((V1.out.set0 0).other hne _) ((R1.out.setOther w.heap.size 0 _ hne (by omega)).tear) ((M1.out.setNew w.heap.size 0 _ (Nat.le_refl _)).trans (Mv.set _ 1 _)) (Nat.le_refl _) hne (by omega) 0 0 ⟨#[]⟩ none 0 0
  have eP : ∀ X : World, (((X.setCell ⟨w.heap.size, 0, none⟩ (.int .i64 0)).setCell ⟨w.heap.size, 1, none⟩ (.int .i64 0)).setCell ⟨w.heap.size, 2, none⟩ (.string ⟨#[]⟩)).setCell ⟨w.heap.size, 3, none⟩ (.slice none 0 0) = put4 X w.heap.size (.int .i64 0) (.int .i64 0) (.string ⟨#[]⟩) (.slice none 0 0) := fun _ => rfl
  rw [eP]
  generalize put4 ((w1.setCell ⟨w.heap.size, 0, none⟩ (.int .i64 0)).setCell ⟨r, 1, none⟩ (.bool true)) w.heap.size (.int .i64 0) (.int .i64 0) (.string ⟨#[]⟩) (.slice none 0 0) = X at E ⊢
  obtain ⟨ev, er, em⟩ := E
  obtain ⟨t0, t1, t2, t3⟩ := ev.cells
  exact bodyPost_ret (v := .tuple #[.agg #[.int .i64 0, .int .i64 0, .string ⟨#[]⟩, .slice none 0 0], .int .i64 0]) (by simp [results, Tryd.results45, go_sem, t0, t1, t2, t3]) rfl ⟨rfl, er, em⟩

set_option maxHeartbeats 2000000 in
set_option maxRecDepth 100000 in
/-- Null. -/
theorem head_null (r tb : Nat) (text : List UInt8) (st : Option Nat) (lists : Int) (w : World) (h : RdS r tb text st w) (p : Nat) (k1 : ofHi (cutP text st 1).1 = 0) (e1 : (cutP text st 1).2 = some p) (hC : ∀ W, Mv r w W → Calls Tryd.prog 24 #[.agg #[.int .i64 0, .int .i64 0, .string ⟨#[]⟩, .slice none 0 0]] W fun e w' => e = .returned (.int .i64 0) ∧ Below W.heap.size W w') :
    Calls Tryd.prog 45 #[.pointer (some ⟨r, 0, none⟩), .int .i64 lists] w fun e w' => e = .returned (.tuple #[.agg #[.int .i64 0, .int .i64 0, .string ⟨#[]⟩, .slice none 0 0], .int .i64 0]) ∧ RdS r tb text (some p) w' ∧ Mv r w w' := by
  have hr := h.2.2.1
  have htb := h.2.1
  have c1 : Hid (∀ W, RdS r tb text st W → Calls Tryd.prog 47 #[.pointer (some ⟨r, 0, none⟩), .int .i64 1] W fun e w' => e = .returned (.int .u64 0) ∧ RdS r tb text (cutP text st 1).2 w' ∧ Mv r W w') := fun W hW => by
    have := number_any r tb 1 text st W hW (by omega)
    rw [k1] at this
    exact this
  have HC := toHid hC
  clear hC
  rw [e1] at c1
  clear k1 e1
  have hb0 : ∀ o, Below w.heap.size w (w.alloc o) := fun o => (Below.refl _ _).alloc (Nat.le_refl _) _
  have hv0 : VB (w.alloc (.cells #[.int .i64 0, .int .i64 0, .string ⟨#[]⟩, .slice none 0 0] 24)) w.heap.size 0 0 ⟨#[]⟩ none 0 0 := alloc_new _ _
  have HV0 := toHid hv0
  have H := toHid h
  clear h hv0
  go_enter Tryd.func45, Tryd.ntmps45
  go_wp2_with fail
  refine (c1.out _ (H.out.below (hb0 _))).mono ?_
  rintro e w1 ⟨rfl, r1, m1⟩
  have hs1 : w.heap.size + 1 ≤ w1.heap.size := by have := m1.size; simpa using this
  have v1 : VB w1 w.heap.size 0 0 ⟨#[]⟩ none 0 0 := (m1.block _ (by simp) (by omega)).trans HV0.out
  have hm1 : Mv r w w1 := (Mv.below (hb0 _)).trans m1
  obtain ⟨x0, x1, x2, x3⟩ := v1.cells
  obtain ⟨f0, f1, f2, f3⟩ := v1.frees
  obtain ⟨y1, g1⟩ := r1.flag
  have hne : w.heap.size ≠ r := by omega
  have hne' : r ≠ w.heap.size := by omega
  have V1 := toHid v1
  have R1 := toHid r1
  have M1 := toHid hm1
  clear m1 v1 r1 hm1
  simp at y1
  go_wp2_with fail
  have v2 := V1.out.set0 0
  have r2 := R1.out.setOther w.heap.size 0 (.int .i64 0) hne (by omega)
  have m2 := M1.out.setNew w.heap.size 0 (.int .i64 0) (Nat.le_refl _)
  refine (HC.out _ m2).mono ?_
  generalize (w1.setCell ⟨w.heap.size, 0, none⟩ (.int .i64 0)) = W2 at v2 r2 m2 ⊢
  rintro e w3 ⟨rfl, k3⟩
  have v3 : VB w3 w.heap.size 0 0 ⟨#[]⟩ none 0 0 := (k3.block _ (by have := (Array.getElem?_eq_some_iff.1 v2).1; exact this)).trans v2
  have r3 := r2.below k3
  have m3 := m2.old k3 m2.size
  obtain ⟨x0, x1, x2, x3⟩ := v3.cells
  obtain ⟨f0, f1, f2, f3⟩ := v3.frees
  obtain ⟨y3, g3⟩ := r3.flag
  simp at y3
  have V3 := toHid v3
  have R3 := toHid r3
  have M3 := toHid m3
  clear v2 r2 m2 k3 v3 r3 m3
  go_wp2_with fail
  have E := head_end (V3.out.other hne _) (R3.out.keep) (M3.out.trans (Mv.set _ 1 _)) (Nat.le_refl _) hne (by omega) 0 0 ⟨#[]⟩ none 0 0
  have eP : ∀ X : World, (((X.setCell ⟨w.heap.size, 0, none⟩ (.int .i64 0)).setCell ⟨w.heap.size, 1, none⟩ (.int .i64 0)).setCell ⟨w.heap.size, 2, none⟩ (.string ⟨#[]⟩)).setCell ⟨w.heap.size, 3, none⟩ (.slice none 0 0) = put4 X w.heap.size (.int .i64 0) (.int .i64 0) (.string ⟨#[]⟩) (.slice none 0 0) := fun _ => rfl
  rw [eP]
  generalize put4 (w3.setCell ⟨r, 1, none⟩ (.bool false)) w.heap.size (.int .i64 0) (.int .i64 0) (.string ⟨#[]⟩) (.slice none 0 0) = X at E ⊢
  obtain ⟨ev, er, em⟩ := E
  obtain ⟨t0, t1, t2, t3⟩ := ev.cells
  exact bodyPost_ret (v := .tuple #[.agg #[.int .i64 0, .int .i64 0, .string ⟨#[]⟩, .slice none 0 0], .int .i64 0]) (by simp [results, Tryd.results45, go_sem, t0, t1, t2, t3]) rfl ⟨rfl, er, em⟩

set_option maxHeartbeats 2000000 in
set_option maxRecDepth 100000 in
/-- No kind. -/
theorem head_other (r tb : Nat) (text : List UInt8) (st : Option Nat) (lists : Int) (w : World) (h : RdS r tb text st w) (p K : Nat) (k1 : ofHi (cutP text st 1).1 = K) (hK : 4 < K) (hK2 : K < 256) (e1 : (cutP text st 1).2 = some p) (hC : ∀ W, Mv r w W → Calls Tryd.prog 24 #[.agg #[.int .i64 (K : Int), .int .i64 0, .string ⟨#[]⟩, .slice none 0 0]] W fun e w' => e = .returned (.int .i64 6) ∧ Below W.heap.size W w') :
    Calls Tryd.prog 45 #[.pointer (some ⟨r, 0, none⟩), .int .i64 lists] w fun e w' => e = .returned (.tuple #[.agg #[.int .i64 0, .int .i64 0, .string ⟨#[]⟩, .slice none 0 0], .int .i64 0]) ∧ RdS r tb text none w' ∧ Mv r w w' := by
  have hr := h.2.2.1
  have htb := h.2.1
  have c1 : Hid (∀ W, RdS r tb text st W → Calls Tryd.prog 47 #[.pointer (some ⟨r, 0, none⟩), .int .i64 1] W fun e w' => e = .returned (.int .u64 K) ∧ RdS r tb text (cutP text st 1).2 w' ∧ Mv r W w') := fun W hW => by
    have := number_any r tb 1 text st W hW (by omega)
    rw [k1] at this
    exact this
  have HC := toHid hC
  clear hC
  rw [e1] at c1
  clear k1 e1
  have n1 : ((K : Int) == 1) = false := by simp; omega
  have n2 : ((K : Int) == 2) = false := by simp; omega
  have n3 : ((K : Int) == 3) = false := by simp; omega
  have n4 : ((K : Int) == 4) = false := by simp; omega
  have hb0 : ∀ o, Below w.heap.size w (w.alloc o) := fun o => (Below.refl _ _).alloc (Nat.le_refl _) _
  have hv0 : VB (w.alloc (.cells #[.int .i64 0, .int .i64 0, .string ⟨#[]⟩, .slice none 0 0] 24)) w.heap.size 0 0 ⟨#[]⟩ none 0 0 := alloc_new _ _
  have HV0 := toHid hv0
  have H := toHid h
  clear h hv0
  go_enter Tryd.func45, Tryd.ntmps45
  go_wp2_with fail
  refine (c1.out _ (H.out.below (hb0 _))).mono ?_
  rintro e w1 ⟨rfl, r1, m1⟩
  have hs1 : w.heap.size + 1 ≤ w1.heap.size := by have := m1.size; simpa using this
  have v1 : VB w1 w.heap.size 0 0 ⟨#[]⟩ none 0 0 := (m1.block _ (by simp) (by omega)).trans HV0.out
  have hm1 : Mv r w w1 := (Mv.below (hb0 _)).trans m1
  obtain ⟨x0, x1, x2, x3⟩ := v1.cells
  obtain ⟨f0, f1, f2, f3⟩ := v1.frees
  obtain ⟨y1, g1⟩ := r1.flag
  have hne : w.heap.size ≠ r := by omega
  have hne' : r ≠ w.heap.size := by omega
  have V1 := toHid v1
  have R1 := toHid r1
  have M1 := toHid hm1
  clear m1 v1 r1 hm1
  simp at y1
  go_wp2_with fail
  have v2 := V1.out.set0 (K : Int)
  have r2 := R1.out.setOther w.heap.size 0 (.int .i64 (K : Int)) hne (by omega)
  have m2 := M1.out.setNew w.heap.size 0 (.int .i64 (K : Int)) (Nat.le_refl _)
  refine (HC.out _ m2).mono ?_
  generalize (w1.setCell ⟨w.heap.size, 0, none⟩ (.int .i64 (K : Int))) = W2 at v2 r2 m2 ⊢
  rintro e w3 ⟨rfl, k3⟩
  have v3 : VB w3 w.heap.size (K : Int) 0 ⟨#[]⟩ none 0 0 := (k3.block _ (by have := (Array.getElem?_eq_some_iff.1 v2).1; exact this)).trans v2
  have r3 := r2.below k3
  have m3 := m2.old k3 m2.size
  obtain ⟨x0, x1, x2, x3⟩ := v3.cells
  obtain ⟨f0, f1, f2, f3⟩ := v3.frees
  obtain ⟨y3, g3⟩ := r3.flag
  simp at y3
  have V3 := toHid v3
  have R3 := toHid r3
  have M3 := toHid m3
  clear v2 r2 m2 k3 v3 r3 m3
  go_wp2_with fail
  have E := head_end (V3.out.other hne _) (R3.out.tear) (M3.out.trans (Mv.set _ 1 _)) (Nat.le_refl _) hne (by omega) 0 0 ⟨#[]⟩ none 0 0
  have eP : ∀ X : World, (((X.setCell ⟨w.heap.size, 0, none⟩ (.int .i64 0)).setCell ⟨w.heap.size, 1, none⟩ (.int .i64 0)).setCell ⟨w.heap.size, 2, none⟩ (.string ⟨#[]⟩)).setCell ⟨w.heap.size, 3, none⟩ (.slice none 0 0) = put4 X w.heap.size (.int .i64 0) (.int .i64 0) (.string ⟨#[]⟩) (.slice none 0 0) := fun _ => rfl
  rw [eP]
  generalize put4 (w3.setCell ⟨r, 1, none⟩ (.bool true)) w.heap.size (.int .i64 0) (.int .i64 0) (.string ⟨#[]⟩) (.slice none 0 0) = X at E ⊢
  obtain ⟨ev, er, em⟩ := E
  obtain ⟨t0, t1, t2, t3⟩ := ev.cells
  exact bodyPost_ret (v := .tuple #[.agg #[.int .i64 0, .int .i64 0, .string ⟨#[]⟩, .slice none 0 0], .int .i64 0]) (by simp [results, Tryd.results45, go_sem, t0, t1, t2, t3]) rfl ⟨rfl, er, em⟩

set_option maxHeartbeats 2000000 in
set_option maxRecDepth 100000 in
/-- A number that is cut. -/
theorem head_num1_torn (r tb : Nat) (text : List UInt8) (st : Option Nat) (lists : Int) (w : World) (h : RdS r tb text st w) (k1 : ofHi (cutP text st 1).1 = 1) (e2 : (cutP text (cutP text st 1).2 8).2 = none) :
    Calls Tryd.prog 45 #[.pointer (some ⟨r, 0, none⟩), .int .i64 lists] w fun e w' => e = .returned (.tuple #[.agg #[.int .i64 0, .int .i64 0, .string ⟨#[]⟩, .slice none 0 0], .int .i64 0]) ∧ RdS r tb text none w' ∧ Mv r w w' := by
  have hr := h.2.2.1
  have htb := h.2.1
  have c1 : Hid (∀ W, RdS r tb text st W → Calls Tryd.prog 47 #[.pointer (some ⟨r, 0, none⟩), .int .i64 1] W fun e w' => e = .returned (.int .u64 1) ∧ RdS r tb text (cutP text st 1).2 w' ∧ Mv r W w') := fun W hW => by
    have := number_any r tb 1 text st W hW (by omega)
    rw [k1] at this
    exact this
  have c2 : Hid (∀ W, RdS r tb text (cutP text st 1).2 W → Calls Tryd.prog 47 #[.pointer (some ⟨r, 0, none⟩), .int .i64 8] W fun e w' => e = .returned (.int .u64 (ofHi (cutP text (cutP text st 1).2 8).1)) ∧ RdS r tb text (cutP text (cutP text st 1).2 8).2 w' ∧ Mv r W w') := fun W hW => number_any r tb 8 text _ W hW (by omega)
  have hdn := dn_eq _ (ofHi_eight _ (cutP_len text (cutP text st 1).2 8))
  clear k1
  rw [e2] at c2
  clear e2
  generalize ofHi (cutP text (cutP text st 1).2 8).1 = U at *
  generalize (cutP text st 1).2 = s1 at *
  have hb0 : ∀ o, Below w.heap.size w (w.alloc o) := fun o => (Below.refl _ _).alloc (Nat.le_refl _) _
  have hv0 : VB (w.alloc (.cells #[.int .i64 0, .int .i64 0, .string ⟨#[]⟩, .slice none 0 0] 24)) w.heap.size 0 0 ⟨#[]⟩ none 0 0 := alloc_new _ _
  have HV0 := toHid hv0
  have H := toHid h
  clear h hv0
  go_enter Tryd.func45, Tryd.ntmps45
  go_wp2_with fail
  refine (c1.out _ (H.out.below (hb0 _))).mono ?_
  rintro e w1 ⟨rfl, r1, m1⟩
  have hs1 : w.heap.size + 1 ≤ w1.heap.size := by have := m1.size; simpa using this
  have v1 : VB w1 w.heap.size 0 0 ⟨#[]⟩ none 0 0 := (m1.block _ (by simp) (by omega)).trans HV0.out
  have hm1 : Mv r w w1 := (Mv.below (hb0 _)).trans m1
  obtain ⟨x0, x1, x2, x3⟩ := v1.cells
  obtain ⟨f0, f1, f2, f3⟩ := v1.frees
  obtain ⟨y1, g1⟩ := r1.flag
  have hne : w.heap.size ≠ r := by omega
  have hne' : r ≠ w.heap.size := by omega
  have V1 := toHid v1
  have R1 := toHid r1
  have M1 := toHid hm1
  clear m1 v1 r1 hm1
  go_wp2_with fail
  have v1' := V1.out.set0 1
  have r1' := R1.out.setOther w.heap.size 0 (.int .i64 1) hne (by omega)
  have m1' := M1.out.setNew w.heap.size 0 (.int .i64 1) (Nat.le_refl _)
  refine (c2.out _ r1').mono ?_
  generalize w1.setCell ⟨w.heap.size, 0, none⟩ (.int .i64 1) = W1 at v1' r1' m1' ⊢
  rintro e w2 ⟨rfl, r2, m2⟩
  have v2 : VB w2 w.heap.size 1 0 ⟨#[]⟩ none 0 0 := (m2.block _ (by have := (Array.getElem?_eq_some_iff.1 v1').1; exact this) hne).trans v1'
  have m2' := m1'.trans m2
  obtain ⟨x0, x1, x2, x3⟩ := v2.cells
  obtain ⟨f0, f1, f2, f3⟩ := v2.frees
  obtain ⟨y2, g2⟩ := r2.flag
  simp at y2
  have V2 := toHid v2
  have R2 := toHid r2
  have M2 := toHid m2'
  clear v1' r1' m1' v2 r2 m2 m2' V1 R1 M1
  go_wp2_with fail
  have E := head_end ((V2.out.set1 (dn U)).other hne _) ((R2.out.setOther w.heap.size 1 _ hne (by omega)).tear) ((M2.out.setNew w.heap.size 1 _ (Nat.le_refl _)).trans (Mv.set _ 1 _)) (Nat.le_refl _) hne (by omega) 0 0 ⟨#[]⟩ none 0 0
  have eP : ∀ X : World, (((X.setCell ⟨w.heap.size, 0, none⟩ (.int .i64 0)).setCell ⟨w.heap.size, 1, none⟩ (.int .i64 0)).setCell ⟨w.heap.size, 2, none⟩ (.string ⟨#[]⟩)).setCell ⟨w.heap.size, 3, none⟩ (.slice none 0 0) = put4 X w.heap.size (.int .i64 0) (.int .i64 0) (.string ⟨#[]⟩) (.slice none 0 0) := fun _ => rfl
  rw [eP]
  generalize put4 ((w2.setCell ⟨w.heap.size, 1, none⟩ (.int .i64 (dn U))).setCell ⟨r, 1, none⟩ (.bool true)) w.heap.size (.int .i64 0) (.int .i64 0) (.string ⟨#[]⟩) (.slice none 0 0) = X at E ⊢
  obtain ⟨ev, er, em⟩ := E
  obtain ⟨t0, t1, t2, t3⟩ := ev.cells
  exact bodyPost_ret (v := .tuple #[.agg #[.int .i64 0, .int .i64 0, .string ⟨#[]⟩, .slice none 0 0], .int .i64 0]) (by simp [results, Tryd.results45, go_sem, t0, t1, t2, t3]) rfl ⟨rfl, er, em⟩

set_option maxHeartbeats 2000000 in
set_option maxRecDepth 100000 in
/-- A number. -/
theorem head_num1_ok (r tb : Nat) (text : List UInt8) (st : Option Nat) (lists : Int) (w : World) (h : RdS r tb text st w) (k1 : ofHi (cutP text st 1).1 = 1) (p : Nat) (e2 : (cutP text (cutP text st 1).2 8).2 = some p) (hC : ∀ W, Mv r w W → Calls Tryd.prog 24 #[.agg #[.int .i64 1, .int .i64 (dn (ofHi (cutP text (cutP text st 1).2 8).1)), .string ⟨#[]⟩, .slice none 0 0]] W fun e w' => e = .returned (.int .i64 0) ∧ Below W.heap.size W w') :
    Calls Tryd.prog 45 #[.pointer (some ⟨r, 0, none⟩), .int .i64 lists] w fun e w' => e = .returned (.tuple #[.agg #[.int .i64 1, .int .i64 (dn (ofHi (cutP text (cutP text st 1).2 8).1)), .string ⟨#[]⟩, .slice none 0 0], .int .i64 0]) ∧ RdS r tb text (some p) w' ∧ Mv r w w' := by
  have hr := h.2.2.1
  have htb := h.2.1
  have c1 : Hid (∀ W, RdS r tb text st W → Calls Tryd.prog 47 #[.pointer (some ⟨r, 0, none⟩), .int .i64 1] W fun e w' => e = .returned (.int .u64 1) ∧ RdS r tb text (cutP text st 1).2 w' ∧ Mv r W w') := fun W hW => by
    have := number_any r tb 1 text st W hW (by omega)
    rw [k1] at this
    exact this
  have HC := toHid hC
  clear hC
  have c2 : Hid (∀ W, RdS r tb text (cutP text st 1).2 W → Calls Tryd.prog 47 #[.pointer (some ⟨r, 0, none⟩), .int .i64 8] W fun e w' => e = .returned (.int .u64 (ofHi (cutP text (cutP text st 1).2 8).1)) ∧ RdS r tb text (cutP text (cutP text st 1).2 8).2 w' ∧ Mv r W w') := fun W hW => number_any r tb 8 text _ W hW (by omega)
  have hdn := dn_eq _ (ofHi_eight _ (cutP_len text (cutP text st 1).2 8))
  clear k1
  rw [e2] at c2
  clear e2
  generalize ofHi (cutP text (cutP text st 1).2 8).1 = U at *
  generalize (cutP text st 1).2 = s1 at *
  have hb0 : ∀ o, Below w.heap.size w (w.alloc o) := fun o => (Below.refl _ _).alloc (Nat.le_refl _) _
  have hv0 : VB (w.alloc (.cells #[.int .i64 0, .int .i64 0, .string ⟨#[]⟩, .slice none 0 0] 24)) w.heap.size 0 0 ⟨#[]⟩ none 0 0 := alloc_new _ _
  have HV0 := toHid hv0
  have H := toHid h
  clear h hv0
  go_enter Tryd.func45, Tryd.ntmps45
  go_wp2_with fail
  refine (c1.out _ (H.out.below (hb0 _))).mono ?_
  rintro e w1 ⟨rfl, r1, m1⟩
  have hs1 : w.heap.size + 1 ≤ w1.heap.size := by have := m1.size; simpa using this
  have v1 : VB w1 w.heap.size 0 0 ⟨#[]⟩ none 0 0 := (m1.block _ (by simp) (by omega)).trans HV0.out
  have hm1 : Mv r w w1 := (Mv.below (hb0 _)).trans m1
  obtain ⟨x0, x1, x2, x3⟩ := v1.cells
  obtain ⟨f0, f1, f2, f3⟩ := v1.frees
  obtain ⟨y1, g1⟩ := r1.flag
  have hne : w.heap.size ≠ r := by omega
  have hne' : r ≠ w.heap.size := by omega
  have V1 := toHid v1
  have R1 := toHid r1
  have M1 := toHid hm1
  clear m1 v1 r1 hm1
  go_wp2_with fail
  have v1' := V1.out.set0 1
  have r1' := R1.out.setOther w.heap.size 0 (.int .i64 1) hne (by omega)
  have m1' := M1.out.setNew w.heap.size 0 (.int .i64 1) (Nat.le_refl _)
  refine (c2.out _ r1').mono ?_
  generalize w1.setCell ⟨w.heap.size, 0, none⟩ (.int .i64 1) = W1 at v1' r1' m1' ⊢
  rintro e w2 ⟨rfl, r2, m2⟩
  have v2 : VB w2 w.heap.size 1 0 ⟨#[]⟩ none 0 0 := (m2.block _ (by have := (Array.getElem?_eq_some_iff.1 v1').1; exact this) hne).trans v1'
  have m2' := m1'.trans m2
  obtain ⟨x0, x1, x2, x3⟩ := v2.cells
  obtain ⟨f0, f1, f2, f3⟩ := v2.frees
  obtain ⟨y2, g2⟩ := r2.flag
  simp at y2
  have V2 := toHid v2
  have R2 := toHid r2
  have M2 := toHid m2'
  clear v1' r1' m1' v2 r2 m2 m2' V1 R1 M1
  go_wp2_with fail
  have v2 := V2.out.set1 (dn U)
  have r2 := R2.out.setOther w.heap.size 1 (.int .i64 (dn U)) hne (by omega)
  have m2 := M2.out.setNew w.heap.size 1 (.int .i64 (dn U)) (Nat.le_refl _)
  refine (HC.out _ m2).mono ?_
  generalize (w2.setCell ⟨w.heap.size, 1, none⟩ (.int .i64 (dn U))) = W2 at v2 r2 m2 ⊢
  rintro e w3 ⟨rfl, k3⟩
  have v3 : VB w3 w.heap.size 1 (dn U) ⟨#[]⟩ none 0 0 := (k3.block _ (by have := (Array.getElem?_eq_some_iff.1 v2).1; exact this)).trans v2
  have r3 := r2.below k3
  have m3 := m2.old k3 m2.size
  obtain ⟨x0, x1, x2, x3⟩ := v3.cells
  obtain ⟨f0, f1, f2, f3⟩ := v3.frees
  obtain ⟨y3, g3⟩ := r3.flag
  simp at y3
  have V3 := toHid v3
  have R3 := toHid r3
  have M3 := toHid m3
  clear v2 r2 m2 k3 v3 r3 m3
  go_wp2_with fail
  have E := head_end (V3.out.other hne _) (R3.out.keep) (M3.out.trans (Mv.set _ 1 _)) (Nat.le_refl _) hne (by omega) 1 (dn U) ⟨#[]⟩ none 0 0
  have eP : ∀ X : World, (((X.setCell ⟨w.heap.size, 0, none⟩ (.int .i64 1)).setCell ⟨w.heap.size, 1, none⟩ (.int .i64 (dn U))).setCell ⟨w.heap.size, 2, none⟩ (.string ⟨#[]⟩)).setCell ⟨w.heap.size, 3, none⟩ (.slice none 0 0) = put4 X w.heap.size (.int .i64 1) (.int .i64 (dn U)) (.string ⟨#[]⟩) (.slice none 0 0) := fun _ => rfl
  rw [eP]
  generalize put4 (w3.setCell ⟨r, 1, none⟩ (.bool false)) w.heap.size (.int .i64 1) (.int .i64 (dn U)) (.string ⟨#[]⟩) (.slice none 0 0) = X at E ⊢
  obtain ⟨ev, er, em⟩ := E
  obtain ⟨t0, t1, t2, t3⟩ := ev.cells
  exact bodyPost_ret (v := .tuple #[.agg #[.int .i64 1, .int .i64 (dn U), .string ⟨#[]⟩, .slice none 0 0], .int .i64 0]) (by simp [results, Tryd.results45, go_sem, t0, t1, t2, t3]) rfl ⟨rfl, er, em⟩

set_option maxHeartbeats 2000000 in
set_option maxRecDepth 100000 in
/-- A number. -/
theorem head_num1_bad (r tb : Nat) (text : List UInt8) (st : Option Nat) (lists : Int) (w : World) (h : RdS r tb text st w) (k1 : ofHi (cutP text st 1).1 = 1) (p : Nat) (e2 : (cutP text (cutP text st 1).2 8).2 = some p) (hC : ∀ W, Mv r w W → Calls Tryd.prog 24 #[.agg #[.int .i64 1, .int .i64 (dn (ofHi (cutP text (cutP text st 1).2 8).1)), .string ⟨#[]⟩, .slice none 0 0]] W fun e w' => e = .returned (.int .i64 6) ∧ Below W.heap.size W w') :
    Calls Tryd.prog 45 #[.pointer (some ⟨r, 0, none⟩), .int .i64 lists] w fun e w' => e = .returned (.tuple #[.agg #[.int .i64 0, .int .i64 0, .string ⟨#[]⟩, .slice none 0 0], .int .i64 0]) ∧ RdS r tb text none w' ∧ Mv r w w' := by
  have hr := h.2.2.1
  have htb := h.2.1
  have c1 : Hid (∀ W, RdS r tb text st W → Calls Tryd.prog 47 #[.pointer (some ⟨r, 0, none⟩), .int .i64 1] W fun e w' => e = .returned (.int .u64 1) ∧ RdS r tb text (cutP text st 1).2 w' ∧ Mv r W w') := fun W hW => by
    have := number_any r tb 1 text st W hW (by omega)
    rw [k1] at this
    exact this
  have HC := toHid hC
  clear hC
  have c2 : Hid (∀ W, RdS r tb text (cutP text st 1).2 W → Calls Tryd.prog 47 #[.pointer (some ⟨r, 0, none⟩), .int .i64 8] W fun e w' => e = .returned (.int .u64 (ofHi (cutP text (cutP text st 1).2 8).1)) ∧ RdS r tb text (cutP text (cutP text st 1).2 8).2 w' ∧ Mv r W w') := fun W hW => number_any r tb 8 text _ W hW (by omega)
  have hdn := dn_eq _ (ofHi_eight _ (cutP_len text (cutP text st 1).2 8))
  clear k1
  rw [e2] at c2
  clear e2
  generalize ofHi (cutP text (cutP text st 1).2 8).1 = U at *
  generalize (cutP text st 1).2 = s1 at *
  have hb0 : ∀ o, Below w.heap.size w (w.alloc o) := fun o => (Below.refl _ _).alloc (Nat.le_refl _) _
  have hv0 : VB (w.alloc (.cells #[.int .i64 0, .int .i64 0, .string ⟨#[]⟩, .slice none 0 0] 24)) w.heap.size 0 0 ⟨#[]⟩ none 0 0 := alloc_new _ _
  have HV0 := toHid hv0
  have H := toHid h
  clear h hv0
  go_enter Tryd.func45, Tryd.ntmps45
  go_wp2_with fail
  refine (c1.out _ (H.out.below (hb0 _))).mono ?_
  rintro e w1 ⟨rfl, r1, m1⟩
  have hs1 : w.heap.size + 1 ≤ w1.heap.size := by have := m1.size; simpa using this
  have v1 : VB w1 w.heap.size 0 0 ⟨#[]⟩ none 0 0 := (m1.block _ (by simp) (by omega)).trans HV0.out
  have hm1 : Mv r w w1 := (Mv.below (hb0 _)).trans m1
  obtain ⟨x0, x1, x2, x3⟩ := v1.cells
  obtain ⟨f0, f1, f2, f3⟩ := v1.frees
  obtain ⟨y1, g1⟩ := r1.flag
  have hne : w.heap.size ≠ r := by omega
  have hne' : r ≠ w.heap.size := by omega
  have V1 := toHid v1
  have R1 := toHid r1
  have M1 := toHid hm1
  clear m1 v1 r1 hm1
  go_wp2_with fail
  have v1' := V1.out.set0 1
  have r1' := R1.out.setOther w.heap.size 0 (.int .i64 1) hne (by omega)
  have m1' := M1.out.setNew w.heap.size 0 (.int .i64 1) (Nat.le_refl _)
  refine (c2.out _ r1').mono ?_
  generalize w1.setCell ⟨w.heap.size, 0, none⟩ (.int .i64 1) = W1 at v1' r1' m1' ⊢
  rintro e w2 ⟨rfl, r2, m2⟩
  have v2 : VB w2 w.heap.size 1 0 ⟨#[]⟩ none 0 0 := (m2.block _ (by have := (Array.getElem?_eq_some_iff.1 v1').1; exact this) hne).trans v1'
  have m2' := m1'.trans m2
  obtain ⟨x0, x1, x2, x3⟩ := v2.cells
  obtain ⟨f0, f1, f2, f3⟩ := v2.frees
  obtain ⟨y2, g2⟩ := r2.flag
  simp at y2
  have V2 := toHid v2
  have R2 := toHid r2
  have M2 := toHid m2'
  clear v1' r1' m1' v2 r2 m2 m2' V1 R1 M1
  go_wp2_with fail
  have v2 := V2.out.set1 (dn U)
  have r2 := R2.out.setOther w.heap.size 1 (.int .i64 (dn U)) hne (by omega)
  have m2 := M2.out.setNew w.heap.size 1 (.int .i64 (dn U)) (Nat.le_refl _)
  refine (HC.out _ m2).mono ?_
  generalize (w2.setCell ⟨w.heap.size, 1, none⟩ (.int .i64 (dn U))) = W2 at v2 r2 m2 ⊢
  rintro e w3 ⟨rfl, k3⟩
  have v3 : VB w3 w.heap.size 1 (dn U) ⟨#[]⟩ none 0 0 := (k3.block _ (by have := (Array.getElem?_eq_some_iff.1 v2).1; exact this)).trans v2
  have r3 := r2.below k3
  have m3 := m2.old k3 m2.size
  obtain ⟨x0, x1, x2, x3⟩ := v3.cells
  obtain ⟨f0, f1, f2, f3⟩ := v3.frees
  obtain ⟨y3, g3⟩ := r3.flag
  simp at y3
  have V3 := toHid v3
  have R3 := toHid r3
  have M3 := toHid m3
  clear v2 r2 m2 k3 v3 r3 m3
  go_wp2_with fail
  have E := head_end (V3.out.other hne _) (R3.out.tear) (M3.out.trans (Mv.set _ 1 _)) (Nat.le_refl _) hne (by omega) 0 0 ⟨#[]⟩ none 0 0
  have eP : ∀ X : World, (((X.setCell ⟨w.heap.size, 0, none⟩ (.int .i64 0)).setCell ⟨w.heap.size, 1, none⟩ (.int .i64 0)).setCell ⟨w.heap.size, 2, none⟩ (.string ⟨#[]⟩)).setCell ⟨w.heap.size, 3, none⟩ (.slice none 0 0) = put4 X w.heap.size (.int .i64 0) (.int .i64 0) (.string ⟨#[]⟩) (.slice none 0 0) := fun _ => rfl
  rw [eP]
  generalize put4 (w3.setCell ⟨r, 1, none⟩ (.bool true)) w.heap.size (.int .i64 0) (.int .i64 0) (.string ⟨#[]⟩) (.slice none 0 0) = X at E ⊢
  obtain ⟨ev, er, em⟩ := E
  obtain ⟨t0, t1, t2, t3⟩ := ev.cells
  exact bodyPost_ret (v := .tuple #[.agg #[.int .i64 0, .int .i64 0, .string ⟨#[]⟩, .slice none 0 0], .int .i64 0]) (by simp [results, Tryd.results45, go_sem, t0, t1, t2, t3]) rfl ⟨rfl, er, em⟩

set_option maxHeartbeats 2000000 in
set_option maxRecDepth 100000 in
/-- A number that is cut. -/
theorem head_num2_torn (r tb : Nat) (text : List UInt8) (st : Option Nat) (lists : Int) (w : World) (h : RdS r tb text st w) (k1 : ofHi (cutP text st 1).1 = 2) (e2 : (cutP text (cutP text st 1).2 8).2 = none) :
    Calls Tryd.prog 45 #[.pointer (some ⟨r, 0, none⟩), .int .i64 lists] w fun e w' => e = .returned (.tuple #[.agg #[.int .i64 0, .int .i64 0, .string ⟨#[]⟩, .slice none 0 0], .int .i64 0]) ∧ RdS r tb text none w' ∧ Mv r w w' := by
  have hr := h.2.2.1
  have htb := h.2.1
  have c1 : Hid (∀ W, RdS r tb text st W → Calls Tryd.prog 47 #[.pointer (some ⟨r, 0, none⟩), .int .i64 1] W fun e w' => e = .returned (.int .u64 2) ∧ RdS r tb text (cutP text st 1).2 w' ∧ Mv r W w') := fun W hW => by
    have := number_any r tb 1 text st W hW (by omega)
    rw [k1] at this
    exact this
  have c2 : Hid (∀ W, RdS r tb text (cutP text st 1).2 W → Calls Tryd.prog 47 #[.pointer (some ⟨r, 0, none⟩), .int .i64 8] W fun e w' => e = .returned (.int .u64 (ofHi (cutP text (cutP text st 1).2 8).1)) ∧ RdS r tb text (cutP text (cutP text st 1).2 8).2 w' ∧ Mv r W w') := fun W hW => number_any r tb 8 text _ W hW (by omega)
  have hdn := dn_eq _ (ofHi_eight _ (cutP_len text (cutP text st 1).2 8))
  clear k1
  rw [e2] at c2
  clear e2
  generalize ofHi (cutP text (cutP text st 1).2 8).1 = U at *
  generalize (cutP text st 1).2 = s1 at *
  have hb0 : ∀ o, Below w.heap.size w (w.alloc o) := fun o => (Below.refl _ _).alloc (Nat.le_refl _) _
  have hv0 : VB (w.alloc (.cells #[.int .i64 0, .int .i64 0, .string ⟨#[]⟩, .slice none 0 0] 24)) w.heap.size 0 0 ⟨#[]⟩ none 0 0 := alloc_new _ _
  have HV0 := toHid hv0
  have H := toHid h
  clear h hv0
  go_enter Tryd.func45, Tryd.ntmps45
  go_wp2_with fail
  refine (c1.out _ (H.out.below (hb0 _))).mono ?_
  rintro e w1 ⟨rfl, r1, m1⟩
  have hs1 : w.heap.size + 1 ≤ w1.heap.size := by have := m1.size; simpa using this
  have v1 : VB w1 w.heap.size 0 0 ⟨#[]⟩ none 0 0 := (m1.block _ (by simp) (by omega)).trans HV0.out
  have hm1 : Mv r w w1 := (Mv.below (hb0 _)).trans m1
  obtain ⟨x0, x1, x2, x3⟩ := v1.cells
  obtain ⟨f0, f1, f2, f3⟩ := v1.frees
  obtain ⟨y1, g1⟩ := r1.flag
  have hne : w.heap.size ≠ r := by omega
  have hne' : r ≠ w.heap.size := by omega
  have V1 := toHid v1
  have R1 := toHid r1
  have M1 := toHid hm1
  clear m1 v1 r1 hm1
  go_wp2_with fail
  have v1' := V1.out.set0 2
  have r1' := R1.out.setOther w.heap.size 0 (.int .i64 2) hne (by omega)
  have m1' := M1.out.setNew w.heap.size 0 (.int .i64 2) (Nat.le_refl _)
  refine (c2.out _ r1').mono ?_
  generalize w1.setCell ⟨w.heap.size, 0, none⟩ (.int .i64 2) = W1 at v1' r1' m1' ⊢
  rintro e w2 ⟨rfl, r2, m2⟩
  have v2 : VB w2 w.heap.size 2 0 ⟨#[]⟩ none 0 0 := (m2.block _ (by have := (Array.getElem?_eq_some_iff.1 v1').1; exact this) hne).trans v1'
  have m2' := m1'.trans m2
  obtain ⟨x0, x1, x2, x3⟩ := v2.cells
  obtain ⟨f0, f1, f2, f3⟩ := v2.frees
  obtain ⟨y2, g2⟩ := r2.flag
  simp at y2
  have V2 := toHid v2
  have R2 := toHid r2
  have M2 := toHid m2'
  clear v1' r1' m1' v2 r2 m2 m2' V1 R1 M1
  go_wp2_with fail
  have E := head_end ((V2.out.set1 (dn U)).other hne _) ((R2.out.setOther w.heap.size 1 _ hne (by omega)).tear) ((M2.out.setNew w.heap.size 1 _ (Nat.le_refl _)).trans (Mv.set _ 1 _)) (Nat.le_refl _) hne (by omega) 0 0 ⟨#[]⟩ none 0 0
  have eP : ∀ X : World, (((X.setCell ⟨w.heap.size, 0, none⟩ (.int .i64 0)).setCell ⟨w.heap.size, 1, none⟩ (.int .i64 0)).setCell ⟨w.heap.size, 2, none⟩ (.string ⟨#[]⟩)).setCell ⟨w.heap.size, 3, none⟩ (.slice none 0 0) = put4 X w.heap.size (.int .i64 0) (.int .i64 0) (.string ⟨#[]⟩) (.slice none 0 0) := fun _ => rfl
  rw [eP]
  generalize put4 ((w2.setCell ⟨w.heap.size, 1, none⟩ (.int .i64 (dn U))).setCell ⟨r, 1, none⟩ (.bool true)) w.heap.size (.int .i64 0) (.int .i64 0) (.string ⟨#[]⟩) (.slice none 0 0) = X at E ⊢
  obtain ⟨ev, er, em⟩ := E
  obtain ⟨t0, t1, t2, t3⟩ := ev.cells
  exact bodyPost_ret (v := .tuple #[.agg #[.int .i64 0, .int .i64 0, .string ⟨#[]⟩, .slice none 0 0], .int .i64 0]) (by simp [results, Tryd.results45, go_sem, t0, t1, t2, t3]) rfl ⟨rfl, er, em⟩

set_option maxHeartbeats 2000000 in
set_option maxRecDepth 100000 in
/-- A number. -/
theorem head_num2_ok (r tb : Nat) (text : List UInt8) (st : Option Nat) (lists : Int) (w : World) (h : RdS r tb text st w) (k1 : ofHi (cutP text st 1).1 = 2) (p : Nat) (e2 : (cutP text (cutP text st 1).2 8).2 = some p) (hC : ∀ W, Mv r w W → Calls Tryd.prog 24 #[.agg #[.int .i64 2, .int .i64 (dn (ofHi (cutP text (cutP text st 1).2 8).1)), .string ⟨#[]⟩, .slice none 0 0]] W fun e w' => e = .returned (.int .i64 0) ∧ Below W.heap.size W w') :
    Calls Tryd.prog 45 #[.pointer (some ⟨r, 0, none⟩), .int .i64 lists] w fun e w' => e = .returned (.tuple #[.agg #[.int .i64 2, .int .i64 (dn (ofHi (cutP text (cutP text st 1).2 8).1)), .string ⟨#[]⟩, .slice none 0 0], .int .i64 0]) ∧ RdS r tb text (some p) w' ∧ Mv r w w' := by
  have hr := h.2.2.1
  have htb := h.2.1
  have c1 : Hid (∀ W, RdS r tb text st W → Calls Tryd.prog 47 #[.pointer (some ⟨r, 0, none⟩), .int .i64 1] W fun e w' => e = .returned (.int .u64 2) ∧ RdS r tb text (cutP text st 1).2 w' ∧ Mv r W w') := fun W hW => by
    have := number_any r tb 1 text st W hW (by omega)
    rw [k1] at this
    exact this
  have HC := toHid hC
  clear hC
  have c2 : Hid (∀ W, RdS r tb text (cutP text st 1).2 W → Calls Tryd.prog 47 #[.pointer (some ⟨r, 0, none⟩), .int .i64 8] W fun e w' => e = .returned (.int .u64 (ofHi (cutP text (cutP text st 1).2 8).1)) ∧ RdS r tb text (cutP text (cutP text st 1).2 8).2 w' ∧ Mv r W w') := fun W hW => number_any r tb 8 text _ W hW (by omega)
  have hdn := dn_eq _ (ofHi_eight _ (cutP_len text (cutP text st 1).2 8))
  clear k1
  rw [e2] at c2
  clear e2
  generalize ofHi (cutP text (cutP text st 1).2 8).1 = U at *
  generalize (cutP text st 1).2 = s1 at *
  have hb0 : ∀ o, Below w.heap.size w (w.alloc o) := fun o => (Below.refl _ _).alloc (Nat.le_refl _) _
  have hv0 : VB (w.alloc (.cells #[.int .i64 0, .int .i64 0, .string ⟨#[]⟩, .slice none 0 0] 24)) w.heap.size 0 0 ⟨#[]⟩ none 0 0 := alloc_new _ _
  have HV0 := toHid hv0
  have H := toHid h
  clear h hv0
  go_enter Tryd.func45, Tryd.ntmps45
  go_wp2_with fail
  refine (c1.out _ (H.out.below (hb0 _))).mono ?_
  rintro e w1 ⟨rfl, r1, m1⟩
  have hs1 : w.heap.size + 1 ≤ w1.heap.size := by have := m1.size; simpa using this
  have v1 : VB w1 w.heap.size 0 0 ⟨#[]⟩ none 0 0 := (m1.block _ (by simp) (by omega)).trans HV0.out
  have hm1 : Mv r w w1 := (Mv.below (hb0 _)).trans m1
  obtain ⟨x0, x1, x2, x3⟩ := v1.cells
  obtain ⟨f0, f1, f2, f3⟩ := v1.frees
  obtain ⟨y1, g1⟩ := r1.flag
  have hne : w.heap.size ≠ r := by omega
  have hne' : r ≠ w.heap.size := by omega
  have V1 := toHid v1
  have R1 := toHid r1
  have M1 := toHid hm1
  clear m1 v1 r1 hm1
  go_wp2_with fail
  have v1' := V1.out.set0 2
  have r1' := R1.out.setOther w.heap.size 0 (.int .i64 2) hne (by omega)
  have m1' := M1.out.setNew w.heap.size 0 (.int .i64 2) (Nat.le_refl _)
  refine (c2.out _ r1').mono ?_
  generalize w1.setCell ⟨w.heap.size, 0, none⟩ (.int .i64 2) = W1 at v1' r1' m1' ⊢
  rintro e w2 ⟨rfl, r2, m2⟩
  have v2 : VB w2 w.heap.size 2 0 ⟨#[]⟩ none 0 0 := (m2.block _ (by have := (Array.getElem?_eq_some_iff.1 v1').1; exact this) hne).trans v1'
  have m2' := m1'.trans m2
  obtain ⟨x0, x1, x2, x3⟩ := v2.cells
  obtain ⟨f0, f1, f2, f3⟩ := v2.frees
  obtain ⟨y2, g2⟩ := r2.flag
  simp at y2
  have V2 := toHid v2
  have R2 := toHid r2
  have M2 := toHid m2'
  clear v1' r1' m1' v2 r2 m2 m2' V1 R1 M1
  go_wp2_with fail
  have v2 := V2.out.set1 (dn U)
  have r2 := R2.out.setOther w.heap.size 1 (.int .i64 (dn U)) hne (by omega)
  have m2 := M2.out.setNew w.heap.size 1 (.int .i64 (dn U)) (Nat.le_refl _)
  refine (HC.out _ m2).mono ?_
  generalize (w2.setCell ⟨w.heap.size, 1, none⟩ (.int .i64 (dn U))) = W2 at v2 r2 m2 ⊢
  rintro e w3 ⟨rfl, k3⟩
  have v3 : VB w3 w.heap.size 2 (dn U) ⟨#[]⟩ none 0 0 := (k3.block _ (by have := (Array.getElem?_eq_some_iff.1 v2).1; exact this)).trans v2
  have r3 := r2.below k3
  have m3 := m2.old k3 m2.size
  obtain ⟨x0, x1, x2, x3⟩ := v3.cells
  obtain ⟨f0, f1, f2, f3⟩ := v3.frees
  obtain ⟨y3, g3⟩ := r3.flag
  simp at y3
  have V3 := toHid v3
  have R3 := toHid r3
  have M3 := toHid m3
  clear v2 r2 m2 k3 v3 r3 m3
  go_wp2_with fail
  have E := head_end (V3.out.other hne _) (R3.out.keep) (M3.out.trans (Mv.set _ 1 _)) (Nat.le_refl _) hne (by omega) 2 (dn U) ⟨#[]⟩ none 0 0
  have eP : ∀ X : World, (((X.setCell ⟨w.heap.size, 0, none⟩ (.int .i64 2)).setCell ⟨w.heap.size, 1, none⟩ (.int .i64 (dn U))).setCell ⟨w.heap.size, 2, none⟩ (.string ⟨#[]⟩)).setCell ⟨w.heap.size, 3, none⟩ (.slice none 0 0) = put4 X w.heap.size (.int .i64 2) (.int .i64 (dn U)) (.string ⟨#[]⟩) (.slice none 0 0) := fun _ => rfl
  rw [eP]
  generalize put4 (w3.setCell ⟨r, 1, none⟩ (.bool false)) w.heap.size (.int .i64 2) (.int .i64 (dn U)) (.string ⟨#[]⟩) (.slice none 0 0) = X at E ⊢
  obtain ⟨ev, er, em⟩ := E
  obtain ⟨t0, t1, t2, t3⟩ := ev.cells
  exact bodyPost_ret (v := .tuple #[.agg #[.int .i64 2, .int .i64 (dn U), .string ⟨#[]⟩, .slice none 0 0], .int .i64 0]) (by simp [results, Tryd.results45, go_sem, t0, t1, t2, t3]) rfl ⟨rfl, er, em⟩

set_option maxHeartbeats 2000000 in
set_option maxRecDepth 100000 in
/-- A text that is cut. -/
theorem head_text_torn (r tb : Nat) (text : List UInt8) (st : Option Nat) (lists : Int) (w : World) (h : RdS r tb text st w) (k1 : ofHi (cutP text st 1).1 = 3) (e3 : (cutP text (cutP text (cutP text st 1).2 2).2 (ofHi (cutP text (cutP text st 1).2 2).1)).2 = none) :
    Calls Tryd.prog 45 #[.pointer (some ⟨r, 0, none⟩), .int .i64 lists] w fun e w' => e = .returned (.tuple #[.agg #[.int .i64 0, .int .i64 0, .string ⟨#[]⟩, .slice none 0 0], .int .i64 0]) ∧ RdS r tb text none w' ∧ Mv r w w' := by
  have hr := h.2.2.1
  have htb := h.2.1
  have c1 : Hid (∀ W, RdS r tb text st W → Calls Tryd.prog 47 #[.pointer (some ⟨r, 0, none⟩), .int .i64 1] W fun e w' => e = .returned (.int .u64 3) ∧ RdS r tb text (cutP text st 1).2 w' ∧ Mv r W w') := fun W hW => by
    have := number_any r tb 1 text st W hW (by omega)
    rw [k1] at this
    exact this
  have c2 : Hid (∀ W, RdS r tb text (cutP text st 1).2 W → Calls Tryd.prog 47 #[.pointer (some ⟨r, 0, none⟩), .int .i64 2] W fun e w' => e = .returned (.int .u64 (ofHi (cutP text (cutP text st 1).2 2).1)) ∧ RdS r tb text (cutP text (cutP text st 1).2 2).2 w' ∧ Mv r W w') := fun W hW => number_any r tb 2 text _ W hW (by omega)
  have hm := ofHi_two _ (cutP_len text (cutP text st 1).2 2)
  have c3 : Hid (∀ W, RdS r tb text (cutP text (cutP text st 1).2 2).2 W → Calls Tryd.prog 48 #[.pointer (some ⟨r, 0, none⟩), .int .i64 (ofHi (cutP text (cutP text st 1).2 2).1)] W fun e w' => ∃ a, e = .returned (.slice a (cutP text (cutP text (cutP text st 1).2 2).2 (ofHi (cutP text (cutP text st 1).2 2).1)).1.length (cutP text (cutP text (cutP text st 1).2 2).2 (ofHi (cutP text (cutP text st 1).2 2).1)).1.length) ∧ Piece tb a (cutP text (cutP text (cutP text st 1).2 2).2 (ofHi (cutP text (cutP text st 1).2 2).1)).1 w' ∧ RdS r tb text (cutP text (cutP text (cutP text st 1).2 2).2 (ofHi (cutP text (cutP text st 1).2 2).1)).2 w' ∧ Mv r W w') := fun W hW => cut_any r tb _ text _ W hW (by omega)
  clear k1
  rw [e3] at c3
  clear e3
  generalize (cutP text (cutP text (cutP text st 1).2 2).2 (ofHi (cutP text (cutP text st 1).2 2).1)).1 = HD at *
  obtain ⟨SS, hSS⟩ : ∃ SS : ByteArray, SS = ⟨HD.toArray⟩ := ⟨_, rfl⟩
  have HSS := toHid hSS
  try rw [← hSS]
  try rw [← hSS] at HC
  clear hSS
  generalize (ofHi (cutP text (cutP text st 1).2 2).1) = M at *
  generalize (cutP text (cutP text st 1).2 2).2 = s2 at *
  generalize (cutP text st 1).2 = s1 at *
  have hb0 : ∀ o, Below w.heap.size w (w.alloc o) := fun o => (Below.refl _ _).alloc (Nat.le_refl _) _
  have hv0 : VB (w.alloc (.cells #[.int .i64 0, .int .i64 0, .string ⟨#[]⟩, .slice none 0 0] 24)) w.heap.size 0 0 ⟨#[]⟩ none 0 0 := alloc_new _ _
  have HV0 := toHid hv0
  have H := toHid h
  clear h hv0
  go_enter Tryd.func45, Tryd.ntmps45
  go_wp2_with fail
  refine (c1.out _ (H.out.below (hb0 _))).mono ?_
  rintro e w1 ⟨rfl, r1, m1⟩
  have hs1 : w.heap.size + 1 ≤ w1.heap.size := by have := m1.size; simpa using this
  have v1 : VB w1 w.heap.size 0 0 ⟨#[]⟩ none 0 0 := (m1.block _ (by simp) (by omega)).trans HV0.out
  have hm1 : Mv r w w1 := (Mv.below (hb0 _)).trans m1
  obtain ⟨x0, x1, x2, x3⟩ := v1.cells
  obtain ⟨f0, f1, f2, f3⟩ := v1.frees
  obtain ⟨y1, g1⟩ := r1.flag
  have hne : w.heap.size ≠ r := by omega
  have hne' : r ≠ w.heap.size := by omega
  have V1 := toHid v1
  have R1 := toHid r1
  have M1 := toHid hm1
  clear m1 v1 r1 hm1
  go_wp2_with fail
  have v1' := V1.out.set0 3
  have r1' := R1.out.setOther w.heap.size 0 (.int .i64 3) hne (by omega)
  have m1' := M1.out.setNew w.heap.size 0 (.int .i64 3) (Nat.le_refl _)
  refine (c2.out _ r1').mono ?_
  generalize w1.setCell ⟨w.heap.size, 0, none⟩ (.int .i64 3) = W1 at v1' r1' m1' ⊢
  rintro e w2 ⟨rfl, r2, m2⟩
  have v2 : VB w2 w.heap.size 3 0 ⟨#[]⟩ none 0 0 := (m2.block _ (by have := (Array.getElem?_eq_some_iff.1 v1').1; exact this) hne).trans v1'
  have m2' := m1'.trans m2
  clear v1' r1' m1' m2 V1 R1 M1
  go_wp2_with fail
  refine (c3.out _ r2).mono ?_
  rintro e w4 ⟨pa, rfl, hpc, r4, m4⟩
  have v4 : VB w4 w.heap.size 3 0 ⟨#[]⟩ none 0 0 := (m4.block _ (by have := (Array.getElem?_eq_some_iff.1 v2).1; exact this) hne).trans v2
  have m4' := m2'.trans m4
  have hcv := conv_piece hpc
  obtain ⟨x0, x1, x2, x3⟩ := v4.cells
  obtain ⟨f0, f1, f2, f3⟩ := v4.frees
  obtain ⟨y4, g4⟩ := r4.flag
  simp at y4
  rw [← HSS.out] at hcv
  have V2 := toHid v4
  have R2 := toHid r4
  have M2 := toHid m4'
  clear v2 r2 m2' v4 r4 m4 m4' hpc
  go_wp2_with fail
  have E := head_end ((V2.out.set2 SS).other hne _) ((R2.out.setOther w.heap.size 2 _ hne (by omega)).tear) ((M2.out.setNew w.heap.size 2 _ (Nat.le_refl _)).trans (Mv.set _ 1 _)) (Nat.le_refl _) hne (by omega) 0 0 ⟨#[]⟩ none 0 0
  have eP : ∀ X : World, (((X.setCell ⟨w.heap.size, 0, none⟩ (.int .i64 0)).setCell ⟨w.heap.size, 1, none⟩ (.int .i64 0)).setCell ⟨w.heap.size, 2, none⟩ (.string ⟨#[]⟩)).setCell ⟨w.heap.size, 3, none⟩ (.slice none 0 0) = put4 X w.heap.size (.int .i64 0) (.int .i64 0) (.string ⟨#[]⟩) (.slice none 0 0) := fun _ => rfl
  rw [eP]
  generalize put4 ((w4.setCell ⟨w.heap.size, 2, none⟩ (.string SS)).setCell ⟨r, 1, none⟩ (.bool true)) w.heap.size (.int .i64 0) (.int .i64 0) (.string ⟨#[]⟩) (.slice none 0 0) = X at E ⊢
  obtain ⟨ev, er, em⟩ := E
  obtain ⟨t0, t1, t2, t3⟩ := ev.cells
  exact bodyPost_ret (v := .tuple #[.agg #[.int .i64 0, .int .i64 0, .string ⟨#[]⟩, .slice none 0 0], .int .i64 0]) (by simp [results, Tryd.results45, go_sem, t0, t1, t2, t3]) rfl ⟨rfl, er, em⟩

set_option maxHeartbeats 2000000 in
set_option maxRecDepth 100000 in
/-- A text. -/
theorem head_text_ok (r tb : Nat) (text : List UInt8) (st : Option Nat) (lists : Int) (w : World) (h : RdS r tb text st w) (k1 : ofHi (cutP text st 1).1 = 3) (p : Nat) (e3 : (cutP text (cutP text (cutP text st 1).2 2).2 (ofHi (cutP text (cutP text st 1).2 2).1)).2 = some p) (hC : ∀ W, Mv r w W → Calls Tryd.prog 24 #[.agg #[.int .i64 3, .int .i64 0, .string ⟨(cutP text (cutP text (cutP text st 1).2 2).2 (ofHi (cutP text (cutP text st 1).2 2).1)).1.toArray⟩, .slice none 0 0]] W fun e w' => e = .returned (.int .i64 0) ∧ Below W.heap.size W w') :
    Calls Tryd.prog 45 #[.pointer (some ⟨r, 0, none⟩), .int .i64 lists] w fun e w' => e = .returned (.tuple #[.agg #[.int .i64 3, .int .i64 0, .string ⟨(cutP text (cutP text (cutP text st 1).2 2).2 (ofHi (cutP text (cutP text st 1).2 2).1)).1.toArray⟩, .slice none 0 0], .int .i64 0]) ∧ RdS r tb text (some p) w' ∧ Mv r w w' := by
  have hr := h.2.2.1
  have htb := h.2.1
  have c1 : Hid (∀ W, RdS r tb text st W → Calls Tryd.prog 47 #[.pointer (some ⟨r, 0, none⟩), .int .i64 1] W fun e w' => e = .returned (.int .u64 3) ∧ RdS r tb text (cutP text st 1).2 w' ∧ Mv r W w') := fun W hW => by
    have := number_any r tb 1 text st W hW (by omega)
    rw [k1] at this
    exact this
  have HC := toHid hC
  clear hC
  have c2 : Hid (∀ W, RdS r tb text (cutP text st 1).2 W → Calls Tryd.prog 47 #[.pointer (some ⟨r, 0, none⟩), .int .i64 2] W fun e w' => e = .returned (.int .u64 (ofHi (cutP text (cutP text st 1).2 2).1)) ∧ RdS r tb text (cutP text (cutP text st 1).2 2).2 w' ∧ Mv r W w') := fun W hW => number_any r tb 2 text _ W hW (by omega)
  have hm := ofHi_two _ (cutP_len text (cutP text st 1).2 2)
  have c3 : Hid (∀ W, RdS r tb text (cutP text (cutP text st 1).2 2).2 W → Calls Tryd.prog 48 #[.pointer (some ⟨r, 0, none⟩), .int .i64 (ofHi (cutP text (cutP text st 1).2 2).1)] W fun e w' => ∃ a, e = .returned (.slice a (cutP text (cutP text (cutP text st 1).2 2).2 (ofHi (cutP text (cutP text st 1).2 2).1)).1.length (cutP text (cutP text (cutP text st 1).2 2).2 (ofHi (cutP text (cutP text st 1).2 2).1)).1.length) ∧ Piece tb a (cutP text (cutP text (cutP text st 1).2 2).2 (ofHi (cutP text (cutP text st 1).2 2).1)).1 w' ∧ RdS r tb text (cutP text (cutP text (cutP text st 1).2 2).2 (ofHi (cutP text (cutP text st 1).2 2).1)).2 w' ∧ Mv r W w') := fun W hW => cut_any r tb _ text _ W hW (by omega)
  clear k1
  rw [e3] at c3
  clear e3
  generalize (cutP text (cutP text (cutP text st 1).2 2).2 (ofHi (cutP text (cutP text st 1).2 2).1)).1 = HD at *
  obtain ⟨SS, hSS⟩ : ∃ SS : ByteArray, SS = ⟨HD.toArray⟩ := ⟨_, rfl⟩
  have HSS := toHid hSS
  try rw [← hSS]
  try rw [← hSS] at HC
  clear hSS
  generalize (ofHi (cutP text (cutP text st 1).2 2).1) = M at *
  generalize (cutP text (cutP text st 1).2 2).2 = s2 at *
  generalize (cutP text st 1).2 = s1 at *
  have hb0 : ∀ o, Below w.heap.size w (w.alloc o) := fun o => (Below.refl _ _).alloc (Nat.le_refl _) _
  have hv0 : VB (w.alloc (.cells #[.int .i64 0, .int .i64 0, .string ⟨#[]⟩, .slice none 0 0] 24)) w.heap.size 0 0 ⟨#[]⟩ none 0 0 := alloc_new _ _
  have HV0 := toHid hv0
  have H := toHid h
  clear h hv0
  go_enter Tryd.func45, Tryd.ntmps45
  go_wp2_with fail
  refine (c1.out _ (H.out.below (hb0 _))).mono ?_
  rintro e w1 ⟨rfl, r1, m1⟩
  have hs1 : w.heap.size + 1 ≤ w1.heap.size := by have := m1.size; simpa using this
  have v1 : VB w1 w.heap.size 0 0 ⟨#[]⟩ none 0 0 := (m1.block _ (by simp) (by omega)).trans HV0.out
  have hm1 : Mv r w w1 := (Mv.below (hb0 _)).trans m1
  obtain ⟨x0, x1, x2, x3⟩ := v1.cells
  obtain ⟨f0, f1, f2, f3⟩ := v1.frees
  obtain ⟨y1, g1⟩ := r1.flag
  have hne : w.heap.size ≠ r := by omega
  have hne' : r ≠ w.heap.size := by omega
  have V1 := toHid v1
  have R1 := toHid r1
  have M1 := toHid hm1
  clear m1 v1 r1 hm1
  go_wp2_with fail
  have v1' := V1.out.set0 3
  have r1' := R1.out.setOther w.heap.size 0 (.int .i64 3) hne (by omega)
  have m1' := M1.out.setNew w.heap.size 0 (.int .i64 3) (Nat.le_refl _)
  refine (c2.out _ r1').mono ?_
  generalize w1.setCell ⟨w.heap.size, 0, none⟩ (.int .i64 3) = W1 at v1' r1' m1' ⊢
  rintro e w2 ⟨rfl, r2, m2⟩
  have v2 : VB w2 w.heap.size 3 0 ⟨#[]⟩ none 0 0 := (m2.block _ (by have := (Array.getElem?_eq_some_iff.1 v1').1; exact this) hne).trans v1'
  have m2' := m1'.trans m2
  clear v1' r1' m1' m2 V1 R1 M1
  go_wp2_with fail
  refine (c3.out _ r2).mono ?_
  rintro e w4 ⟨pa, rfl, hpc, r4, m4⟩
  have v4 : VB w4 w.heap.size 3 0 ⟨#[]⟩ none 0 0 := (m4.block _ (by have := (Array.getElem?_eq_some_iff.1 v2).1; exact this) hne).trans v2
  have m4' := m2'.trans m4
  have hcv := conv_piece hpc
  obtain ⟨x0, x1, x2, x3⟩ := v4.cells
  obtain ⟨f0, f1, f2, f3⟩ := v4.frees
  obtain ⟨y4, g4⟩ := r4.flag
  simp at y4
  rw [← HSS.out] at hcv
  have V2 := toHid v4
  have R2 := toHid r4
  have M2 := toHid m4'
  clear v2 r2 m2' v4 r4 m4 m4' hpc
  go_wp2_with fail
  have v2 := V2.out.set2 SS
  have r2 := R2.out.setOther w.heap.size 2 (.string SS) hne (by omega)
  have m2 := M2.out.setNew w.heap.size 2 (.string SS) (Nat.le_refl _)
  refine (HC.out _ m2).mono ?_
  generalize (w4.setCell ⟨w.heap.size, 2, none⟩ (.string SS)) = W2 at v2 r2 m2 ⊢
  rintro e w3 ⟨rfl, k3⟩
  have v3 : VB w3 w.heap.size 3 0 SS none 0 0 := (k3.block _ (by have := (Array.getElem?_eq_some_iff.1 v2).1; exact this)).trans v2
  have r3 := r2.below k3
  have m3 := m2.old k3 m2.size
  obtain ⟨x0, x1, x2, x3⟩ := v3.cells
  obtain ⟨f0, f1, f2, f3⟩ := v3.frees
  obtain ⟨y3, g3⟩ := r3.flag
  simp at y3
  have V3 := toHid v3
  have R3 := toHid r3
  have M3 := toHid m3
  clear v2 r2 m2 k3 v3 r3 m3
  go_wp2_with fail
  have E := head_end (V3.out.other hne _) (R3.out.keep) (M3.out.trans (Mv.set _ 1 _)) (Nat.le_refl _) hne (by omega) 3 0 SS none 0 0
  have eP : ∀ X : World, (((X.setCell ⟨w.heap.size, 0, none⟩ (.int .i64 3)).setCell ⟨w.heap.size, 1, none⟩ (.int .i64 0)).setCell ⟨w.heap.size, 2, none⟩ (.string SS)).setCell ⟨w.heap.size, 3, none⟩ (.slice none 0 0) = put4 X w.heap.size (.int .i64 3) (.int .i64 0) (.string SS) (.slice none 0 0) := fun _ => rfl
  rw [eP]
  generalize put4 (w3.setCell ⟨r, 1, none⟩ (.bool false)) w.heap.size (.int .i64 3) (.int .i64 0) (.string SS) (.slice none 0 0) = X at E ⊢
  obtain ⟨ev, er, em⟩ := E
  obtain ⟨t0, t1, t2, t3⟩ := ev.cells
  exact bodyPost_ret (v := .tuple #[.agg #[.int .i64 3, .int .i64 0, .string SS, .slice none 0 0], .int .i64 0]) (by simp [results, Tryd.results45, go_sem, t0, t1, t2, t3]) rfl ⟨rfl, er, em⟩

set_option maxHeartbeats 2000000 in
set_option maxRecDepth 100000 in
/-- A text. -/
theorem head_text_bad (r tb : Nat) (text : List UInt8) (st : Option Nat) (lists : Int) (w : World) (h : RdS r tb text st w) (k1 : ofHi (cutP text st 1).1 = 3) (p : Nat) (e3 : (cutP text (cutP text (cutP text st 1).2 2).2 (ofHi (cutP text (cutP text st 1).2 2).1)).2 = some p) (z : Int) (hz : z ≠ 0) (hC : ∀ W, Mv r w W → Calls Tryd.prog 24 #[.agg #[.int .i64 3, .int .i64 0, .string ⟨(cutP text (cutP text (cutP text st 1).2 2).2 (ofHi (cutP text (cutP text st 1).2 2).1)).1.toArray⟩, .slice none 0 0]] W fun e w' => e = .returned (.int .i64 z) ∧ Below W.heap.size W w') :
    Calls Tryd.prog 45 #[.pointer (some ⟨r, 0, none⟩), .int .i64 lists] w fun e w' => e = .returned (.tuple #[.agg #[.int .i64 0, .int .i64 0, .string ⟨#[]⟩, .slice none 0 0], .int .i64 0]) ∧ RdS r tb text none w' ∧ Mv r w w' := by
  have hr := h.2.2.1
  have htb := h.2.1
  have c1 : Hid (∀ W, RdS r tb text st W → Calls Tryd.prog 47 #[.pointer (some ⟨r, 0, none⟩), .int .i64 1] W fun e w' => e = .returned (.int .u64 3) ∧ RdS r tb text (cutP text st 1).2 w' ∧ Mv r W w') := fun W hW => by
    have := number_any r tb 1 text st W hW (by omega)
    rw [k1] at this
    exact this
  have HC := toHid hC
  clear hC
  have hz1 : (z != 0) = true := by simp [hz]
  clear hz
  have c2 : Hid (∀ W, RdS r tb text (cutP text st 1).2 W → Calls Tryd.prog 47 #[.pointer (some ⟨r, 0, none⟩), .int .i64 2] W fun e w' => e = .returned (.int .u64 (ofHi (cutP text (cutP text st 1).2 2).1)) ∧ RdS r tb text (cutP text (cutP text st 1).2 2).2 w' ∧ Mv r W w') := fun W hW => number_any r tb 2 text _ W hW (by omega)
  have hm := ofHi_two _ (cutP_len text (cutP text st 1).2 2)
  have c3 : Hid (∀ W, RdS r tb text (cutP text (cutP text st 1).2 2).2 W → Calls Tryd.prog 48 #[.pointer (some ⟨r, 0, none⟩), .int .i64 (ofHi (cutP text (cutP text st 1).2 2).1)] W fun e w' => ∃ a, e = .returned (.slice a (cutP text (cutP text (cutP text st 1).2 2).2 (ofHi (cutP text (cutP text st 1).2 2).1)).1.length (cutP text (cutP text (cutP text st 1).2 2).2 (ofHi (cutP text (cutP text st 1).2 2).1)).1.length) ∧ Piece tb a (cutP text (cutP text (cutP text st 1).2 2).2 (ofHi (cutP text (cutP text st 1).2 2).1)).1 w' ∧ RdS r tb text (cutP text (cutP text (cutP text st 1).2 2).2 (ofHi (cutP text (cutP text st 1).2 2).1)).2 w' ∧ Mv r W w') := fun W hW => cut_any r tb _ text _ W hW (by omega)
  clear k1
  rw [e3] at c3
  clear e3
  generalize (cutP text (cutP text (cutP text st 1).2 2).2 (ofHi (cutP text (cutP text st 1).2 2).1)).1 = HD at *
  obtain ⟨SS, hSS⟩ : ∃ SS : ByteArray, SS = ⟨HD.toArray⟩ := ⟨_, rfl⟩
  have HSS := toHid hSS
  try rw [← hSS]
  try rw [← hSS] at HC
  clear hSS
  generalize (ofHi (cutP text (cutP text st 1).2 2).1) = M at *
  generalize (cutP text (cutP text st 1).2 2).2 = s2 at *
  generalize (cutP text st 1).2 = s1 at *
  have hb0 : ∀ o, Below w.heap.size w (w.alloc o) := fun o => (Below.refl _ _).alloc (Nat.le_refl _) _
  have hv0 : VB (w.alloc (.cells #[.int .i64 0, .int .i64 0, .string ⟨#[]⟩, .slice none 0 0] 24)) w.heap.size 0 0 ⟨#[]⟩ none 0 0 := alloc_new _ _
  have HV0 := toHid hv0
  have H := toHid h
  clear h hv0
  go_enter Tryd.func45, Tryd.ntmps45
  go_wp2_with fail
  refine (c1.out _ (H.out.below (hb0 _))).mono ?_
  rintro e w1 ⟨rfl, r1, m1⟩
  have hs1 : w.heap.size + 1 ≤ w1.heap.size := by have := m1.size; simpa using this
  have v1 : VB w1 w.heap.size 0 0 ⟨#[]⟩ none 0 0 := (m1.block _ (by simp) (by omega)).trans HV0.out
  have hm1 : Mv r w w1 := (Mv.below (hb0 _)).trans m1
  obtain ⟨x0, x1, x2, x3⟩ := v1.cells
  obtain ⟨f0, f1, f2, f3⟩ := v1.frees
  obtain ⟨y1, g1⟩ := r1.flag
  have hne : w.heap.size ≠ r := by omega
  have hne' : r ≠ w.heap.size := by omega
  have V1 := toHid v1
  have R1 := toHid r1
  have M1 := toHid hm1
  clear m1 v1 r1 hm1
  go_wp2_with fail
  have v1' := V1.out.set0 3
  have r1' := R1.out.setOther w.heap.size 0 (.int .i64 3) hne (by omega)
  have m1' := M1.out.setNew w.heap.size 0 (.int .i64 3) (Nat.le_refl _)
  refine (c2.out _ r1').mono ?_
  generalize w1.setCell ⟨w.heap.size, 0, none⟩ (.int .i64 3) = W1 at v1' r1' m1' ⊢
  rintro e w2 ⟨rfl, r2, m2⟩
  have v2 : VB w2 w.heap.size 3 0 ⟨#[]⟩ none 0 0 := (m2.block _ (by have := (Array.getElem?_eq_some_iff.1 v1').1; exact this) hne).trans v1'
  have m2' := m1'.trans m2
  clear v1' r1' m1' m2 V1 R1 M1
  go_wp2_with fail
  refine (c3.out _ r2).mono ?_
  rintro e w4 ⟨pa, rfl, hpc, r4, m4⟩
  have v4 : VB w4 w.heap.size 3 0 ⟨#[]⟩ none 0 0 := (m4.block _ (by have := (Array.getElem?_eq_some_iff.1 v2).1; exact this) hne).trans v2
  have m4' := m2'.trans m4
  have hcv := conv_piece hpc
  obtain ⟨x0, x1, x2, x3⟩ := v4.cells
  obtain ⟨f0, f1, f2, f3⟩ := v4.frees
  obtain ⟨y4, g4⟩ := r4.flag
  simp at y4
  rw [← HSS.out] at hcv
  have V2 := toHid v4
  have R2 := toHid r4
  have M2 := toHid m4'
  clear v2 r2 m2' v4 r4 m4 m4' hpc
  go_wp2_with fail
  have v2 := V2.out.set2 SS
  have r2 := R2.out.setOther w.heap.size 2 (.string SS) hne (by omega)
  have m2 := M2.out.setNew w.heap.size 2 (.string SS) (Nat.le_refl _)
  refine (HC.out _ m2).mono ?_
  generalize (w4.setCell ⟨w.heap.size, 2, none⟩ (.string SS)) = W2 at v2 r2 m2 ⊢
  rintro e w3 ⟨rfl, k3⟩
  have v3 : VB w3 w.heap.size 3 0 SS none 0 0 := (k3.block _ (by have := (Array.getElem?_eq_some_iff.1 v2).1; exact this)).trans v2
  have r3 := r2.below k3
  have m3 := m2.old k3 m2.size
  obtain ⟨x0, x1, x2, x3⟩ := v3.cells
  obtain ⟨f0, f1, f2, f3⟩ := v3.frees
  obtain ⟨y3, g3⟩ := r3.flag
  simp at y3
  have V3 := toHid v3
  have R3 := toHid r3
  have M3 := toHid m3
  clear v2 r2 m2 k3 v3 r3 m3
  go_wp2_with fail
  have E := head_end (V3.out.other hne _) (R3.out.tear) (M3.out.trans (Mv.set _ 1 _)) (Nat.le_refl _) hne (by omega) 0 0 ⟨#[]⟩ none 0 0
  have eP : ∀ X : World, (((X.setCell ⟨w.heap.size, 0, none⟩ (.int .i64 0)).setCell ⟨w.heap.size, 1, none⟩ (.int .i64 0)).setCell ⟨w.heap.size, 2, none⟩ (.string ⟨#[]⟩)).setCell ⟨w.heap.size, 3, none⟩ (.slice none 0 0) = put4 X w.heap.size (.int .i64 0) (.int .i64 0) (.string ⟨#[]⟩) (.slice none 0 0) := fun _ => rfl
  rw [eP]
  generalize put4 (w3.setCell ⟨r, 1, none⟩ (.bool true)) w.heap.size (.int .i64 0) (.int .i64 0) (.string ⟨#[]⟩) (.slice none 0 0) = X at E ⊢
  obtain ⟨ev, er, em⟩ := E
  obtain ⟨t0, t1, t2, t3⟩ := ev.cells
  exact bodyPost_ret (v := .tuple #[.agg #[.int .i64 0, .int .i64 0, .string ⟨#[]⟩, .slice none 0 0], .int .i64 0]) (by simp [results, Tryd.results45, go_sem, t0, t1, t2, t3]) rfl ⟨rfl, er, em⟩

set_option maxHeartbeats 2000000 in
set_option maxRecDepth 100000 in
/-- A list that cannot be. -/
theorem head_list_cut (r tb : Nat) (text : List UInt8) (st : Option Nat) (lists : Int) (w : World) (h : RdS r tb text st w) (k1 : ofHi (cutP text st 1).1 = 4) (e2 : (cutP text (cutP text st 1).2 1).2 = none) :
    Calls Tryd.prog 45 #[.pointer (some ⟨r, 0, none⟩), .int .i64 lists] w fun e w' => e = .returned (.tuple #[.agg #[.int .i64 0, .int .i64 0, .string ⟨#[]⟩, .slice none 0 0], .int .i64 0]) ∧ RdS r tb text none w' ∧ Mv r w w' := by
  have hr := h.2.2.1
  have htb := h.2.1
  have c1 : Hid (∀ W, RdS r tb text st W → Calls Tryd.prog 47 #[.pointer (some ⟨r, 0, none⟩), .int .i64 1] W fun e w' => e = .returned (.int .u64 4) ∧ RdS r tb text (cutP text st 1).2 w' ∧ Mv r W w') := fun W hW => by
    have := number_any r tb 1 text st W hW (by omega)
    rw [k1] at this
    exact this
  have c2 : Hid (∀ W, RdS r tb text (cutP text st 1).2 W → Calls Tryd.prog 47 #[.pointer (some ⟨r, 0, none⟩), .int .i64 1] W fun e w' => e = .returned (.int .u64 (ofHi (cutP text (cutP text st 1).2 1).1)) ∧ RdS r tb text (cutP text (cutP text st 1).2 1).2 w' ∧ Mv r W w') := fun W hW => number_any r tb 1 text _ W hW (by omega)
  have hI := ofHi_one _ (cutP_len text (cutP text st 1).2 1)
  clear k1
  rw [e2] at c2
  clear e2
  generalize (ofHi (cutP text (cutP text st 1).2 1).1) = I at *
  generalize (cutP text st 1).2 = s1 at *
  have hb0 : ∀ o, Below w.heap.size w (w.alloc o) := fun o => (Below.refl _ _).alloc (Nat.le_refl _) _
  have hv0 : VB (w.alloc (.cells #[.int .i64 0, .int .i64 0, .string ⟨#[]⟩, .slice none 0 0] 24)) w.heap.size 0 0 ⟨#[]⟩ none 0 0 := alloc_new _ _
  have HV0 := toHid hv0
  have H := toHid h
  clear h hv0
  go_enter Tryd.func45, Tryd.ntmps45
  go_wp2_with fail
  refine (c1.out _ (H.out.below (hb0 _))).mono ?_
  rintro e w1 ⟨rfl, r1, m1⟩
  have hs1 : w.heap.size + 1 ≤ w1.heap.size := by have := m1.size; simpa using this
  have v1 : VB w1 w.heap.size 0 0 ⟨#[]⟩ none 0 0 := (m1.block _ (by simp) (by omega)).trans HV0.out
  have hm1 : Mv r w w1 := (Mv.below (hb0 _)).trans m1
  obtain ⟨x0, x1, x2, x3⟩ := v1.cells
  obtain ⟨f0, f1, f2, f3⟩ := v1.frees
  obtain ⟨y1, g1⟩ := r1.flag
  have hne : w.heap.size ≠ r := by omega
  have hne' : r ≠ w.heap.size := by omega
  have V1 := toHid v1
  have R1 := toHid r1
  have M1 := toHid hm1
  clear m1 v1 r1 hm1
  go_wp2_with fail
  have v1' := V1.out.set0 4
  have r1' := R1.out.setOther w.heap.size 0 (.int .i64 4) hne (by omega)
  have m1' := M1.out.setNew w.heap.size 0 (.int .i64 4) (Nat.le_refl _)
  refine (c2.out _ r1').mono ?_
  generalize w1.setCell ⟨w.heap.size, 0, none⟩ (.int .i64 4) = W1 at v1' r1' m1' ⊢
  rintro e w2 ⟨rfl, r2, m2⟩
  have v2 : VB w2 w.heap.size 4 0 ⟨#[]⟩ none 0 0 := (m2.block _ (by have := (Array.getElem?_eq_some_iff.1 v1').1; exact this) hne).trans v1'
  have m2' := m1'.trans m2
  obtain ⟨x0, x1, x2, x3⟩ := v2.cells
  obtain ⟨f0, f1, f2, f3⟩ := v2.frees
  obtain ⟨y2, g2⟩ := r2.flag
  simp at y2
  have V2 := toHid v2
  have R2 := toHid r2
  have M2 := toHid m2'
  clear v1' r1' m1' v2 r2 m2 m2' V1 R1 M1
  go_wp2_with fail
  have E := head_end ((V2.out.other hne _).other hne _) (R2.out.tear.tear) ((M2.out.trans (Mv.set _ 1 _)).trans (Mv.set _ 1 _)) (Nat.le_refl _) hne (by omega) 0 0 ⟨#[]⟩ none 0 0
  have eP : ∀ X : World, (((X.setCell ⟨w.heap.size, 0, none⟩ (.int .i64 0)).setCell ⟨w.heap.size, 1, none⟩ (.int .i64 0)).setCell ⟨w.heap.size, 2, none⟩ (.string ⟨#[]⟩)).setCell ⟨w.heap.size, 3, none⟩ (.slice none 0 0) = put4 X w.heap.size (.int .i64 0) (.int .i64 0) (.string ⟨#[]⟩) (.slice none 0 0) := fun _ => rfl
  rw [eP]
  generalize put4 ((w2.setCell ⟨r, 1, none⟩ (.bool true)).setCell ⟨r, 1, none⟩ (.bool true)) w.heap.size (.int .i64 0) (.int .i64 0) (.string ⟨#[]⟩) (.slice none 0 0) = X at E ⊢
  obtain ⟨ev, er, em⟩ := E
  obtain ⟨t0, t1, t2, t3⟩ := ev.cells
  exact bodyPost_ret (v := .tuple #[.agg #[.int .i64 0, .int .i64 0, .string ⟨#[]⟩, .slice none 0 0], .int .i64 0]) (by simp [results, Tryd.results45, go_sem, t0, t1, t2, t3]) rfl ⟨rfl, er, em⟩

set_option maxHeartbeats 2000000 in
set_option maxRecDepth 100000 in
/-- A list that cannot be. -/
theorem head_list_many (r tb : Nat) (text : List UInt8) (st : Option Nat) (lists : Int) (w : World) (h : RdS r tb text st w) (k1 : ofHi (cutP text st 1).1 = 4) (p : Nat) (e2 : (cutP text (cutP text st 1).2 1).2 = some p) (hb : 30 < (ofHi (cutP text (cutP text st 1).2 1).1)) :
    Calls Tryd.prog 45 #[.pointer (some ⟨r, 0, none⟩), .int .i64 lists] w fun e w' => e = .returned (.tuple #[.agg #[.int .i64 0, .int .i64 0, .string ⟨#[]⟩, .slice none 0 0], .int .i64 0]) ∧ RdS r tb text none w' ∧ Mv r w w' := by
  have hr := h.2.2.1
  have htb := h.2.1
  have c1 : Hid (∀ W, RdS r tb text st W → Calls Tryd.prog 47 #[.pointer (some ⟨r, 0, none⟩), .int .i64 1] W fun e w' => e = .returned (.int .u64 4) ∧ RdS r tb text (cutP text st 1).2 w' ∧ Mv r W w') := fun W hW => by
    have := number_any r tb 1 text st W hW (by omega)
    rw [k1] at this
    exact this
  have c2 : Hid (∀ W, RdS r tb text (cutP text st 1).2 W → Calls Tryd.prog 47 #[.pointer (some ⟨r, 0, none⟩), .int .i64 1] W fun e w' => e = .returned (.int .u64 (ofHi (cutP text (cutP text st 1).2 1).1)) ∧ RdS r tb text (cutP text (cutP text st 1).2 1).2 w' ∧ Mv r W w') := fun W hW => number_any r tb 1 text _ W hW (by omega)
  have hI := ofHi_one _ (cutP_len text (cutP text st 1).2 1)
  clear k1
  rw [e2] at c2
  clear e2
  generalize (ofHi (cutP text (cutP text st 1).2 1).1) = I at *
  generalize (cutP text st 1).2 = s1 at *
  have b1 : decide ((30 : Int) < (I : Int)) = true := by simp; omega
  have hb0 : ∀ o, Below w.heap.size w (w.alloc o) := fun o => (Below.refl _ _).alloc (Nat.le_refl _) _
  have hv0 : VB (w.alloc (.cells #[.int .i64 0, .int .i64 0, .string ⟨#[]⟩, .slice none 0 0] 24)) w.heap.size 0 0 ⟨#[]⟩ none 0 0 := alloc_new _ _
  have HV0 := toHid hv0
  have H := toHid h
  clear h hv0
  go_enter Tryd.func45, Tryd.ntmps45
  go_wp2_with fail
  refine (c1.out _ (H.out.below (hb0 _))).mono ?_
  rintro e w1 ⟨rfl, r1, m1⟩
  have hs1 : w.heap.size + 1 ≤ w1.heap.size := by have := m1.size; simpa using this
  have v1 : VB w1 w.heap.size 0 0 ⟨#[]⟩ none 0 0 := (m1.block _ (by simp) (by omega)).trans HV0.out
  have hm1 : Mv r w w1 := (Mv.below (hb0 _)).trans m1
  obtain ⟨x0, x1, x2, x3⟩ := v1.cells
  obtain ⟨f0, f1, f2, f3⟩ := v1.frees
  obtain ⟨y1, g1⟩ := r1.flag
  have hne : w.heap.size ≠ r := by omega
  have hne' : r ≠ w.heap.size := by omega
  have V1 := toHid v1
  have R1 := toHid r1
  have M1 := toHid hm1
  clear m1 v1 r1 hm1
  go_wp2_with fail
  have v1' := V1.out.set0 4
  have r1' := R1.out.setOther w.heap.size 0 (.int .i64 4) hne (by omega)
  have m1' := M1.out.setNew w.heap.size 0 (.int .i64 4) (Nat.le_refl _)
  refine (c2.out _ r1').mono ?_
  generalize w1.setCell ⟨w.heap.size, 0, none⟩ (.int .i64 4) = W1 at v1' r1' m1' ⊢
  rintro e w2 ⟨rfl, r2, m2⟩
  have v2 : VB w2 w.heap.size 4 0 ⟨#[]⟩ none 0 0 := (m2.block _ (by have := (Array.getElem?_eq_some_iff.1 v1').1; exact this) hne).trans v1'
  have m2' := m1'.trans m2
  obtain ⟨x0, x1, x2, x3⟩ := v2.cells
  obtain ⟨f0, f1, f2, f3⟩ := v2.frees
  obtain ⟨y2, g2⟩ := r2.flag
  simp at y2
  have V2 := toHid v2
  have R2 := toHid r2
  have M2 := toHid m2'
  clear v1' r1' m1' v2 r2 m2 m2' V1 R1 M1
  go_wp2_with fail
  have E := head_end ((V2.out.other hne _).other hne _) (R2.out.tear.tear) ((M2.out.trans (Mv.set _ 1 _)).trans (Mv.set _ 1 _)) (Nat.le_refl _) hne (by omega) 0 0 ⟨#[]⟩ none 0 0
  have eP : ∀ X : World, (((X.setCell ⟨w.heap.size, 0, none⟩ (.int .i64 0)).setCell ⟨w.heap.size, 1, none⟩ (.int .i64 0)).setCell ⟨w.heap.size, 2, none⟩ (.string ⟨#[]⟩)).setCell ⟨w.heap.size, 3, none⟩ (.slice none 0 0) = put4 X w.heap.size (.int .i64 0) (.int .i64 0) (.string ⟨#[]⟩) (.slice none 0 0) := fun _ => rfl
  rw [eP]
  generalize put4 ((w2.setCell ⟨r, 1, none⟩ (.bool true)).setCell ⟨r, 1, none⟩ (.bool true)) w.heap.size (.int .i64 0) (.int .i64 0) (.string ⟨#[]⟩) (.slice none 0 0) = X at E ⊢
  obtain ⟨ev, er, em⟩ := E
  obtain ⟨t0, t1, t2, t3⟩ := ev.cells
  exact bodyPost_ret (v := .tuple #[.agg #[.int .i64 0, .int .i64 0, .string ⟨#[]⟩, .slice none 0 0], .int .i64 0]) (by simp [results, Tryd.results45, go_sem, t0, t1, t2, t3]) rfl ⟨rfl, er, em⟩

set_option maxHeartbeats 2000000 in
set_option maxRecDepth 100000 in
/-- A list that cannot be. -/
theorem head_list_deep (r tb : Nat) (text : List UInt8) (st : Option Nat) (lists : Int) (w : World) (h : RdS r tb text st w) (k1 : ofHi (cutP text st 1).1 = 4) (p : Nat) (e2 : (cutP text (cutP text st 1).2 1).2 = some p) (hb : (ofHi (cutP text (cutP text st 1).2 1).1) ≤ 30) (hd : 6 ≤ lists) :
    Calls Tryd.prog 45 #[.pointer (some ⟨r, 0, none⟩), .int .i64 lists] w fun e w' => e = .returned (.tuple #[.agg #[.int .i64 0, .int .i64 0, .string ⟨#[]⟩, .slice none 0 0], .int .i64 0]) ∧ RdS r tb text none w' ∧ Mv r w w' := by
  have hr := h.2.2.1
  have htb := h.2.1
  have c1 : Hid (∀ W, RdS r tb text st W → Calls Tryd.prog 47 #[.pointer (some ⟨r, 0, none⟩), .int .i64 1] W fun e w' => e = .returned (.int .u64 4) ∧ RdS r tb text (cutP text st 1).2 w' ∧ Mv r W w') := fun W hW => by
    have := number_any r tb 1 text st W hW (by omega)
    rw [k1] at this
    exact this
  have c2 : Hid (∀ W, RdS r tb text (cutP text st 1).2 W → Calls Tryd.prog 47 #[.pointer (some ⟨r, 0, none⟩), .int .i64 1] W fun e w' => e = .returned (.int .u64 (ofHi (cutP text (cutP text st 1).2 1).1)) ∧ RdS r tb text (cutP text (cutP text st 1).2 1).2 w' ∧ Mv r W w') := fun W hW => number_any r tb 1 text _ W hW (by omega)
  have hI := ofHi_one _ (cutP_len text (cutP text st 1).2 1)
  clear k1
  rw [e2] at c2
  clear e2
  generalize (ofHi (cutP text (cutP text st 1).2 1).1) = I at *
  generalize (cutP text st 1).2 = s1 at *
  have b1 : decide ((30 : Int) < (I : Int)) = false := by simp; omega
  have b2 : decide ((6 : Int) ≤ lists) = true := by simp; omega
  have hb0 : ∀ o, Below w.heap.size w (w.alloc o) := fun o => (Below.refl _ _).alloc (Nat.le_refl _) _
  have hv0 : VB (w.alloc (.cells #[.int .i64 0, .int .i64 0, .string ⟨#[]⟩, .slice none 0 0] 24)) w.heap.size 0 0 ⟨#[]⟩ none 0 0 := alloc_new _ _
  have HV0 := toHid hv0
  have H := toHid h
  clear h hv0
  go_enter Tryd.func45, Tryd.ntmps45
  go_wp2_with fail
  refine (c1.out _ (H.out.below (hb0 _))).mono ?_
  rintro e w1 ⟨rfl, r1, m1⟩
  have hs1 : w.heap.size + 1 ≤ w1.heap.size := by have := m1.size; simpa using this
  have v1 : VB w1 w.heap.size 0 0 ⟨#[]⟩ none 0 0 := (m1.block _ (by simp) (by omega)).trans HV0.out
  have hm1 : Mv r w w1 := (Mv.below (hb0 _)).trans m1
  obtain ⟨x0, x1, x2, x3⟩ := v1.cells
  obtain ⟨f0, f1, f2, f3⟩ := v1.frees
  obtain ⟨y1, g1⟩ := r1.flag
  have hne : w.heap.size ≠ r := by omega
  have hne' : r ≠ w.heap.size := by omega
  have V1 := toHid v1
  have R1 := toHid r1
  have M1 := toHid hm1
  clear m1 v1 r1 hm1
  go_wp2_with fail
  have v1' := V1.out.set0 4
  have r1' := R1.out.setOther w.heap.size 0 (.int .i64 4) hne (by omega)
  have m1' := M1.out.setNew w.heap.size 0 (.int .i64 4) (Nat.le_refl _)
  refine (c2.out _ r1').mono ?_
  generalize w1.setCell ⟨w.heap.size, 0, none⟩ (.int .i64 4) = W1 at v1' r1' m1' ⊢
  rintro e w2 ⟨rfl, r2, m2⟩
  have v2 : VB w2 w.heap.size 4 0 ⟨#[]⟩ none 0 0 := (m2.block _ (by have := (Array.getElem?_eq_some_iff.1 v1').1; exact this) hne).trans v1'
  have m2' := m1'.trans m2
  obtain ⟨x0, x1, x2, x3⟩ := v2.cells
  obtain ⟨f0, f1, f2, f3⟩ := v2.frees
  obtain ⟨y2, g2⟩ := r2.flag
  simp at y2
  have V2 := toHid v2
  have R2 := toHid r2
  have M2 := toHid m2'
  clear v1' r1' m1' v2 r2 m2 m2' V1 R1 M1
  go_wp2_with fail
  have E := head_end ((V2.out.other hne _).other hne _) (R2.out.tear.tear) ((M2.out.trans (Mv.set _ 1 _)).trans (Mv.set _ 1 _)) (Nat.le_refl _) hne (by omega) 0 0 ⟨#[]⟩ none 0 0
  have eP : ∀ X : World, (((X.setCell ⟨w.heap.size, 0, none⟩ (.int .i64 0)).setCell ⟨w.heap.size, 1, none⟩ (.int .i64 0)).setCell ⟨w.heap.size, 2, none⟩ (.string ⟨#[]⟩)).setCell ⟨w.heap.size, 3, none⟩ (.slice none 0 0) = put4 X w.heap.size (.int .i64 0) (.int .i64 0) (.string ⟨#[]⟩) (.slice none 0 0) := fun _ => rfl
  rw [eP]
  generalize put4 ((w2.setCell ⟨r, 1, none⟩ (.bool true)).setCell ⟨r, 1, none⟩ (.bool true)) w.heap.size (.int .i64 0) (.int .i64 0) (.string ⟨#[]⟩) (.slice none 0 0) = X at E ⊢
  obtain ⟨ev, er, em⟩ := E
  obtain ⟨t0, t1, t2, t3⟩ := ev.cells
  exact bodyPost_ret (v := .tuple #[.agg #[.int .i64 0, .int .i64 0, .string ⟨#[]⟩, .slice none 0 0], .int .i64 0]) (by simp [results, Tryd.results45, go_sem, t0, t1, t2, t3]) rfl ⟨rfl, er, em⟩

set_option maxHeartbeats 2000000 in
set_option maxRecDepth 100000 in
/-- A list. -/
theorem head_list_ok (r tb : Nat) (text : List UInt8) (st : Option Nat) (lists : Int) (w : World) (h : RdS r tb text st w) (k1 : ofHi (cutP text st 1).1 = 4) (p : Nat) (e2 : (cutP text (cutP text st 1).2 1).2 = some p) (hb : (ofHi (cutP text (cutP text st 1).2 1).1) ≤ 30) (hd : lists < 6) (hC : ∀ W, Mv r w W → Calls Tryd.prog 24 #[.agg #[.int .i64 4, .int .i64 0, .string ⟨#[]⟩, .slice none 0 0]] W fun e w' => e = .returned (.int .i64 0) ∧ Below W.heap.size W w') :
    Calls Tryd.prog 45 #[.pointer (some ⟨r, 0, none⟩), .int .i64 lists] w fun e w' => e = .returned (.tuple #[.agg #[.int .i64 4, .int .i64 0, .string ⟨#[]⟩, .slice none 0 0], .int .i64 (ofHi (cutP text (cutP text st 1).2 1).1)]) ∧ RdS r tb text (some p) w' ∧ Mv r w w' := by
  have hr := h.2.2.1
  have htb := h.2.1
  have c1 : Hid (∀ W, RdS r tb text st W → Calls Tryd.prog 47 #[.pointer (some ⟨r, 0, none⟩), .int .i64 1] W fun e w' => e = .returned (.int .u64 4) ∧ RdS r tb text (cutP text st 1).2 w' ∧ Mv r W w') := fun W hW => by
    have := number_any r tb 1 text st W hW (by omega)
    rw [k1] at this
    exact this
  have HC := toHid hC
  clear hC
  have c2 : Hid (∀ W, RdS r tb text (cutP text st 1).2 W → Calls Tryd.prog 47 #[.pointer (some ⟨r, 0, none⟩), .int .i64 1] W fun e w' => e = .returned (.int .u64 (ofHi (cutP text (cutP text st 1).2 1).1)) ∧ RdS r tb text (cutP text (cutP text st 1).2 1).2 w' ∧ Mv r W w') := fun W hW => number_any r tb 1 text _ W hW (by omega)
  have hI := ofHi_one _ (cutP_len text (cutP text st 1).2 1)
  clear k1
  rw [e2] at c2
  clear e2
  generalize (ofHi (cutP text (cutP text st 1).2 1).1) = I at *
  generalize (cutP text st 1).2 = s1 at *
  have b1 : decide ((30 : Int) < (I : Int)) = false := by simp; omega
  have b2 : decide ((6 : Int) ≤ lists) = false := by simp; omega
  have hb0 : ∀ o, Below w.heap.size w (w.alloc o) := fun o => (Below.refl _ _).alloc (Nat.le_refl _) _
  have hv0 : VB (w.alloc (.cells #[.int .i64 0, .int .i64 0, .string ⟨#[]⟩, .slice none 0 0] 24)) w.heap.size 0 0 ⟨#[]⟩ none 0 0 := alloc_new _ _
  have HV0 := toHid hv0
  have H := toHid h
  clear h hv0
  go_enter Tryd.func45, Tryd.ntmps45
  go_wp2_with fail
  refine (c1.out _ (H.out.below (hb0 _))).mono ?_
  rintro e w1 ⟨rfl, r1, m1⟩
  have hs1 : w.heap.size + 1 ≤ w1.heap.size := by have := m1.size; simpa using this
  have v1 : VB w1 w.heap.size 0 0 ⟨#[]⟩ none 0 0 := (m1.block _ (by simp) (by omega)).trans HV0.out
  have hm1 : Mv r w w1 := (Mv.below (hb0 _)).trans m1
  obtain ⟨x0, x1, x2, x3⟩ := v1.cells
  obtain ⟨f0, f1, f2, f3⟩ := v1.frees
  obtain ⟨y1, g1⟩ := r1.flag
  have hne : w.heap.size ≠ r := by omega
  have hne' : r ≠ w.heap.size := by omega
  have V1 := toHid v1
  have R1 := toHid r1
  have M1 := toHid hm1
  clear m1 v1 r1 hm1
  go_wp2_with fail
  have v1' := V1.out.set0 4
  have r1' := R1.out.setOther w.heap.size 0 (.int .i64 4) hne (by omega)
  have m1' := M1.out.setNew w.heap.size 0 (.int .i64 4) (Nat.le_refl _)
  refine (c2.out _ r1').mono ?_
  generalize w1.setCell ⟨w.heap.size, 0, none⟩ (.int .i64 4) = W1 at v1' r1' m1' ⊢
  rintro e w2 ⟨rfl, r2, m2⟩
  have v2 : VB w2 w.heap.size 4 0 ⟨#[]⟩ none 0 0 := (m2.block _ (by have := (Array.getElem?_eq_some_iff.1 v1').1; exact this) hne).trans v1'
  have m2' := m1'.trans m2
  obtain ⟨x0, x1, x2, x3⟩ := v2.cells
  obtain ⟨f0, f1, f2, f3⟩ := v2.frees
  obtain ⟨y2, g2⟩ := r2.flag
  simp at y2
  have V2 := toHid v2
  have R2 := toHid r2
  have M2 := toHid m2'
  clear v1' r1' m1' v2 r2 m2 m2' V1 R1 M1
  go_wp2_with fail
  have v2 := V2.out.other (o := 1) hne (.bool false)
  have r2 := R2.out.keep
  have m2 := M2.out.trans (Mv.set _ 1 (.bool false))
  refine (HC.out _ m2).mono ?_
  generalize (w2.setCell ⟨r, 1, none⟩ (.bool false)) = W2 at v2 r2 m2 ⊢
  rintro e w3 ⟨rfl, k3⟩
  have v3 : VB w3 w.heap.size 4 0 ⟨#[]⟩ none 0 0 := (k3.block _ (by have := (Array.getElem?_eq_some_iff.1 v2).1; exact this)).trans v2
  have r3 := r2.below k3
  have m3 := m2.old k3 m2.size
  obtain ⟨x0, x1, x2, x3⟩ := v3.cells
  obtain ⟨f0, f1, f2, f3⟩ := v3.frees
  obtain ⟨y3, g3⟩ := r3.flag
  simp at y3
  have V3 := toHid v3
  have R3 := toHid r3
  have M3 := toHid m3
  clear v2 r2 m2 k3 v3 r3 m3
  go_wp2_with fail
  have E := head_end (V3.out.other hne _) (R3.out.keep) (M3.out.trans (Mv.set _ 1 _)) (Nat.le_refl _) hne (by omega) 4 0 ⟨#[]⟩ none 0 0
  have eP : ∀ X : World, (((X.setCell ⟨w.heap.size, 0, none⟩ (.int .i64 4)).setCell ⟨w.heap.size, 1, none⟩ (.int .i64 0)).setCell ⟨w.heap.size, 2, none⟩ (.string ⟨#[]⟩)).setCell ⟨w.heap.size, 3, none⟩ (.slice none 0 0) = put4 X w.heap.size (.int .i64 4) (.int .i64 0) (.string ⟨#[]⟩) (.slice none 0 0) := fun _ => rfl
  rw [eP]
  generalize put4 (w3.setCell ⟨r, 1, none⟩ (.bool false)) w.heap.size (.int .i64 4) (.int .i64 0) (.string ⟨#[]⟩) (.slice none 0 0) = X at E ⊢
  obtain ⟨ev, er, em⟩ := E
  obtain ⟨t0, t1, t2, t3⟩ := ev.cells
  exact bodyPost_ret (v := .tuple #[.agg #[.int .i64 4, .int .i64 0, .string ⟨#[]⟩, .slice none 0 0], .int .i64 I]) (by simp [results, Tryd.results45, go_sem, t0, t1, t2, t3]) rfl ⟨rfl, er, em⟩

end Go.Proofs.YtdefjgbiinahdaaDoor
