/-
  What is proved here: the bytes of a value as a plain function; code.appendValue adds them, or too many where they are too many; what Bytes answers.
-/
import Derived.Test.YtdefjgbiinahdabDoorCBytes3
import Derived.Test.YtdefjgbiinahdabDoorPPAll2
namespace Go.Proofs.YtdefjgbiinahdabDoor
open Go.RowKit
set_option linter.unusedVariables false

mutual
/-- The bytes of a value. -/
def bT : T → List UInt8
  | .node k n s L => if k = 1 then 1 :: hiB (up n) 8 else if k = 2 then 2 :: hiB (up n) 8 else if k = 3 then 3 :: (hiB s.size 2 ++ s.data.toList) else if k = 4 then 4 :: (hiB L.length 1 ++ bL L) else [0]
def bL : List T → List UInt8
  | [] => []
  | t :: ts => bT t ++ bL ts
end

theorem bT_list (n : Int) (s : ByteArray) (L : List T) : bT (.node 4 n s L) = 4 :: (hiB L.length 1 ++ bL L) := by unfold bT; rfl

theorem bL_cons (t : T) (ts : List T) : bL (t :: ts) = bT t ++ bL ts := by conv => lhs; unfold bL

theorem bL_append : ∀ (A B : List T), bL (A ++ B) = bL A ++ bL B
  | [], B => by simp [bL]
  | t :: A, B => by
    rw [List.cons_append, bL_cons, bL_cons, bL_append A B, List.append_assoc]

theorem cats_bL (L : List T) : ∀ k, k ≤ L.length → cats (fun i => (L.drop i).head?.elim [] bT) k = bL (L.take k)
  | 0, _ => by simp [cats, bL]
  | k + 1, h => by
    have := cats_bL L k (by omega)
    rw [cats, this, List.take_succ_eq_append_getElem h, bL_append]
    congr 1
    have e : (L.drop k).head?.elim [] bT = bT L[k] := by rw [List.drop_eq_getElem_cons h]; rfl
    rw [e, bL_cons]
    simp [bL]

theorem bT_ne (t : T) : bT t ≠ [] := by
  obtain ⟨k, n, s, L⟩ := t
  unfold bT
  split
  · simp
  · split
    · simp
    · split
      · simp
      · split <;> simp

/-- A value without list. -/
theorem b_flat (d : Nat) (t : T) (ht : Ck d t) (B : Nat) (sv : Value) (l : List UInt8) (k n : Int) (s : ByteArray) (a : Option Addr) (len c : Nat) (L : List T) (w w0 : World) (e : t = .node k n s L) (h4 : k ≠ 4) (hL : LiesS w0 L a len) (ho : Out B w sv l) (hB : B ≤ w.heap.size) (hl : l.length ≤ 20000) :
    Calls Tryd.prog 10 #[sv, .agg #[.int .i64 k, .int .i64 n, .string s, .slice a len c]] w fun e w' => ∃ v' L', e = .returned v' ∧ Out B w' v' L' ∧ AB l (bT t) L' ∧ (L'.length ≤ 12003 ∨ L' = l) ∧ Below B w w' := by
  by_cases hlong : 8000 < l.length
  · refine (bv_long B sv l k n s a len c w ho hB hlong (by omega)).mono ?_
    rintro e w' ⟨v', rfl, o', b'⟩
    exact ⟨v', l, rfl, o', AB.long hlong, .inr rfl, b'⟩
  · have hl8 : l.length ≤ 8000 := by omega
    have hlen := hL.length.1
    have fin : ∀ (Q : List UInt8), bT t = Q → Q.length ≤ 4003 → (Calls Tryd.prog 10 #[sv, .agg #[.int .i64 k, .int .i64 n, .string s, .slice a len c]] w fun e w' => ∃ v', e = .returned v' ∧ Out B w' v' (l ++ Q) ∧ Below B w w') → (Calls Tryd.prog 10 #[sv, .agg #[.int .i64 k, .int .i64 n, .string s, .slice a len c]] w fun e w' => ∃ v' L', e = .returned v' ∧ Out B w' v' L' ∧ AB l (bT t) L' ∧ (L'.length ≤ 12003 ∨ L' = l) ∧ Below B w w') := by
      intro Q hQ hq h
      refine h.mono ?_
      rintro e w' ⟨v', rfl, o', b'⟩
      exact ⟨v', l ++ Q, rfl, o', by rw [hQ]; exact AB.plain _ _, .inl (by simp; omega), b'⟩
    cases ht with
    | null d =>
      injection e with e1 e2 e3 e4
      subst e1 e2 e3 e4
      obtain rfl : len = 0 := hlen
      exact fin [0] (by unfold bT; rfl) (by decide) (bv_null B sv l a c w ho hB hl8)
    | bool d m h =>
      injection e with e1 e2 e3 e4
      subst e1 e2 e3 e4
      obtain rfl : len = 0 := hlen
      exact fin (1 :: hiB (up m) 8) (by unfold bT; rfl) (by simp [hiB_length]) (bv_num1 B sv l m a c w ho hB hl8 (by omega) (by omega))
    | int d m h0 h1 =>
      injection e with e1 e2 e3 e4
      subst e1 e2 e3 e4
      obtain rfl : len = 0 := hlen
      exact fin (2 :: hiB (up m) 8) (by unfold bT; rfl) (by simp [hiB_length]) (bv_num2 B sv l m a c w ho hB hl8 h0 h1)
    | text d u h0 h1 =>
      injection e with e1 e2 e3 e4
      subst e1 e2 e3 e4
      obtain rfl : len = 0 := hlen
      exact fin (3 :: (hiB u.size 2 ++ u.data.toList)) (by unfold bT; rfl) (by simp [hiB_length]; omega) (bv_text B sv l u a c w ho hB hl8 h0)
    | list d M h0 h1 =>
      injection e with e1 e2 e3 e4
      exact absurd e1.symm h4

/-- What appendValue adds of a value as the document has it. -/
theorem b_tree : ∀ (d : Nat) (t : T), Ck d t → ∀ (B : Nat) (sv : Value) (l : List UInt8) (k n : Int) (s : ByteArray) (a : Option Addr) (len c : Nat) (L : List T) (w w0 : World), t = .node k n s L → LiesS w0 L a len → w0.heap.size ≤ B → Below w0.heap.size w0 w → Out B w sv l → B ≤ w.heap.size → l.length ≤ 20000 →
    Calls Tryd.prog 10 #[sv, .agg #[.int .i64 k, .int .i64 n, .string s, .slice a len c]] w fun e w' => ∃ v' L', e = .returned v' ∧ Out B w' v' L' ∧ AB l (bT t) L' ∧ (L'.length ≤ 12003 ∨ L' = l) ∧ Below B w w' := by
  intro d
  induction d with
  | zero =>
    intro t ht B sv l k n s a len c L w w0 e hL hB0 hw0 ho hB hl
    exact b_flat 0 t ht B sv l k n s a len c L w w0 e (fun h => by subst h; subst e; cases ht) hL ho hB hl
  | succ d ih =>
    intro t ht B sv l k n s a len c L w w0 e hL hB0 hw0 ho hB hl
    by_cases h4 : k = 4
    · by_cases hlong : 8000 < l.length
      · refine (bv_long B sv l k n s a len c w ho hB hlong (by omega)).mono ?_
        rintro e w' ⟨v', rfl, o', b'⟩
        exact ⟨v', l, rfl, o', AB.long hlong, .inr rfl, b'⟩
      · subst h4
        subst e
        have hlen := hL.length.1
        cases ht with
        | list d L h0 h1 =>
        rw [bT_list]
        refine (bv_list B sv l a len c (match a with | some ⟨b, off, _⟩ => valsAt w b off | none => valsAt w 0 0) (fun i => (L.drop i).head?.elim [] bT) w ho hB (by omega) (by omega) ?_ ?_).mono ?_
        · intro hz
          obtain ⟨b, off, _, rfl, hb, _⟩ := hL.get (i := 0) (by omega)
          exact ⟨b, off, rfl, by omega, (hL.below hw0 _ _ _).listAt⟩
        · intro i hi W2 sv2 L2 hB2 hW2 ho2 hl2
          obtain ⟨b, off, _, rfl, hb, _⟩ := hL.get (i := 0) (by omega)
          obtain ⟨kt, nt, st, Lt, at', lt, ct, _, hd', p0, p1, p2, p3, hlc, hLt, _, hst⟩ := hL.at2 hi
          have hmem : T.node kt nt st Lt ∈ L := List.mem_of_mem_drop (by rw [hd']; exact List.mem_cons_self ..)
          show Calls Tryd.prog 10 #[sv2, (valsAt w b off).at i] W2 _
          rw [vals_at ((hw0.cell hb).trans p0) ((hw0.cell hb).trans p1) ((hw0.cell hb).trans p2) ((hw0.cell hb).trans p3)]
          have := ih (.node kt nt st Lt) (h1 _ hmem) B sv2 L2 kt nt st at' lt ct Lt W2 w0 rfl hLt hB0 (hw0.trans (hW2.mono hB0)) ho2 hB2 hl2
          rw [hd']
          exact this
        · rintro e w' ⟨v', L', rfl, o', ap', hl', b'⟩
          refine ⟨v', L', rfl, o', ?_, .inl hl', b'⟩
          rw [hlen, cats_bL L L.length (Nat.le_refl _), List.take_length] at ap'
          exact ap'
    · exact b_flat (d + 1) t ht B sv l k n s a len c L w w0 e h4 hL ho hB hl

/-- What Bytes answers. -/
def bytesR (er : Int) (Q : List UInt8) : Value := if er = 0 then (if Q.length ≤ 8000 then .tuple #[.string ⟨Q.toArray⟩, .int .i64 0] else .tuple #[.string ⟨#[]⟩, .int .i64 2]) else .tuple #[.string ⟨#[]⟩, .int .i64 er]
end Go.Proofs.YtdefjgbiinahdabDoor
