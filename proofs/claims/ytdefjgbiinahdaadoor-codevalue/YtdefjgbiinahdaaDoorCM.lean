/-
  What is proved here: what the texts CTreeA, CTree, CIff, CBytesOf, CUb, CUn, CUn2, CUn3, CUnAll, CLong, CLawBack, CLawValue, CLawValue2 prove, in one text.
-/
import Derived.Test.YtdefjgbiinahdaaDoorCBytes3
import Derived.Test.YtdefjgbiinahdaaDoorPPAll2
import Derived.Test.YtdefjgbiinahdaaDoorCValue3
import Derived.Test.YtdefjgbiinahdaaDoorCRef1
import Derived.Test.YtdefjgbiinahdaaDoorShelf
import Derived.Lib.BufferKept
import Derived.Deep.RegionHeld3
import Derived.Test.YtdefjgbiinahdaaDoorPRefTree
namespace Go.Proofs.YtdefjgbiinahdaaDoor
open Go.RowKit
set_option linter.unusedVariables false

mutual
/-- The bytes of a value. -/
def bT : T → List UInt8
  | .node k n s L => if k = 1 then 1 :: hiB (up n) 8 else if k = 2 then 2 :: hiB (up n) 8 else if k = 3 then 3 :: (hiB s.size 2 ++ s.data.toList) else if k = 4 then 4 :: (hiB L.length 1 ++ bL L) else [0]
def bL : List T → List UInt8
  | [] => []
  | t :: ts => bT t ++ bL ts
end

theorem bT_list (n : Int) (s : ByteArray) (L : List T) : bT (.node 4 n s L) = 4 :: (hiB L.length 1 ++ bL L) := by unfold bT; rfl

theorem bL_cons (t : T) (ts : List T) : bL (t :: ts) = bT t ++ bL ts := by conv => lhs; unfold bL

theorem bL_append : ∀ (A B : List T), bL (A ++ B) = bL A ++ bL B
  | [], B => by simp [bL]
  | t :: A, B => by
    rw [List.cons_append, bL_cons, bL_cons, bL_append A B, List.append_assoc]

theorem cats_bL (L : List T) : ∀ k, k ≤ L.length → cats (fun i => (L.drop i).head?.elim [] bT) k = bL (L.take k)
  | 0, _ => by simp [cats, bL]
  | k + 1, h => by
    have := cats_bL L k (by omega)
    rw [cats, this, List.take_succ_eq_append_getElem h, bL_append]
    congr 1
    have e : (L.drop k).head?.elim [] bT = bT L[k] := by rw [List.drop_eq_getElem_cons h]; rfl
    rw [e, bL_cons]
    simp [bL]

theorem bT_ne (t : T) : bT t ≠ [] := by
  obtain ⟨k, n, s, L⟩ := t
  unfold bT
  split
  · simp
  · split
    · simp
    · split
      · simp
      · split <;> simp

/-- A value without list. -/
theorem b_flat (d : Nat) (t : T) (ht : Ck d t) (B : Nat) (sv : Value) (l : List UInt8) (k n : Int) (s : ByteArray) (a : Option Addr) (len c : Nat) (L : List T) (w w0 : World) (e : t = .node k n s L) (h4 : k ≠ 4) (hL : LiesS w0 L a len) (ho : Out B w sv l) (hB : B ≤ w.heap.size) (hl : l.length ≤ 20000) :
    Calls Tryd.prog 25 #[sv, .agg #[.int .i64 k, .int .i64 n, .string s, .slice a len c]] w fun e w' => ∃ v' L', e = .returned v' ∧ Out B w' v' L' ∧ AB l (bT t) L' ∧ (L'.length ≤ 12003 ∨ L' = l) ∧ Below B w w' := by
  by_cases hlong : 8000 < l.length
  · refine (bv_long B sv l k n s a len c w ho hB hlong (by omega)).mono ?_
    rintro e w' ⟨v', rfl, o', b'⟩
    exact ⟨v', l, rfl, o', AB.long hlong, .inr rfl, b'⟩
  · have hl8 : l.length ≤ 8000 := by omega
    have hlen := hL.length.1
    have fin : ∀ (Q : List UInt8), bT t = Q → Q.length ≤ 4003 → (Calls Tryd.prog 25 #[sv, .agg #[.int .i64 k, .int .i64 n, .string s, .slice a len c]] w fun e w' => ∃ v', e = .returned v' ∧ Out B w' v' (l ++ Q) ∧ Below B w w') → (Calls Tryd.prog 25 #[sv, .agg #[.int .i64 k, .int .i64 n, .string s, .slice a len c]] w fun e w' => ∃ v' L', e = .returned v' ∧ Out B w' v' L' ∧ AB l (bT t) L' ∧ (L'.length ≤ 12003 ∨ L' = l) ∧ Below B w w') := by
      intro Q hQ hq h
      refine h.mono ?_
      rintro e w' ⟨v', rfl, o', b'⟩
      exact ⟨v', l ++ Q, rfl, o', by rw [hQ]; exact AB.plain _ _, .inl (by simp; omega), b'⟩
    cases ht with
    | null d =>
      injection e with e1 e2 e3 e4
      subst e1 e2 e3 e4
      obtain rfl : len = 0 := hlen
      exact fin [0] (by unfold bT; rfl) (by decide) (bv_null B sv l a c w ho hB hl8)
    | bool d m h =>
      injection e with e1 e2 e3 e4
      subst e1 e2 e3 e4
      obtain rfl : len = 0 := hlen
      exact fin (1 :: hiB (up m) 8) (by unfold bT; rfl) (by simp [hiB_length]) (bv_num1 B sv l m a c w ho hB hl8 (by omega) (by omega))
    | int d m h0 h1 =>
      injection e with e1 e2 e3 e4
      subst e1 e2 e3 e4
      obtain rfl : len = 0 := hlen
      exact fin (2 :: hiB (up m) 8) (by unfold bT; rfl) (by simp [hiB_length]) (bv_num2 B sv l m a c w ho hB hl8 h0 h1)
    | text d u h0 h1 =>
      injection e with e1 e2 e3 e4
      subst e1 e2 e3 e4
      obtain rfl : len = 0 := hlen
      exact fin (3 :: (hiB u.size 2 ++ u.data.toList)) (by unfold bT; rfl) (by simp [hiB_length]; omega) (bv_text B sv l u a c w ho hB hl8 h0)
    | list d M h0 h1 =>
      injection e with e1 e2 e3 e4
      exact absurd e1.symm h4

/-- What appendValue adds of a value as the document has it. -/
theorem b_tree : ∀ (d : Nat) (t : T), Ck d t → ∀ (B : Nat) (sv : Value) (l : List UInt8) (k n : Int) (s : ByteArray) (a : Option Addr) (len c : Nat) (L : List T) (w w0 : World), t = .node k n s L → LiesS w0 L a len → w0.heap.size ≤ B → Below w0.heap.size w0 w → Out B w sv l → B ≤ w.heap.size → l.length ≤ 20000 →
    Calls Tryd.prog 25 #[sv, .agg #[.int .i64 k, .int .i64 n, .string s, .slice a len c]] w fun e w' => ∃ v' L', e = .returned v' ∧ Out B w' v' L' ∧ AB l (bT t) L' ∧ (L'.length ≤ 12003 ∨ L' = l) ∧ Below B w w' := by
  intro d
  induction d with
  | zero =>
    intro t ht B sv l k n s a len c L w w0 e hL hB0 hw0 ho hB hl
    exact b_flat 0 t ht B sv l k n s a len c L w w0 e (fun h => by subst h; subst e; cases ht) hL ho hB hl
  | succ d ih =>
    intro t ht B sv l k n s a len c L w w0 e hL hB0 hw0 ho hB hl
    by_cases h4 : k = 4
    · by_cases hlong : 8000 < l.length
      · refine (bv_long B sv l k n s a len c w ho hB hlong (by omega)).mono ?_
        rintro e w' ⟨v', rfl, o', b'⟩
        exact ⟨v', l, rfl, o', AB.long hlong, .inr rfl, b'⟩
      · subst h4
        subst e
        have hlen := hL.length.1
        cases ht with
        | list d L h0 h1 =>
        rw [bT_list]
        refine (bv_list B sv l a len c (match a with | some ⟨b, off, _⟩ => valsAt w b off | none => valsAt w 0 0) (fun i => (L.drop i).head?.elim [] bT) w ho hB (by omega) (by omega) ?_ ?_).mono ?_
        · intro hz
          obtain ⟨b, off, _, rfl, hb, _⟩ := hL.get (i := 0) (by omega)
          exact ⟨b, off, rfl, by omega, (hL.below hw0 _ _ _).listAt⟩
        · intro i hi W2 sv2 L2 hB2 hW2 ho2 hl2
          obtain ⟨b, off, _, rfl, hb, _⟩ := hL.get (i := 0) (by omega)
          obtain ⟨kt, nt, st, Lt, at', lt, ct, _, hd', p0, p1, p2, p3, hlc, hLt, _, hst⟩ := hL.at2 hi
          have hmem : T.node kt nt st Lt ∈ L := List.mem_of_mem_drop (by rw [hd']; exact List.mem_cons_self ..)
          show Calls Tryd.prog 25 #[sv2, (valsAt w b off).at i] W2 _
          rw [vals_at ((hw0.cell hb).trans p0) ((hw0.cell hb).trans p1) ((hw0.cell hb).trans p2) ((hw0.cell hb).trans p3)]
          have := ih (.node kt nt st Lt) (h1 _ hmem) B sv2 L2 kt nt st at' lt ct Lt W2 w0 rfl hLt hB0 (hw0.trans (hW2.mono hB0)) ho2 hB2 hl2
          rw [hd']
          exact this
        · rintro e w' ⟨v', L', rfl, o', ap', hl', b'⟩
          refine ⟨v', L', rfl, o', ?_, .inl hl', b'⟩
          rw [hlen, cats_bL L L.length (Nat.le_refl _), List.take_length] at ap'
          exact ap'
    · exact b_flat (d + 1) t ht B sv l k n s a len c L w w0 e h4 hL ho hB hl

/-- What Bytes answers. -/
def bytesR (er : Int) (Q : List UInt8) : Value := if er = 0 then (if Q.length ≤ 8000 then .tuple #[.string ⟨Q.toArray⟩, .int .i64 0] else .tuple #[.string ⟨#[]⟩, .int .i64 2]) else .tuple #[.string ⟨#[]⟩, .int .i64 er]

theorem dn_up (n : Int) (h0 : -9223372036854775808 ≤ n) (h1 : n ≤ 9223372036854775807) : dn (ofHi (hiB (up n) 8)) = n := by
  have h3 : (256 : Nat) ^ 8 = 18446744073709551616 := by decide
  rw [ofHi_hiB _ _ (by rw [h3]; unfold up; omega)]
  unfold dn up
  omega

theorem data_back (s : ByteArray) : (⟨s.data.toList.toArray⟩ : ByteArray) = s := by simp

/-- The bytes of a value are read as it, whatever follows. -/
theorem vd_bT : ∀ (d : Nat) (t : T), Ck d t → d ≤ 6 → ∀ rest, vd d (bT t ++ rest) = some (t, rest) := by
  have flat : ∀ (lists d : Nat) (t : T), Ck d t → (∀ k n s L, t = .node k n s L → k ≠ 4) → ∀ rest, ∃ x : Hd, hd lists (bT t ++ rest) = some (x, rest) ∧ x.i = 0 ∧ T.node x.k x.n ⟨x.s.toArray⟩ [] = t := by
    intro lists d t ht h4 rest
    cases ht with
    | null d => exact ⟨⟨0, 0, [], 0⟩, by unfold bT; simp [hd], rfl, rfl⟩
    | bool d m h =>
      have hm := dn_up m (by omega) (by omega)
      refine ⟨⟨1, m, [], 0⟩, ?_, rfl, rfl⟩
      have e : bT (.node 1 m ⟨#[]⟩ []) ++ rest = 1 :: (hiB (up m) 8 ++ rest) := by unfold bT; rfl
      rw [e]
      simp only [hd]
      rw [if_neg (by decide), if_pos trivial, List.take_left' (hiB_length _ _), List.drop_left' (hiB_length _ _), hm, if_pos ⟨by simp [hiB_length], h⟩]
    | int d m h0 h1 =>
      have hm := dn_up m h0 h1
      refine ⟨⟨2, m, [], 0⟩, ?_, rfl, rfl⟩
      have e : bT (.node 2 m ⟨#[]⟩ []) ++ rest = 2 :: (hiB (up m) 8 ++ rest) := by unfold bT; rfl
      rw [e]
      simp only [hd]
      rw [if_neg (by decide), if_neg (by decide), if_pos trivial, List.take_left' (hiB_length _ _), List.drop_left' (hiB_length _ _), hm, if_pos (by simp [hiB_length])]
    | text d u h0 h1 =>
      refine ⟨⟨3, 0, u.data.toList, 0⟩, ?_, rfl, by rw [data_back]⟩
      have e : bT (.node 3 0 u []) ++ rest = 3 :: (hiB u.size 2 ++ (u.data.toList ++ rest)) := by unfold bT; simp
      have hm : ofHi (hiB u.size 2) = u.size := ofHi_hiB _ _ (Nat.lt_of_le_of_lt h0 (by decide))
      have hlen : u.data.toList.length = u.size := by simp
      rw [e]
      simp only [hd]
      rw [if_neg (by decide), if_neg (by decide), if_neg (by decide), if_pos trivial, List.take_left' (hiB_length _ _), hm, List.drop_left' (hiB_length _ _), List.take_left' hlen, if_pos ⟨by simp [hiB_length], by simp [hiB_length], h0, h1⟩]
      rw [← List.append_assoc, List.drop_left' (by rw [List.length_append, hiB_length, hlen])]
    | list d M h0 h1 => exact absurd rfl (h4 4 0 ⟨#[]⟩ M rfl)
  intro d
  induction d with
  | zero =>
    intro t ht _ rest
    obtain ⟨x, e1, e2, e3⟩ := flat 6 0 t ht (fun k n s L e h => by subst h; subst e; cases ht) rest
    simp only [vd, e1]
    rw [e3]
  | succ d ih =>
    intro t ht hd6 rest
    by_cases h4 : ∃ L, t = .node 4 0 ⟨#[]⟩ L ∧ L.length ≤ 30 ∧ ∀ u ∈ L, Ck d u
    · obtain ⟨L, rfl, hl, hck⟩ := h4
      have hm : ofHi (hiB L.length 1) = L.length := ofHi_hiB _ _ (by omega)
      have e1 : hd (6 - (d + 1)) (bT (.node 4 0 ⟨#[]⟩ L) ++ rest) = some (⟨4, 0, [], L.length⟩, bL L ++ rest) := by
        rw [bT_list, List.cons_append, List.append_assoc]
        simp only [hd]
        rw [if_neg (by decide), if_neg (by decide), if_neg (by decide), if_neg (by decide), if_pos trivial, List.take_left' (hiB_length _ _), hm, List.drop_left' (hiB_length _ _), if_pos ⟨by simp [hiB_length], hl, by omega⟩]
      have e2 : ∀ M : List T, (∀ u ∈ M, Ck d u) → vds (vd d) M.length (bL M ++ rest) = some (M, rest) := by
        intro M
        induction M with
        | nil => intro _; simp [vds, bL]
        | cons u us ihM =>
          intro hM
          rw [List.length_cons, vds]
          have : bL (u :: us) ++ rest = bT u ++ (bL us ++ rest) := by rw [bL_cons, List.append_assoc]
          rw [this, ih u (hM u (List.mem_cons_self ..)) (by omega)]
          simp only
          rw [ihM (fun y hy => hM y (List.mem_cons_of_mem _ hy))]
      simp only [vd, e1]
      rw [e2 L hck]
    · obtain ⟨x, e1, e2, e3⟩ := flat (6 - (d + 1)) (d + 1) t ht (fun k n s L e h => by
        subst h; subst e
        cases ht with
        | list d M h0 h1 => exact h4 ⟨_, rfl, h0, h1⟩) rest
      simp only [vd, e1, e2, vds]
      rw [e3]

theorem firstErr_zero (es : Nat → Int) (z : Int) : ∀ (n i : Nat), (∀ j, j < n → es (i + j) = 0) → firstErr es i n z = z
  | 0, i, _ => by simp [firstErr]
  | n + 1, i, h => by
    have h0 := h 0 (by omega)
    rw [Nat.add_zero] at h0
    rw [firstErr, if_pos h0]
    exact firstErr_zero es z n (i + 1) fun j hj => by
      have := h (j + 1) (by omega)
      rw [show i + 1 + j = i + (j + 1) from by omega]
      exact this

theorem bi_plain (B : Nat) (w : World) (hB : B ≤ w.heap.size) (hT : Tabs B w) (d : Nat) (k n : Int) (s : ByteArray) (a : Option Addr) (l c lists : Nat) (L : List T) (h4 : k ≠ 4) (hs : s.size ≤ 9223372036854775807) (hin : InT (.node k n s L)) (hL : LiesS w L a l) : ∃ e, Both w (.agg #[.int .i64 k, .int .i64 n, .string s, .slice a l c]) lists e ∧ (e = 0 → Ck d (.node k n s L)) ∧ (Ck d (.node k n s L) → e = 0) := by
  have hl := hL.length
  by_cases h3 : k = 3
  · subst h3
    have hv : ∀ w1, Below w.heap.size w w1 → ∀ w', Below w1.heap.size w1 w' → Calls Tryd.prog 26 #[.string s] w' fun e w'' => e = .returned (.bool (Lib.validD s.data.toList)) ∧ Below w'.heap.size w' w'' := fun w1 k1 w' k' => Tryd.utf8_ValidString s w' hs (hT.below ((below2 k1 k').mono hB)).now
    refine ⟨if s.size > 4000 then 2 else if Lib.validD s.data.toList = true ∧ n = 0 ∧ l = 0 then 0 else 6, fun w' k => ⟨within_text n s a l c lists _ w' fun w2 k2 => checkText_any n s a l c (Lib.validD s.data.toList) w2 hs hl.2 (hv w2 (below2 k k2)), ref_text n s a l c (lists + 1) (Lib.validD s.data.toList) _ w' hs hl.2 rfl (hv w' k)⟩, fun e => ?_, fun h => by cases h with | text _ _ g0 g1 => rw [if_neg (by omega), if_pos ⟨g1, rfl, hl.1⟩]⟩
    split at e
    · exact absurd e (by decide)
    · split at e
      · rename_i h1 h2
        obtain ⟨h2, rfl, h5⟩ := h2
        have e1 : L = [] := List.length_eq_zero_iff.1 (by omega)
        subst e1
        exact .text d s (by omega) h2
      · exact absurd e (by decide)
  · obtain ⟨z, hz0, hz1, hz2, hz3, hz4⟩ : ∃ z : Int, ((k = 0 ∧ n = 0 ∨ k = 1 ∧ (n = 0 ∨ n = 1) ∨ k = 2) → s = ⟨#[]⟩ → l = 0 → z = 0) ∧ (¬ (k = 0 ∧ n = 0 ∨ k = 1 ∧ (n = 0 ∨ n = 1) ∨ k = 2) → z = 6) ∧ (s ≠ ⟨#[]⟩ → z = 6) ∧ (l ≠ 0 → z = 6) ∧ (z = 0 → (k = 0 ∧ n = 0 ∨ k = 1 ∧ (n = 0 ∨ n = 1) ∨ k = 2) ∧ s = ⟨#[]⟩ ∧ l = 0) := by
      by_cases hk : (k = 0 ∧ n = 0 ∨ k = 1 ∧ (n = 0 ∨ n = 1) ∨ k = 2)
      · by_cases hs : s = ⟨#[]⟩
        · by_cases hl0 : l = 0
          · exact ⟨0, fun _ _ _ => rfl, fun h => absurd hk h, fun h => absurd hs h, fun h => absurd hl0 h, fun _ => ⟨hk, hs, hl0⟩⟩
          · exact ⟨6, fun _ _ h => absurd h hl0, fun _ => rfl, fun _ => rfl, fun _ => rfl, fun h => absurd h (by decide)⟩
        · exact ⟨6, fun _ h => absurd h hs, fun _ => rfl, fun _ => rfl, fun _ => rfl, fun h => absurd h (by decide)⟩
      · exact ⟨6, fun h => absurd h hk, fun _ => rfl, fun _ => rfl, fun _ => rfl, fun h => absurd h (by decide)⟩
    refine ⟨z, fun w' kk => ⟨within_plain k n s a l c lists z w' (by simpa using h4) (by simpa using h3) fun w2 k2 => checkPlain_any k n s a l c z w2 hz0 hz1 hz2 hz3 hl.2, ref_plain k n s a l c (lists + 1) z w' hl.2 (by simpa using h4) (by simpa using h3) hz0 hz1 hz2 hz3⟩, fun e => ?_, fun h => ?_⟩
    rotate_left
    · cases h with
      | null => exact hz0 (.inl ⟨rfl, rfl⟩) rfl hl.1
      | bool _ _ g => exact hz0 (.inr (.inl ⟨rfl, g⟩)) rfl hl.1
      | int => exact hz0 (.inr (.inr rfl)) rfl hl.1
      | text => exact absurd rfl h3
      | list => exact absurd rfl h4
    obtain ⟨hk, rfl, h0⟩ := hz4 e
    have e1 : L = [] := List.length_eq_zero_iff.1 (by omega)
    subst e1
    unfold InT at hin
    rcases hk with ⟨rfl, rfl⟩ | ⟨rfl, h⟩ | rfl
    · exact .null d
    · exact .bool d n h
    · exact .int d n hin.1.1 hin.1.2

theorem bi_all (B : Nat) (w : World) (hB : B ≤ w.heap.size) (hT : Tabs B w) : ∀ (f lists : Nat), lists + f = 6 → ∀ (k n : Int) (s : ByteArray) (a : Option Addr) (l c : Nat) (L : List T), s.size ≤ 9223372036854775807 → InT (.node k n s L) → LiesS w L a l → ∃ e, Both w (.agg #[.int .i64 k, .int .i64 n, .string s, .slice a l c]) lists e ∧ (e = 0 → Ck f (.node k n s L)) ∧ (Ck f (.node k n s L) → e = 0) := by
  intro f
  induction f with
  | zero =>
    intro lists hd k n s a l c L hs hin hL
    by_cases h4 : k = 4
    · subst h4
      exact ⟨2, both_list_many w n s a l c lists hL.length.2 (.inr (by omega)), fun e => absurd e (by decide), fun h => by cases h⟩
    · exact bi_plain B w hB hT _ k n s a l c lists L h4 hs hin hL
  | succ f ih =>
    intro lists hd k n s a l c L hs hin hL
    by_cases h4 : k = 4
    · subst h4
      by_cases hm : 30 < l
      · exact ⟨2, both_list_many w n s a l c lists hL.length.2 (.inl hm), fun e => absurd e (by decide), fun h => by cases h with | list _ _ g0 g1 => have := hL.length.1; omega⟩
      · obtain ⟨z, hz0, hz1, hz2, hz3⟩ := bare_of n s
        by_cases h0 : l = 0
        · subst h0
          have e1 : L = [] := List.length_eq_zero_iff.1 hL.length.1.symm
          subst e1
          exact ⟨z, fun w' k => ⟨within_list n s a 0 c lists z w' fun w2 k2 => checkList_empty 4 n s a c lists z w2 (by omega) hz0 hz1 hz2, ref_empty n s a c (lists + 1) z w' (by omega) hz0 hz1 hz2⟩, fun e => by obtain ⟨rfl, rfl⟩ := hz3 e; exact .list f [] (by simp) (fun t ht => by cases ht), fun h => by cases h with | list _ _ g0 g1 => exact hz0 rfl rfl⟩
        · obtain ⟨b, off, _, rfl, hb, _⟩ := hL.get (i := 0) (by omega)
          have hel : ∀ i, i < l → ∃ e, Both w ((valsAt w b off).at i) (lists + 1) e ∧ (e = 0 → ∀ t, L.drop i = t :: L.drop (i + 1) → Ck f t) ∧ ((∀ t ∈ L, Ck f t) → e = 0) := by
            intro i hi
            obtain ⟨kt, nt, st, Lt, at', lt, ct, _, hd', p0, p1, p2, p3, hlc, hLt, _, hst⟩ := hL.at2 hi
            rw [vals_at p0 p1 p2 p3]
            have hmem : T.node kt nt st Lt ∈ L := List.mem_of_mem_drop (by rw [hd']; exact List.mem_cons_self ..)
            obtain ⟨e, he, hwe, hwi⟩ := ih (lists + 1) (by omega) kt nt st at' lt ct Lt hst (InL.mem (by unfold InT at hin; exact hin.2) hmem) hLt
            refine ⟨e, he, fun e0 t ht => ?_, fun h => hwi (h _ hmem)⟩
            rw [hd'] at ht
            simp only [List.cons.injEq, and_true] at ht
            rw [← ht]
            exact hwe e0
          obtain ⟨es, hes⟩ : ∃ es : Nat → Int, ∀ i, i < l → Both w ((valsAt w b off).at i) (lists + 1) (es i) ∧ (es i = 0 → ∀ t, L.drop i = t :: L.drop (i + 1) → Ck f t) ∧ ((∀ t ∈ L, Ck f t) → es i = 0) := by
            refine ⟨fun i => if h : i < l then Classical.choose (hel i h) else 0, fun i hi => ?_⟩
            have := Classical.choose_spec (hel i hi)
            simp only [dif_pos hi]
            exact this
          refine ⟨firstErr es 0 l z, fun w' k => ⟨?_, ?_⟩, fun e => ?_, fun h => ?_⟩
          · refine within_list n s (some ⟨b, off, none⟩) l c lists _ w' fun w2 k2 => ?_
            have kk := below2 k k2
            refine checkList_any 4 n s b off l c lists es (valsAt w b off) z w2 hz0 hz1 hz2 (by omega) (by omega) (by omega) (by have := kk.size; omega) (listAt_below hL.listAt hb kk) fun i hi w3 k3 => ?_
            have := ((hes i hi).1 w3 (below2 kk k3)).1
            rw [show ((lists + 1 : Nat) : Int) = (lists : Int) + 1 from by omega] at this
            exact this
          · refine ref_list n s b off l c (lists + 1) es (valsAt w b off) z w' hz0 hz1 hz2 (by omega) (by omega) (by omega) (by have := k.size; omega) (listAt_below hL.listAt hb k) fun i hi w3 k3 => ?_
            have := ((hes i hi).1 w3 (below2 k k3)).2
            rw [show ((lists + 1 : Nat) : Int) = (lists : Int) + 1 from by omega] at this
            exact this
          · obtain ⟨hz, hall⟩ := firstErr_none es z l 0 e
            obtain ⟨rfl, rfl⟩ := hz3 hz
            refine .list f L (by rw [← hL.length.1]; omega) (fun t ht => ?_)
            obtain ⟨i, hi, hdi⟩ := mem_drop ht
            have hi' : i < l := by rw [hL.length.1]; exact hi
            have h0 := hall i hi'
            rw [Nat.zero_add] at h0
            exact (hes i hi').2.1 h0 t hdi
          · cases h with
            | list _ _ g0 g1 => rw [firstErr_zero es z l 0 (fun i hi => by rw [Nat.zero_add]; exact (hes i hi).2.2 g1)]; exact hz0 rfl rfl
    · exact bi_plain B w hB hT _ k n s a l c lists L h4 hs hin hL

/-- A buffer's type. -/
abbrev BUF : TypeId := 60

theorem buf_carry {B b : Nat} {bs : List Value} {w w' : World} (h : Lib.IsBuffer BUF BE B b bs w) (k : Below w.heap.size w w') : Lib.IsBuffer BUF BE B b bs w' := by
  have hlt := h.lt
  obtain ⟨h1, v, lr, h2, h3, h4⟩ := h
  exact ⟨h1, v, lr, (k.block b hlt).trans h2, row_kept h3 (fun j _ hj => k.block j hj), h4⟩

theorem xor_high (x : Nat) (h : x < 18446744073709551616) : x ^^^ 9223372036854775808 = (x + 9223372036854775808) % 18446744073709551616 := by
  have key : ∀ r, r < 9223372036854775808 → r ^^^ 9223372036854775808 = r + 9223372036854775808 := by
    intro r hr
    have e63 : (9223372036854775808 : Nat) = 2 ^ 63 := by decide
    rw [e63] at hr ⊢
    apply Nat.eq_of_testBit_eq
    intro i
    rw [Nat.testBit_xor, Nat.testBit_two_pow, Nat.add_comm r]
    rcases Nat.lt_trichotomy i 63 with hi | hi | hi
    · rw [Nat.testBit_two_pow_add_gt hi, show decide (63 = i) = false from by simp; omega]; simp
    · subst hi
      rw [Nat.testBit_two_pow_add_eq]; simp
    · rw [Nat.testBit_lt_two_pow (x := r) (i := i) (Nat.lt_trans hr (Nat.pow_lt_pow_right (by decide) hi)), Nat.testBit_lt_two_pow (x := 2 ^ 63 + r) (i := i) (Nat.lt_of_lt_of_le (show 2 ^ 63 + r < 2 ^ 64 by omega) (Nat.pow_le_pow_right (by decide) hi)), show decide (63 = i) = false from by simp; omega]
      rfl
  by_cases hx : x < 9223372036854775808
  · rw [key x hx]; omega
  · obtain ⟨r, rfl⟩ : ∃ r, x = r + 9223372036854775808 := ⟨x - 9223372036854775808, by omega⟩
    rw [← key r (by omega), Nat.xor_assoc, Nat.xor_self, Nat.xor_zero, key r (by omega)]
    omega

theorem xor_up (n : Int) (h0 : -9223372036854775808 ≤ n) (h1 : n ≤ 9223372036854775807) : bits .xor .u64 (IntKind.u64.wrap n) 9223372036854775808 = (up n : Int) := by
  rw [IntKind.wrap_u64]
  obtain ⟨x, hx⟩ : ∃ x : Nat, n % 18446744073709551616 = (x : Int) := ⟨(n % 18446744073709551616).toNat, by omega⟩
  have hx2 : x < 18446744073709551616 := by omega
  rw [hx]
  have := u64_xor_nat x 9223372036854775808 hx2 (by omega)
  rw [xor_high x hx2] at this
  have e : (9223372036854775808 : Int) = ((9223372036854775808 : Nat) : Int) := rfl
  rw [e, this]
  unfold up
  omega

theorem bT_len : ∀ (d : Nat) (t : T), Ck d t → (bT t).length ≤ 4003 * 31 ^ d := by
  have p : ∀ d, 1 ≤ 31 ^ d := fun d => Nat.one_le_pow _ _ (by decide)
  have flat : ∀ (d : Nat) (m : Nat), m ≤ 4003 → m ≤ 4003 * 31 ^ d := fun d m h => Nat.le_trans h (Nat.le_mul_of_pos_right _ (p d))
  intro d
  induction d with
  | zero =>
    intro t h
    cases h with
    | null => unfold bT; simp
    | bool => unfold bT; simp [hiB_length]
    | int => unfold bT; simp [hiB_length]
    | text d s h0 h1 => unfold bT; simp [hiB_length]; omega
  | succ d ih =>
    intro t h
    cases h with
    | null => exact flat _ _ (by unfold bT; simp)
    | bool => exact flat _ _ (by unfold bT; simp [hiB_length])
    | int => exact flat _ _ (by unfold bT; simp [hiB_length])
    | text d s h0 h1 => exact flat _ _ (by unfold bT; simp [hiB_length]; omega)
    | list d L g0 g1 =>
      have e : ∀ M : List T, (∀ u ∈ M, Ck d u) → (bL M).length ≤ M.length * (4003 * 31 ^ d) := by
        intro M
        induction M with
        | nil => intro _; simp [bL]
        | cons u us ihM =>
          intro hM
          have h1 := ih u (hM u (List.mem_cons_self ..))
          have h2 := ihM (fun y hy => hM y (List.mem_cons_of_mem _ hy))
          rw [bL_cons, List.length_append, List.length_cons, Nat.add_mul]
          omega
      have h3 := e L g1
      have h4 : L.length * (4003 * 31 ^ d) ≤ 30 * (4003 * 31 ^ d) := Nat.mul_le_mul_right _ g0
      have h5 := p d
      rw [bT_list, Nat.pow_succ]
      simp only [List.length_cons, List.length_append, hiB_length]
      omega

theorem cells_one (l : List UInt8) : ∀ v ∈ Lib.byteCells l, v.oneCell' = true := Lib.byteCells_one l

theorem cells_more (l : List UInt8) (c : UInt8) : Lib.byteCells l ++ [.int .u8 (c.toNat : Int)] = Lib.byteCells (l ++ [c]) := by simp [Lib.byteCells]


/-- The box of the value, and behind it the new buffer: the first byte. -/
theorem wb_first (O : Obj) (w : World) (k : Int) (c : UInt8) (hk : k = (c.toNat : Int)) :
    Calls Tryd.prog 27 #[.pointer (some ⟨w.heap.size + 1, 0, none⟩), .int .u8 k] ((w.alloc O).alloc (.cells #[.slice none 0 0, .int .i64 0, .int .i8 0] BUF)) fun e w' => e = .returned .nilIface ∧ Lib.IsBuffer BUF BE (w.heap.size + 1) (w.heap.size + 1) (Lib.byteCells [c]) w' ∧ w'.heap[w.heap.size]? = some O ∧ Below w.heap.size w w' ∧ w.heap.size + 2 ≤ w'.heap.size := by
  subst hk
  have hz : (w.alloc O).heap.size = w.heap.size + 1 := by simp
  have hf := Lib.fresh_isBuffer BUF BE (w.alloc O)
  rw [hz] at hf
  refine (Tryd.Buffer_WriteByte_k (w.heap.size + 1) (w.heap.size + 1) [] (c.toNat : Int) _ hf (by simp) (fun v hv => by cases hv) (by simp)).mono ?_
  rintro e w' ⟨rfl, hb, hB, _⟩
  have h0 : Below w.heap.size w ((w.alloc O).alloc (.cells #[.slice none 0 0, .int .i64 0, .int .i8 0] BUF)) := ((Below.refl _ _).alloc (Nat.le_refl _) _).alloc (by simp) _
  have hs := hB.size
  simp at hs
  refine ⟨rfl, hb, ?_, h0.trans (hB.mono (by omega)), by omega⟩
  rw [hB.block w.heap.size (by omega), Below.heap_alloc _ _ _ (by simp)]
  exact alloc_new _ _

/-- A text more. -/
theorem wb_str (B b : Nat) (l : List UInt8) (s : ByteArray) (w : World) (h : Lib.IsBuffer BUF BE B b (Lib.byteCells l) w) (hBw : B ≤ w.heap.size) (hl : l.length + s.size ≤ 140737488355328) :
    Calls Tryd.prog 28 #[.pointer (some ⟨b, 0, none⟩), .string s] w fun e w' => e = .returned (.tuple #[.int .i64 s.size, .nilIface]) ∧ Lib.IsBuffer BUF BE B b (Lib.byteCells (l ++ s.data.toList)) w' ∧ Below B w w' := by
  refine (Tryd.Buffer_WriteString_k B b _ s w h hBw (cells_one l) (by simpa [Lib.byteCells] using hl)).mono ?_
  rintro e w' ⟨rfl, hb, hB, _⟩
  exact ⟨rfl, by simpa [Lib.byteCells] using hb, hB⟩

/-- A byte more. -/
theorem wb_byte (B b : Nat) (l : List UInt8) (k : Int) (c : UInt8) (w : World) (hk : k = (c.toNat : Int)) (h : Lib.IsBuffer BUF BE B b (Lib.byteCells l) w) (hBw : B ≤ w.heap.size) (hl : l.length + 1 ≤ 140737488355328) :
    Calls Tryd.prog 27 #[.pointer (some ⟨b, 0, none⟩), .int .u8 k] w fun e w' => e = .returned .nilIface ∧ Lib.IsBuffer BUF BE B b (Lib.byteCells (l ++ [c])) w' ∧ Below B w w' := by
  subst hk
  refine (Tryd.Buffer_WriteByte_k B b _ (c.toNat : Int) w h hBw (cells_one l) (by simpa [Lib.byteCells] using hl)).mono ?_
  rintro e w' ⟨rfl, hb, hB, _⟩
  exact ⟨rfl, by simpa [Lib.byteCells] using hb, hB⟩

theorem drew_below (n B : Nat) (w : World) : Below B w (w.drewN n) := ⟨rfl, rfl, rfl, Nat.le_refl _, fun _ _ => rfl⟩

set_option maxHeartbeats 2000000 in
set_option maxRecDepth 100000 in
theorem bo_null (a : Option Addr) (c : Nat) (w : World) :
    Calls Tryd.prog 12 #[.agg #[.int .i64 0, .int .i64 0, .string ⟨#[]⟩, .slice a 0 c]] w fun e w' => e = .returned (.string ⟨#[0]⟩) ∧ Below w.heap.size w w' := by
  go_enter Tryd.func12, Tryd.ntmps12
  go_wp2_with fail
  refine (wb_first _ w 0 0 rfl).mono ?_
  rintro e w1 ⟨rfl, hb1, hx1, hB1, hs1⟩
  have x0 := cell_of hx1 0
  simp at x0
  have HX := toHid hx1
  have HB := toHid hb1
  clear hx1 hb1
  go_wp2_with fail
  refine (Tryd.Buffer_String _ _ _ w1 HB.out).mono ?_
  rintro e w2 ⟨rfl, n, rfl⟩
  go_wp2_with fail
  go_ret
  exact ⟨rfl, hB1.trans (drew_below n _ w1)⟩


set_option maxHeartbeats 2000000 in
set_option maxRecDepth 100000 in
theorem bo_num1 (n : Int) (a : Option Addr) (c : Nat) (w : World) (h0 : -9223372036854775808 ≤ n) (h1 : n ≤ 9223372036854775807) :
    Calls Tryd.prog 12 #[.agg #[.int .i64 1, .int .i64 n, .string ⟨#[]⟩, .slice a 0 c]] w fun e w' => e = .returned (.string ⟨(1 :: hiB (up n) 8).toArray⟩) ∧ Below w.heap.size w w' := by
  have hx := xor_up n h0 h1
  have hu : up n ≤ 18446744073709551615 := by unfold up; omega
  go_enter Tryd.func12, Tryd.ntmps12
  go_wp2_with fail
  refine (wb_first _ w 1 1 rfl).mono ?_
  rintro e w1 ⟨rfl, hb1, hx1, hB1, hs1⟩
  have x0 := cell_of hx1 0
  have x1 := cell_of hx1 1
  simp at x0 x1
  have HX := toHid hx1
  have HB := toHid hb1
  clear hx1 hb1
  go_wp2_with fail
  refine (high_any (up n) 8 w1 (by omega) hu).mono ?_
  rintro e w2 ⟨rfl, hB2⟩
  have hb2 := buf_carry HB.out hB2
  have hs2 : w1.heap.size ≤ w2.heap.size := hB2.size
  have hB3 : Below w.heap.size w w2 := hB1.trans (hB2.mono (by omega))
  have HB2 := toHid hb2
  clear hb2 hB2
  go_wp2_with fail
  refine (wb_str _ _ _ _ w2 HB2.out (by omega) (by simp [ByteArray.size, hiB_length])).mono ?_
  rintro e w3 ⟨rfl, hb3, hB4⟩
  have HB3 := toHid hb3
  have hB5 : Below w.heap.size w w3 := hB3.trans (hB4.mono (by omega))
  clear hb3 hB4
  go_wp2_with fail
  refine (Tryd.Buffer_String _ _ _ w3 HB3.out).mono ?_
  rintro e w4 ⟨rfl, m, rfl⟩
  go_wp2_with fail
  go_ret
  exact ⟨by simp, hB5.trans (drew_below m _ w3)⟩

set_option maxHeartbeats 2000000 in
set_option maxRecDepth 100000 in
theorem bo_num2 (n : Int) (a : Option Addr) (c : Nat) (w : World) (h0 : -9223372036854775808 ≤ n) (h1 : n ≤ 9223372036854775807) :
    Calls Tryd.prog 12 #[.agg #[.int .i64 2, .int .i64 n, .string ⟨#[]⟩, .slice a 0 c]] w fun e w' => e = .returned (.string ⟨(2 :: hiB (up n) 8).toArray⟩) ∧ Below w.heap.size w w' := by
  have hx := xor_up n h0 h1
  have hu : up n ≤ 18446744073709551615 := by unfold up; omega
  go_enter Tryd.func12, Tryd.ntmps12
  go_wp2_with fail
  refine (wb_first _ w 2 2 rfl).mono ?_
  rintro e w1 ⟨rfl, hb1, hx1, hB1, hs1⟩
  have x0 := cell_of hx1 0
  have x1 := cell_of hx1 1
  simp at x0 x1
  have HX := toHid hx1
  have HB := toHid hb1
  clear hx1 hb1
  go_wp2_with fail
  refine (high_any (up n) 8 w1 (by omega) hu).mono ?_
  rintro e w2 ⟨rfl, hB2⟩
  have hb2 := buf_carry HB.out hB2
  have hs2 : w1.heap.size ≤ w2.heap.size := hB2.size
  have hB3 : Below w.heap.size w w2 := hB1.trans (hB2.mono (by omega))
  have HB2 := toHid hb2
  clear hb2 hB2
  go_wp2_with fail
  refine (wb_str _ _ _ _ w2 HB2.out (by omega) (by simp [ByteArray.size, hiB_length])).mono ?_
  rintro e w3 ⟨rfl, hb3, hB4⟩
  have HB3 := toHid hb3
  have hB5 : Below w.heap.size w w3 := hB3.trans (hB4.mono (by omega))
  clear hb3 hB4
  go_wp2_with fail
  refine (Tryd.Buffer_String _ _ _ w3 HB3.out).mono ?_
  rintro e w4 ⟨rfl, m, rfl⟩
  go_wp2_with fail
  go_ret
  exact ⟨by simp, hB5.trans (drew_below m _ w3)⟩

set_option maxHeartbeats 2000000 in
set_option maxRecDepth 100000 in
theorem bo_text (s : ByteArray) (a : Option Addr) (c : Nat) (w : World) (hs : s.size ≤ 4000) :
    Calls Tryd.prog 12 #[.agg #[.int .i64 3, .int .i64 0, .string s, .slice a 0 c]] w fun e w' => e = .returned (.string ⟨(3 :: (hiB s.size 2 ++ s.data.toList)).toArray⟩) ∧ Below w.heap.size w w' := by
  have hwr : IntKind.u64.wrap (s.size : Int) = (s.size : Int) := by rw [IntKind.wrap_u64]; omega
  go_enter Tryd.func12, Tryd.ntmps12
  go_wp2_with fail
  refine (wb_first _ w 3 3 rfl).mono ?_
  rintro e w1 ⟨rfl, hb1, hx1, hB1, hs1⟩
  have x0 := cell_of hx1 0
  have x2 := cell_of hx1 2
  simp at x0 x2
  have HX := toHid hx1
  have HB := toHid hb1
  clear hx1 hb1
  go_wp2_with fail
  refine (high_any s.size 2 w1 (by omega) (by omega)).mono ?_
  rintro e w2 ⟨rfl, hB2⟩
  have hb2 := buf_carry HB.out hB2
  have hs2 : w1.heap.size ≤ w2.heap.size := hB2.size
  have hB3 : Below w.heap.size w w2 := hB1.trans (hB2.mono (by omega))
  have hx2 : w2.heap[w.heap.size]? = some _ := (hB2.block _ (by omega)).trans HX.out
  have HB2 := toHid hb2
  have HX2 := toHid hx2
  clear hb2 hB2 hx2
  go_wp2_with fail
  refine (wb_str _ _ _ _ w2 HB2.out (by omega) (by show 1 + (hiB s.size 2).toArray.size ≤ _; rw [List.size_toArray, hiB_length]; omega)).mono ?_
  rintro e w3 ⟨rfl, hb3, hB4⟩
  have HB3 := toHid hb3
  have hs3 : w2.heap.size ≤ w3.heap.size := hB4.size
  have hB5 : Below w.heap.size w w3 := hB3.trans (hB4.mono (by omega))
  have hx3 : w3.heap[w.heap.size]? = some _ := (hB4.block _ (by omega)).trans HX2.out
  have y2 := cell_of hx3 2
  simp at y2
  clear hb3 hB4 hx3
  go_wp2_with fail
  refine (wb_str _ _ _ _ w3 HB3.out (by omega) (by show ([3] ++ (hiB s.size 2).toArray.toList).length + s.size ≤ _; rw [List.length_append, List.toList_toArray, hiB_length, List.length_singleton]; omega)).mono ?_
  rintro e w4 ⟨rfl, hb4, hB6⟩
  have HB4 := toHid hb4
  have hB7 : Below w.heap.size w w4 := hB5.trans (hB6.mono (by omega))
  clear hb4 hB6
  go_wp2_with fail
  refine (Tryd.Buffer_String _ _ _ w4 HB4.out).mono ?_
  rintro e w5 ⟨rfl, m, rfl⟩
  go_wp2_with fail
  go_ret
  exact ⟨by simp, hB7.trans (drew_below m _ w4)⟩

theorem cats_len (ps : Nat → List UInt8) (n M : Nat) (h : ∀ i, i < n → (ps i).length ≤ M) : ∀ k, k ≤ n → (cats ps k).length ≤ k * M
  | 0, _ => by simp [cats]
  | k + 1, hk => by
    have h1 := cats_len ps n M h k (by omega)
    have h2 := h k (by omega)
    rw [cats, List.length_append, Nat.add_mul]
    omega

set_option maxHeartbeats 4000000 in
set_option maxRecDepth 100000 in
theorem bo_list (a : Option Addr) (len cap : Nat) (V : Vals) (ps : Nat → List UInt8) (w : World) (hlen : len ≤ 30) (hps : ∀ i, i < len → (ps i).length ≤ 4000000000000)
    (ha : 0 < len → ∃ b off, a = some ⟨b, off, none⟩ ∧ b < w.heap.size ∧ ListAt w b off len V)
    (hel : ∀ i, i < len → ∀ W, Below w.heap.size w W → Calls Tryd.prog 12 #[V.at i] W fun e w' => e = .returned (.string ⟨(ps i).toArray⟩) ∧ Below W.heap.size W w') :
    Calls Tryd.prog 12 #[.agg #[.int .i64 4, .int .i64 0, .string ⟨#[]⟩, .slice a len cap]] w fun e w' => e = .returned (.string ⟨(4 :: (hiB len 1 ++ cats ps len)).toArray⟩) ∧ Below w.heap.size w w' := by
  have HE := toHid hel
  have HA := toHid ha
  have HC := toHid (cats_len ps len _ hps)
  have HP := toHid hps
  clear hel ha hps
  have hwr : IntKind.u8.wrap (len : Int) = (len : Int) := by rw [IntKind.wrap_u8]; omega
  obtain ⟨cl, hcl, hcl2⟩ : ∃ c : UInt8, (len : Int) = (c.toNat : Int) ∧ hiB len 1 = [c] := ⟨UInt8.ofNat len, by simp; omega, by simp [hiB]⟩
  have HCL := toHid hcl
  have HCL2 := toHid hcl2
  clear hcl hcl2
  go_enter Tryd.func12, Tryd.ntmps12
  go_wp2_with fail
  refine (wb_first _ w 4 4 rfl).mono ?_
  rintro e w1 ⟨rfl, hb1, hx1, hB1, hs1⟩
  have x0 := cell_of hx1 0
  have x3 := cell_of hx1 3
  simp at x0 x3
  have HX := toHid hx1
  have HB := toHid hb1
  clear hx1 hb1
  go_wp2_with fail
  refine (wb_byte _ _ _ _ cl w1 HCL.out HB.out (by omega) (by simp)).mono ?_
  rintro e w2 ⟨rfl, hb2, hB2⟩
  have hs2 : w1.heap.size ≤ w2.heap.size := hB2.size
  have hB3 : Below w.heap.size w w2 := hB1.trans (hB2.mono (by omega))
  have hx2 : w2.heap[w.heap.size]? = some _ := (hB2.block _ (by omega)).trans HX.out
  have y3 := cell_of hx2 3
  simp at y3
  have HB2 := toHid hb2
  clear hb2 hB2 hx2
  go_wp2_with fail
  go_loopg [42] len (fun g s42 wr => ∃ (k : Nat), k ≤ len ∧ len - k ≤ g ∧ s42 = .int .i64 k ∧ Lib.IsBuffer BUF BE (w.heap.size + 1) (w.heap.size + 1) (Lib.byteCells ([4] ++ [cl] ++ cats ps k)) wr ∧ Below w.heap.size w wr ∧ w.heap.size + 2 ≤ wr.heap.size)
  case atStart => exact ⟨0, Nat.zero_le _, by omega, rfl, by simpa [cats] using HB2.out, hB3, by omega⟩
  case round =>
    clear HB2 hB3 y3
    obtain ⟨k, hk, hg, rfl, hb, hbw, hsz⟩ := hrel
    have HBW := toHid hb
    clear hb
    by_cases hlt : k < len
    · obtain ⟨b, off, ha, hb, hat⟩ := HA.out (by omega)
      subst ha
      obtain ⟨g0, g1, g2, g3⟩ := hat k hlt
      have hbc : ∀ o, wr.cell? ⟨b, o, none⟩ = w.cell? ⟨b, o, none⟩ := fun o => hbw.cell (p := ⟨b, o, none⟩) hb
      have d0 := (hbc _).trans g0
      have d1 := (hbc _).trans g1
      have d2 := (hbc _).trans g2
      have d3 := (hbc _).trans g3
      clear g0 g1 g2 g3 hbc hat
      go_wp2_with fail
      refine (HE.out k hlt _ (hbw.alloc (by omega) _)).mono ?_
      rintro e w4 ⟨rfl, hb4⟩
      have HB4 := toHid (buf_carry (HBW.out.alloc _) hb4)
      have hb5 : Below w.heap.size w w4 := (hbw.alloc (by omega) _).trans (hb4.mono (by simp; omega))
      have hs4 : wr.heap.size ≤ w4.heap.size := by have := hb4.size; simp at this; omega
      clear hb4
      go_wp2_with fail
      refine (wb_str _ _ _ _ w4 HB4.out (by omega) ?_).mono ?_
      · have h1 := HC.out k (by omega)
        have h2 := HP.out k hlt
        have h3 : k * 4000000000000 ≤ 30 * 4000000000000 := Nat.mul_le_mul_right _ (by omega)
        show ([4] ++ [cl] ++ cats ps k).length + (ps k).toArray.size ≤ _
        rw [List.length_append, List.size_toArray]
        simp only [List.length_append, List.length_singleton]
        omega
      rintro e w5 ⟨rfl, hb6, hB6⟩
      have HB6 := toHid hb6
      have hs5 : w4.heap.size ≤ w5.heap.size := hB6.size
      have hb7 : Below w.heap.size w w5 := hb5.trans (hB6.mono (by omega))
      clear hb6 hB6
      go_wp2_with fail
      go_roundg (len - (k + 1))
      case measure => omega
      case rel =>
        refine ⟨k + 1, by omega, by omega, by go_num, ?_, hb7, by omega⟩
        have := HB6.out
        rw [List.append_assoc] at this
        exact this
    · have hkk : k = len := by omega
      have HK := toHid hkk
      clear hkk
      go_wp2_with fail
      refine (Tryd.Buffer_String _ _ _ wr HBW.out).mono ?_
      rintro e w5 ⟨rfl, m, rfl⟩
      go_wp2_with fail
      go_ret
      refine ⟨?_, hbw.trans (drew_below m _ wr)⟩
      rw [HCL2.out, HK.out]
      rfl

/-- A value at the front of bytes, so deep at the most, whatever Check says of it; and the bytes behind it. -/
def ub : Nat → List UInt8 → Option (T × List UInt8)
  | 0, _ => none
  | _ + 1, [] => none
  | d + 1, c :: b =>
    if c = 0 then some (.node 0 0 ⟨#[]⟩ [], b)
    else if c = 1 then (if 8 ≤ b.length then some (.node 1 (dn (ofHi (b.take 8))) ⟨#[]⟩ [], b.drop 8) else none)
    else if c = 2 then (if 8 ≤ b.length then some (.node 2 (dn (ofHi (b.take 8))) ⟨#[]⟩ [], b.drop 8) else none)
    else if c = 3 then (if 2 ≤ b.length ∧ 2 + ofHi (b.take 2) ≤ b.length then some (.node 3 0 ⟨((b.drop 2).take (ofHi (b.take 2))).toArray⟩ [], b.drop (2 + ofHi (b.take 2))) else none)
    else if c = 4 then (if 1 ≤ b.length then (match vds (ub d) (ofHi (b.take 1)) (b.drop 1) with | none => none | some (ts, R) => some (.node 4 0 ⟨#[]⟩ ts, R)) else none)
    else none

theorem hiB_ofHi_u (l : List UInt8) : ∀ k, k ≤ l.length → hiB (ofHi (l.take k)) k = l.take k
  | 0, _ => by simp [hiB]
  | k + 1, h => by
    have hc := l[k].toNat_lt
    rw [hiB_last, ofHi_take l k h, List.take_succ_eq_append_getElem h]
    congr 1
    · rw [show (ofHi (l.take k) * 256 + l[k].toNat) / 256 = ofHi (l.take k) from by omega]
      exact hiB_ofHi_u l k (by omega)
    · congr 1
      apply UInt8.toNat_inj.1
      rw [UInt8.toNat_ofNat']
      omega

theorem hiB_dn (b : List UInt8) (h : 8 ≤ b.length) : hiB (up (dn (ofHi (b.take 8)))) 8 ++ b.drop 8 = b := by
  have : up (dn (ofHi (b.take 8))) = ofHi (b.take 8) := by unfold up dn; omega
  rw [this, hiB_ofHi_u b 8 h, List.take_append_drop]

theorem text_back (b : List UInt8) (h : 2 ≤ b.length) (h2 : 2 + ofHi (b.take 2) ≤ b.length) : bT (.node 3 0 ⟨((b.drop 2).take (ofHi (b.take 2))).toArray⟩ []) ++ b.drop (2 + ofHi (b.take 2)) = 3 :: b := by
  have hsz : (⟨((b.drop 2).take (ofHi (b.take 2))).toArray⟩ : ByteArray).size = ofHi (b.take 2) := by
    rw [text_sz, List.length_take, List.length_drop]; omega
  have e : bT (.node 3 0 ⟨((b.drop 2).take (ofHi (b.take 2))).toArray⟩ []) = 3 :: (hiB (⟨((b.drop 2).take (ofHi (b.take 2))).toArray⟩ : ByteArray).size 2 ++ (b.drop 2).take (ofHi (b.take 2))) := by unfold bT; simp
  rw [e, hsz, hiB_ofHi_u b 2 h, List.cons_append, List.append_assoc, ← List.drop_drop, List.take_append_drop, List.take_append_drop]

theorem vds_back (f : List UInt8 → Option (T × List UInt8)) (P : T → Prop) (hf : ∀ b t R, f b = some (t, R) → P t ∧ b = bT t ++ R) : ∀ n b ts R, vds f n b = some (ts, R) → (∀ t ∈ ts, P t) ∧ ts.length = n ∧ b = bL ts ++ R
  | 0, b, ts, R, h => by
    simp only [vds, Option.some.injEq, Prod.mk.injEq] at h
    obtain ⟨rfl, rfl⟩ := h
    exact ⟨(fun t ht => by cases ht), rfl, by simp [bL]⟩
  | n + 1, b, ts, R, h => by
    rw [vds] at h
    cases e1 : f b with
    | none => rw [e1] at h; simp at h
    | some x =>
      obtain ⟨t, R1⟩ := x
      rw [e1] at h
      simp only at h
      cases e2 : vds f n R1 with
      | none => rw [e2] at h; simp at h
      | some y =>
        obtain ⟨ts', R2⟩ := y
        rw [e2] at h
        simp only [Option.some.injEq, Prod.mk.injEq] at h
        obtain ⟨rfl, rfl⟩ := h
        obtain ⟨g1, g2⟩ := hf b t R1 e1
        obtain ⟨g3, g4, g5⟩ := vds_back f P hf n R1 ts' R2 e2
        refine ⟨fun u hu => ?_, by simp [g4], by rw [g2, g5, bL_cons, List.append_assoc]⟩
        rcases List.mem_cons.1 hu with rfl | hu
        · exact g1
        · exact g3 u hu

theorem list_back (b : List UInt8) (ts : List T) (R : List UInt8) (h : 1 ≤ b.length) (hl : ts.length = ofHi (b.take 1)) (hb : b.drop 1 = bL ts ++ R) : bT (.node 4 0 ⟨#[]⟩ ts) ++ R = 4 :: b := by
  rw [bT_list, hl, hiB_ofHi_u b 1 h, List.cons_append, List.append_assoc, ← hb, List.take_append_drop]

theorem num_back (c : UInt8) (hc : c = 1 ∨ c = 2) (b : List UInt8) (h : 8 ≤ b.length) : bT (.node (c.toNat : Int) (dn (ofHi (b.take 8))) ⟨#[]⟩ []) ++ b.drop 8 = c :: b := by
  have := hiB_dn b h
  rcases hc with rfl | rfl
  · have e : bT (.node 1 (dn (ofHi (b.take 8))) ⟨#[]⟩ []) = 1 :: hiB (up (dn (ofHi (b.take 8)))) 8 := by unfold bT; rfl
    show bT (.node 1 (dn (ofHi (b.take 8))) ⟨#[]⟩ []) ++ b.drop 8 = 1 :: b
    rw [e, List.cons_append, this]
  · have e : bT (.node 2 (dn (ofHi (b.take 8))) ⟨#[]⟩ []) = 2 :: hiB (up (dn (ofHi (b.take 8)))) 8 := by unfold bT; rfl
    show bT (.node 2 (dn (ofHi (b.take 8))) ⟨#[]⟩ []) ++ b.drop 8 = 2 :: b
    rw [e, List.cons_append, this]

/-- What the other reader takes off are the bytes of the value. -/
theorem ub_back : ∀ d b t R, ub d b = some (t, R) → b = bT t ++ R := by
  intro d
  induction d with
  | zero => intro b t R h; simp [ub] at h
  | succ d ih =>
    intro b t R h
    cases b with
    | nil => simp [ub] at h
    | cons c b =>
      rw [ub] at h
      split at h
      · simp only [Option.some.injEq, Prod.mk.injEq] at h
        obtain ⟨rfl, rfl⟩ := h
        rename_i hc
        subst hc
        unfold bT
        rfl
      · split at h
        · split at h
          · simp only [Option.some.injEq, Prod.mk.injEq] at h
            obtain ⟨rfl, rfl⟩ := h
            rename_i hc h8
            subst hc
            exact (num_back 1 (.inl rfl) b h8).symm
          · simp at h
        · split at h
          · split at h
            · simp only [Option.some.injEq, Prod.mk.injEq] at h
              obtain ⟨rfl, rfl⟩ := h
              rename_i hc h8
              subst hc
              exact (num_back 2 (.inr rfl) b h8).symm
            · simp at h
          · split at h
            · split at h
              · simp only [Option.some.injEq, Prod.mk.injEq] at h
                obtain ⟨rfl, rfl⟩ := h
                rename_i hc h8
                subst hc
                exact (text_back b h8.1 h8.2).symm
              · simp at h
            · split at h
              · split at h
                · rename_i hc h1
                  subst hc
                  cases e : vds (ub d) (ofHi (b.take 1)) (b.drop 1) with
                  | none => rw [e] at h; simp at h
                  | some x =>
                    obtain ⟨ts, R1⟩ := x
                    rw [e] at h
                    simp only [Option.some.injEq, Prod.mk.injEq] at h
                    obtain ⟨rfl, rfl⟩ := h
                    obtain ⟨_, g2, g3⟩ := vds_back (ub d) (fun _ => True) (fun b t R h => ⟨trivial, ih b t R h⟩) _ _ _ _ e
                    exact (list_back b ts R1 h1 g2 g3).symm
                · simp at h
              · simp at h

/-- What the code's reader reads is as the document has it, and its bytes are those that it took off. -/
theorem vd_back : ∀ d b t R, d ≤ 6 → vd d b = some (t, R) → Ck d t ∧ b = bT t ++ R := by
  have head : ∀ lists d b x R, hd lists b = some (x, R) → (x.k ≠ 4 → x.i = 0 ∧ Ck d (.node x.k x.n ⟨x.s.toArray⟩ []) ∧ b = bT (.node x.k x.n ⟨x.s.toArray⟩ []) ++ R) ∧ (x.k = 4 → x.n = 0 ∧ x.s = [] ∧ lists < 6 ∧ ∃ b', b = 4 :: b' ∧ 1 ≤ b'.length ∧ x.i = ofHi (b'.take 1) ∧ x.i ≤ 30 ∧ R = b'.drop 1) := by
    intro lists d b x R h
    cases b with
    | nil => simp [hd] at h
    | cons c b =>
      rw [hd] at h
      split at h
      · simp only [Option.some.injEq, Prod.mk.injEq] at h
        obtain ⟨rfl, rfl⟩ := h
        rename_i hc
        subst hc
        exact ⟨fun _ => ⟨rfl, .null d, by unfold bT; rfl⟩, fun h => absurd h (by decide)⟩
      · split at h
        · split at h
          · simp only [Option.some.injEq, Prod.mk.injEq] at h
            obtain ⟨rfl, rfl⟩ := h
            rename_i hc h8
            subst hc
            exact ⟨fun _ => ⟨rfl, .bool d _ h8.2, (num_back 1 (.inl rfl) b h8.1).symm⟩, fun h => absurd (show (1 : Int) = 4 from h) (by decide)⟩
          · simp at h
        · split at h
          · split at h
            · simp only [Option.some.injEq, Prod.mk.injEq] at h
              obtain ⟨rfl, rfl⟩ := h
              rename_i hc h8
              subst hc
              have h9 := ofHi_eight (b.take 8) (by rw [List.length_take]; omega)
              have h10 : -9223372036854775808 ≤ dn (ofHi (b.take 8)) ∧ dn (ofHi (b.take 8)) ≤ 9223372036854775807 := by unfold dn; omega
              exact ⟨fun _ => ⟨rfl, .int d _ h10.1 h10.2, (num_back 2 (.inr rfl) b h8).symm⟩, fun h => absurd (show (2 : Int) = 4 from h) (by decide)⟩
            · simp at h
          · split at h
            · split at h
              · simp only [Option.some.injEq, Prod.mk.injEq] at h
                obtain ⟨rfl, rfl⟩ := h
                rename_i hc h8
                subst hc
                refine ⟨fun _ => ⟨rfl, .text d _ ?_ ?_, (text_back b h8.1 h8.2.1).symm⟩, fun h => absurd (show (3 : Int) = 4 from h) (by decide)⟩
                · rw [text_sz, List.length_take]; omega
                · simpa using h8.2.2.2
              · simp at h
            · split at h
              · split at h
                · simp only [Option.some.injEq, Prod.mk.injEq] at h
                  obtain ⟨rfl, rfl⟩ := h
                  rename_i hc h8
                  subst hc
                  exact ⟨fun h => absurd rfl h, fun _ => ⟨rfl, rfl, h8.2.2, b, rfl, h8.1, rfl, h8.2.1, rfl⟩⟩
                · simp at h
              · simp at h
  intro d
  induction d with
  | zero =>
    intro b t R _ h
    rw [vd] at h
    cases e : hd 6 b with
    | none => rw [e] at h; simp at h
    | some y =>
      obtain ⟨x, R1⟩ := y
      rw [e] at h
      simp only [Option.some.injEq, Prod.mk.injEq] at h
      obtain ⟨rfl, rfl⟩ := h
      obtain ⟨h1, h2⟩ := head 6 0 b x R1 e
      by_cases h4 : x.k = 4
      · have := (h2 h4).2.2.1; omega
      · exact (h1 h4).2
  | succ d ih =>
    intro b t R hd6 h
    rw [vd] at h
    cases e : hd (6 - (d + 1)) b with
    | none => rw [e] at h; simp at h
    | some y =>
      obtain ⟨x, R1⟩ := y
      rw [e] at h
      simp only at h
      obtain ⟨h1, h2⟩ := head (6 - (d + 1)) (d + 1) b x R1 e
      cases e2 : vds (vd d) x.i R1 with
      | none => rw [e2] at h; simp at h
      | some z =>
        obtain ⟨ts, R2⟩ := z
        rw [e2] at h
        simp only [Option.some.injEq, Prod.mk.injEq] at h
        obtain ⟨rfl, rfl⟩ := h
        by_cases h4 : x.k = 4
        · obtain ⟨g1, g2, _, b', rfl, g5, g6, g7, rfl⟩ := h2 h4
          obtain ⟨q1, q2, q3⟩ := vds_back (vd d) (Ck d) (fun b t R h => ih b t R (by omega) h) _ _ _ _ e2
          rw [h4, g1, g2]
          refine ⟨.list d ts (by omega) q1, (list_back b' ts R2 g5 (by omega) q3).symm⟩
        · obtain ⟨g1, g2, g3⟩ := h1 h4
          rw [g1] at e2
          simp only [vds, Option.some.injEq, Prod.mk.injEq] at e2
          obtain ⟨rfl, rfl⟩ := e2
          exact ⟨g2, g3⟩

/-- The bytes of a value as the document has it are read by the other reader too. -/
theorem ub_bT : ∀ (d : Nat) (t : T), Ck d t → ∀ D, d < D → ∀ R, ub D (bT t ++ R) = some (t, R) := by
  have flat : ∀ (d : Nat) (t : T), Ck d t → (∀ k n s L, t = .node k n s L → k ≠ 4) → ∀ D R, ub (D + 1) (bT t ++ R) = some (t, R) := by
    intro d t ht h4 D R
    cases ht with
    | null d => unfold bT; simp [ub]
    | bool d m h =>
      have hm := dn_up m (by omega) (by omega)
      have e : bT (.node 1 m ⟨#[]⟩ []) ++ R = 1 :: (hiB (up m) 8 ++ R) := by unfold bT; rfl
      rw [e, ub, if_neg (by decide), if_pos rfl, List.take_left' (hiB_length _ _), List.drop_left' (hiB_length _ _), hm, if_pos (by simp [hiB_length])]
    | int d m h0 h1 =>
      have hm := dn_up m h0 h1
      have e : bT (.node 2 m ⟨#[]⟩ []) ++ R = 2 :: (hiB (up m) 8 ++ R) := by unfold bT; rfl
      rw [e, ub, if_neg (by decide), if_neg (by decide), if_pos rfl, List.take_left' (hiB_length _ _), List.drop_left' (hiB_length _ _), hm, if_pos (by simp [hiB_length])]
    | text d u h0 h1 =>
      have e : bT (.node 3 0 u []) ++ R = 3 :: (hiB u.size 2 ++ (u.data.toList ++ R)) := by unfold bT; simp
      have hm : ofHi (hiB u.size 2) = u.size := ofHi_hiB _ _ (Nat.lt_of_le_of_lt h0 (by decide))
      have hlen : u.data.toList.length = u.size := by simp
      rw [e, ub, if_neg (by decide), if_neg (by decide), if_neg (by decide), if_pos rfl, List.take_left' (hiB_length _ _), hm, List.drop_left' (hiB_length _ _), List.take_left' hlen, if_pos ⟨by simp [hiB_length], by simp [hiB_length]⟩]
      rw [← List.append_assoc, List.drop_left' (by rw [List.length_append, hiB_length, hlen]), data_back]
    | list d M h0 h1 => exact absurd rfl (h4 4 0 ⟨#[]⟩ M rfl)
  intro d
  induction d with
  | zero =>
    intro t ht D hD R
    obtain ⟨D', rfl⟩ : ∃ D', D = D' + 1 := ⟨D - 1, by omega⟩
    exact flat 0 t ht (fun k n s L e h => by subst h; subst e; cases ht) D' R
  | succ d ih =>
    intro t ht D hD R
    obtain ⟨D', rfl⟩ : ∃ D', D = D' + 1 := ⟨D - 1, by omega⟩
    by_cases h4 : ∃ L, t = .node 4 0 ⟨#[]⟩ L ∧ L.length ≤ 30 ∧ ∀ u ∈ L, Ck d u
    · obtain ⟨L, rfl, hl, hck⟩ := h4
      have hm : ofHi (hiB L.length 1) = L.length := ofHi_hiB _ _ (by omega)
      have e2 : ∀ M : List T, (∀ u ∈ M, Ck d u) → vds (ub D') M.length (bL M ++ R) = some (M, R) := by
        intro M
        induction M with
        | nil => intro _; simp [vds, bL]
        | cons u us ihM =>
          intro hM
          rw [List.length_cons, vds]
          have : bL (u :: us) ++ R = bT u ++ (bL us ++ R) := by rw [bL_cons, List.append_assoc]
          rw [this, ih u (hM u (List.mem_cons_self ..)) D' (by omega)]
          simp only
          rw [ihM (fun y hy => hM y (List.mem_cons_of_mem _ hy))]
      rw [bT_list, List.cons_append, List.append_assoc, ub, if_neg (by decide), if_neg (by decide), if_neg (by decide), if_neg (by decide), if_pos rfl, List.take_left' (hiB_length _ _), hm, List.drop_left' (hiB_length _ _), if_pos (by simp [hiB_length]), e2 L hck]
    · exact flat (d + 1) t ht (fun k n s L e h => by
        subst h; subst e
        cases ht with
        | list d M h0 h1 => exact h4 ⟨_, rfl, h0, h1⟩) D' R

/-- The two readers, the other's value checked, agree. -/
theorem readers (b : List UInt8) : (∀ t R, vd 6 b = some (t, R) → ub 8 b = some (t, R) ∧ Ck 6 t) ∧ (∀ t R, ub 8 b = some (t, R) → Ck 6 t → vd 6 b = some (t, R)) := by
  refine ⟨fun t R h => ?_, fun t R h hc => ?_⟩
  · obtain ⟨h1, h2⟩ := vd_back 6 b t R (by omega) h
    exact ⟨by rw [h2]; exact ub_bT 6 t h1 8 (by omega) R, h1⟩
  · rw [ub_back 8 b t R h]
    exact vd_bT 6 t hc (by omega) R

theorem rest_of (s : ByteArray) (c : UInt8) (b : List UInt8) (hs : s.data.toList = c :: b) : (s.extract 1 s.size).data.toList = b ∧ (s.extract 1 s.size).size = b.length := by
  have h : (s.extract 1 s.size).data.toList = b := by
    rw [ByteArray.data_extract, Array.toList_extract, hs]
    have : s.size = b.length + 1 := by have := congrArg List.length hs; simpa using this
    rw [this]; simp
  refine ⟨h, ?_⟩
  have := congrArg List.length h
  simpa using this

/-- It gives up. -/
def UnNo (w : World) (e : Ending) (w' : World) : Prop := (∃ y : Got, e = .returned (.tuple #[.agg #[.int .i64 y.k, .int .i64 y.n, .string y.s, .slice y.a y.l y.c], .string ⟨#[]⟩, .bool false])) ∧ Below w.heap.size w w'

/-- It reads a value. -/
def UnYes (w : World) (t : T) (R : List UInt8) (e : Ending) (w' : World) : Prop := ∃ (y : Got) (r : ByteArray), e = .returned (.tuple #[.agg #[.int .i64 y.k, .int .i64 y.n, .string y.s, .slice y.a y.l y.c], .string r, .bool true]) ∧ y.tree = t ∧ r.data.toList = R ∧ y.ok (fun i => w.heap.size ≤ i) w' ∧ Below w.heap.size w w'

set_option maxHeartbeats 4000000 in
set_option maxRecDepth 100000 in
theorem un_null (s : ByteArray) (deep : Int) (w : World) (c : UInt8) (b : List UInt8) (hs : s.data.toList = c :: b) (hd0 : 1 ≤ deep) (hd1 : deep ≤ 8) (hsz : s.size ≤ 140737488355328) (hK : c = 0) :
    Calls Tryd.prog 33 #[.string s, .int .i64 deep] w fun e w' => UnYes w (.node 0 0 ⟨#[]⟩ []) b e w' := by
  have hnl : s.toList.isEmpty = false := by rw [ByteArray.toList_eq, hs]; rfl
  have hdd : ¬ (8 : Int) < deep := by omega
  have hlen : s.size = b.length + 1 := by have := congrArg List.length hs; simpa using this
  have hpos : 0 < s.size := by omega
  have hi1 : (1 : Int) ≤ (s.size : Int) := by omega
  have h0 : s[0]'hpos = c := by
    have : s.data.toList[0]? = some c := by rw [hs]; rfl
    have h2 : s.data[0]? = some c := by simpa using this
    obtain ⟨_, h3⟩ := Array.getElem?_eq_some_iff.1 h2
    exact h3
  obtain ⟨r1, r2⟩ := rest_of s c b hs
  have hcn := c.toNat_lt
  have hw1 : IntKind.i64.wrap (c.toNat : Int) = (c.toNat : Int) := by rw [IntKind.wrap_i64]; omega
  have hb0 : ∀ o, Below w.heap.size w (w.alloc o).drew := fun o => ((Below.refl _ _).alloc (Nat.le_refl _) _).drew
  have HB0 := toHid hb0
  have HS := toHid hs
  have HLEN := toHid hlen
  have hk0 : ((c.toNat : Int) == 0) = true := by rw [hK]; rfl
  have hk1 : ((c.toNat : Int) == 1) = false := by rw [hK]; rfl
  have hk2 : ((c.toNat : Int) == 2) = false := by rw [hK]; rfl
  have hk3 : ((c.toNat : Int) == 3) = false := by rw [hK]; rfl
  have hk4 : ((c.toNat : Int) == 4) = false := by rw [hK]; rfl
  have HK := toHid hK
  clear hK
  clear hb0 hs hlen
  go_enter Tryd.func33, Tryd.ntmps33
  go_wp2_with fail
  go_region_held3 (fun _ => True) (trivial) (fail)
  generalize s.extract 1 s.size = s1 at r1 r2 ⊢
  have R1 := toHid r1
  have R2 := toHid r2
  have W0 := toHid hw1
  clear r1 hi1
  clear r2
  go_wp2_with fail
  refine bodyPost_ret (v := .tuple #[.agg #[.int .i64 c.toNat, .int .i64 0, .string ⟨#[]⟩, .slice none 0 0], .string s1, .bool true]) (by simp [results, Tryd.results33, go_sem]) rfl ?_
  exact ⟨⟨c.toNat, 0, ⟨#[]⟩, [], none, 0, 0⟩, s1, rfl, by rw [HK.out]; rfl, R1.out, ⟨(by show (0 : Nat) ≤ _; omega), Nat.le_refl 0, by unfold LieA; rfl⟩, HB0.out _⟩

set_option maxHeartbeats 4000000 in
set_option maxRecDepth 100000 in
theorem un_other (s : ByteArray) (deep : Int) (w : World) (c : UInt8) (b : List UInt8) (hs : s.data.toList = c :: b) (hd0 : 1 ≤ deep) (hd1 : deep ≤ 8) (hsz : s.size ≤ 140737488355328) (hK : 4 < c.toNat) :
    Calls Tryd.prog 33 #[.string s, .int .i64 deep] w fun e w' => UnNo w e w' := by
  have hnl : s.toList.isEmpty = false := by rw [ByteArray.toList_eq, hs]; rfl
  have hdd : ¬ (8 : Int) < deep := by omega
  have hlen : s.size = b.length + 1 := by have := congrArg List.length hs; simpa using this
  have hpos : 0 < s.size := by omega
  have hi1 : (1 : Int) ≤ (s.size : Int) := by omega
  have h0 : s[0]'hpos = c := by
    have : s.data.toList[0]? = some c := by rw [hs]; rfl
    have h2 : s.data[0]? = some c := by simpa using this
    obtain ⟨_, h3⟩ := Array.getElem?_eq_some_iff.1 h2
    exact h3
  obtain ⟨r1, r2⟩ := rest_of s c b hs
  have hcn := c.toNat_lt
  have hw1 : IntKind.i64.wrap (c.toNat : Int) = (c.toNat : Int) := by rw [IntKind.wrap_i64]; omega
  have hb0 : ∀ o, Below w.heap.size w (w.alloc o).drew := fun o => ((Below.refl _ _).alloc (Nat.le_refl _) _).drew
  have HB0 := toHid hb0
  have HS := toHid hs
  have HLEN := toHid hlen
  have hk0 : ((c.toNat : Int) == 0) = false := by simp only [beq_eq_false_iff_ne, ne_eq]; omega
  have hk1 : ((c.toNat : Int) == 1) = false := by simp only [beq_eq_false_iff_ne, ne_eq]; omega
  have hk2 : ((c.toNat : Int) == 2) = false := by simp only [beq_eq_false_iff_ne, ne_eq]; omega
  have hk3 : ((c.toNat : Int) == 3) = false := by simp only [beq_eq_false_iff_ne, ne_eq]; omega
  have hk4 : ((c.toNat : Int) == 4) = false := by simp only [beq_eq_false_iff_ne, ne_eq]; omega
  have HK := toHid hK
  clear hK
  clear hb0 hs hlen
  go_enter Tryd.func33, Tryd.ntmps33
  go_wp2_with fail
  go_region_held3 (fun _ => True) (trivial) (fail)
  generalize s.extract 1 s.size = s1 at r1 r2 ⊢
  have R1 := toHid r1
  have R2 := toHid r2
  have W0 := toHid hw1
  clear r1 hi1
  clear r2
  go_wp2_with fail
  refine bodyPost_ret (v := .tuple #[.agg #[.int .i64 c.toNat, .int .i64 0, .string ⟨#[]⟩, .slice none 0 0], .string ⟨#[]⟩, .bool false]) (by simp [results, Tryd.results33, go_sem]) rfl ?_
  exact ⟨⟨⟨c.toNat, 0, ⟨#[]⟩, [], none, 0, 0⟩, rfl⟩, HB0.out _⟩

set_option maxHeartbeats 4000000 in
set_option maxRecDepth 100000 in
theorem un_num1_cut (s : ByteArray) (deep : Int) (w : World) (c : UInt8) (b : List UInt8) (hs : s.data.toList = c :: b) (hd0 : 1 ≤ deep) (hd1 : deep ≤ 8) (hsz : s.size ≤ 140737488355328) (hK : c = 1) (h8 : b.length < 8) :
    Calls Tryd.prog 33 #[.string s, .int .i64 deep] w fun e w' => UnNo w e w' := by
  have hnl : s.toList.isEmpty = false := by rw [ByteArray.toList_eq, hs]; rfl
  have hdd : ¬ (8 : Int) < deep := by omega
  have hlen : s.size = b.length + 1 := by have := congrArg List.length hs; simpa using this
  have hpos : 0 < s.size := by omega
  have hi1 : (1 : Int) ≤ (s.size : Int) := by omega
  have h0 : s[0]'hpos = c := by
    have : s.data.toList[0]? = some c := by rw [hs]; rfl
    have h2 : s.data[0]? = some c := by simpa using this
    obtain ⟨_, h3⟩ := Array.getElem?_eq_some_iff.1 h2
    exact h3
  obtain ⟨r1, r2⟩ := rest_of s c b hs
  have hcn := c.toNat_lt
  have hw1 : IntKind.i64.wrap (c.toNat : Int) = (c.toNat : Int) := by rw [IntKind.wrap_i64]; omega
  have hb0 : ∀ o, Below w.heap.size w (w.alloc o).drew := fun o => ((Below.refl _ _).alloc (Nat.le_refl _) _).drew
  have HB0 := toHid hb0
  have HS := toHid hs
  have HLEN := toHid hlen
  have hk0 : ((c.toNat : Int) == 0) = false := by rw [hK]; rfl
  have hk1 : ((c.toNat : Int) == 1) = true := by rw [hK]; rfl
  have hk2 : ((c.toNat : Int) == 2) = false := by rw [hK]; rfl
  have hk3 : ((c.toNat : Int) == 3) = false := by rw [hK]; rfl
  have hk4 : ((c.toNat : Int) == 4) = false := by rw [hK]; rfl
  have HK := toHid hK
  clear hK
  clear hb0 hs hlen
  go_enter Tryd.func33, Tryd.ntmps33
  go_wp2_with fail
  go_region_held3 (fun _ => True) (trivial) (fail)
  generalize s.extract 1 s.size = s1 at r1 r2 ⊢
  have R1 := toHid r1
  have R2 := toHid r2
  have W0 := toHid hw1
  clear r1 hi1
  have h9 : (s1.size : Int) < 8 := by omega
  clear r2
  go_wp2_with fail
  refine bodyPost_ret (v := .tuple #[.agg #[.int .i64 c.toNat, .int .i64 0, .string ⟨#[]⟩, .slice none 0 0], .string ⟨#[]⟩, .bool false]) (by simp [results, Tryd.results33, go_sem]) rfl ?_
  exact ⟨⟨⟨c.toNat, 0, ⟨#[]⟩, [], none, 0, 0⟩, rfl⟩, HB0.out _⟩

set_option maxHeartbeats 4000000 in
set_option maxRecDepth 100000 in
theorem un_num2_cut (s : ByteArray) (deep : Int) (w : World) (c : UInt8) (b : List UInt8) (hs : s.data.toList = c :: b) (hd0 : 1 ≤ deep) (hd1 : deep ≤ 8) (hsz : s.size ≤ 140737488355328) (hK : c = 2) (h8 : b.length < 8) :
    Calls Tryd.prog 33 #[.string s, .int .i64 deep] w fun e w' => UnNo w e w' := by
  have hnl : s.toList.isEmpty = false := by rw [ByteArray.toList_eq, hs]; rfl
  have hdd : ¬ (8 : Int) < deep := by omega
  have hlen : s.size = b.length + 1 := by have := congrArg List.length hs; simpa using this
  have hpos : 0 < s.size := by omega
  have hi1 : (1 : Int) ≤ (s.size : Int) := by omega
  have h0 : s[0]'hpos = c := by
    have : s.data.toList[0]? = some c := by rw [hs]; rfl
    have h2 : s.data[0]? = some c := by simpa using this
    obtain ⟨_, h3⟩ := Array.getElem?_eq_some_iff.1 h2
    exact h3
  obtain ⟨r1, r2⟩ := rest_of s c b hs
  have hcn := c.toNat_lt
  have hw1 : IntKind.i64.wrap (c.toNat : Int) = (c.toNat : Int) := by rw [IntKind.wrap_i64]; omega
  have hb0 : ∀ o, Below w.heap.size w (w.alloc o).drew := fun o => ((Below.refl _ _).alloc (Nat.le_refl _) _).drew
  have HB0 := toHid hb0
  have HS := toHid hs
  have HLEN := toHid hlen
  have hk0 : ((c.toNat : Int) == 0) = false := by rw [hK]; rfl
  have hk1 : ((c.toNat : Int) == 1) = false := by rw [hK]; rfl
  have hk2 : ((c.toNat : Int) == 2) = true := by rw [hK]; rfl
  have hk3 : ((c.toNat : Int) == 3) = false := by rw [hK]; rfl
  have hk4 : ((c.toNat : Int) == 4) = false := by rw [hK]; rfl
  have HK := toHid hK
  clear hK
  clear hb0 hs hlen
  go_enter Tryd.func33, Tryd.ntmps33
  go_wp2_with fail
  go_region_held3 (fun _ => True) (trivial) (fail)
  generalize s.extract 1 s.size = s1 at r1 r2 ⊢
  have R1 := toHid r1
  have R2 := toHid r2
  have W0 := toHid hw1
  clear r1 hi1
  have h9 : (s1.size : Int) < 8 := by omega
  clear r2
  go_wp2_with fail
  refine bodyPost_ret (v := .tuple #[.agg #[.int .i64 c.toNat, .int .i64 0, .string ⟨#[]⟩, .slice none 0 0], .string ⟨#[]⟩, .bool false]) (by simp [results, Tryd.results33, go_sem]) rfl ?_
  exact ⟨⟨⟨c.toNat, 0, ⟨#[]⟩, [], none, 0, 0⟩, rfl⟩, HB0.out _⟩

set_option maxHeartbeats 4000000 in
set_option maxRecDepth 100000 in
theorem un_list_cut (s : ByteArray) (deep : Int) (w : World) (c : UInt8) (b : List UInt8) (hs : s.data.toList = c :: b) (hd0 : 1 ≤ deep) (hd1 : deep ≤ 8) (hsz : s.size ≤ 140737488355328) (hK : c = 4) (h1 : b = []) :
    Calls Tryd.prog 33 #[.string s, .int .i64 deep] w fun e w' => UnNo w e w' := by
  have hnl : s.toList.isEmpty = false := by rw [ByteArray.toList_eq, hs]; rfl
  have hdd : ¬ (8 : Int) < deep := by omega
  have hlen : s.size = b.length + 1 := by have := congrArg List.length hs; simpa using this
  have hpos : 0 < s.size := by omega
  have hi1 : (1 : Int) ≤ (s.size : Int) := by omega
  have h0 : s[0]'hpos = c := by
    have : s.data.toList[0]? = some c := by rw [hs]; rfl
    have h2 : s.data[0]? = some c := by simpa using this
    obtain ⟨_, h3⟩ := Array.getElem?_eq_some_iff.1 h2
    exact h3
  obtain ⟨r1, r2⟩ := rest_of s c b hs
  have hcn := c.toNat_lt
  have hw1 : IntKind.i64.wrap (c.toNat : Int) = (c.toNat : Int) := by rw [IntKind.wrap_i64]; omega
  have hb0 : ∀ o, Below w.heap.size w (w.alloc o).drew := fun o => ((Below.refl _ _).alloc (Nat.le_refl _) _).drew
  have HB0 := toHid hb0
  have HS := toHid hs
  have HLEN := toHid hlen
  have hk0 : ((c.toNat : Int) == 0) = false := by rw [hK]; rfl
  have hk1 : ((c.toNat : Int) == 1) = false := by rw [hK]; rfl
  have hk2 : ((c.toNat : Int) == 2) = false := by rw [hK]; rfl
  have hk3 : ((c.toNat : Int) == 3) = false := by rw [hK]; rfl
  have hk4 : ((c.toNat : Int) == 4) = true := by rw [hK]; rfl
  have HK := toHid hK
  clear hK
  clear hb0 hs hlen
  go_enter Tryd.func33, Tryd.ntmps33
  go_wp2_with fail
  go_region_held3 (fun _ => True) (trivial) (fail)
  generalize s.extract 1 s.size = s1 at r1 r2 ⊢
  have R1 := toHid r1
  have R2 := toHid r2
  have W0 := toHid hw1
  clear r1 hi1
  have h9 : s1.toList.isEmpty = true := by rw [ByteArray.toList_eq, R1.out, h1]; rfl
  clear r2
  go_wp2_with fail
  refine bodyPost_ret (v := .tuple #[.agg #[.int .i64 c.toNat, .int .i64 0, .string ⟨#[]⟩, .slice none 0 0], .string ⟨#[]⟩, .bool false]) (by simp [results, Tryd.results33, go_sem]) rfl ?_
  exact ⟨⟨⟨c.toNat, 0, ⟨#[]⟩, [], none, 0, 0⟩, rfl⟩, HB0.out _⟩

set_option maxHeartbeats 4000000 in
set_option maxRecDepth 100000 in
theorem un_text_cut (s : ByteArray) (deep : Int) (w : World) (c : UInt8) (b : List UInt8) (hs : s.data.toList = c :: b) (hd0 : 1 ≤ deep) (hd1 : deep ≤ 8) (hsz : s.size ≤ 140737488355328) (hK : c = 3) (h2 : b.length < 2) :
    Calls Tryd.prog 33 #[.string s, .int .i64 deep] w fun e w' => UnNo w e w' := by
  have hnl : s.toList.isEmpty = false := by rw [ByteArray.toList_eq, hs]; rfl
  have hdd : ¬ (8 : Int) < deep := by omega
  have hlen : s.size = b.length + 1 := by have := congrArg List.length hs; simpa using this
  have hpos : 0 < s.size := by omega
  have hi1 : (1 : Int) ≤ (s.size : Int) := by omega
  have h0 : s[0]'hpos = c := by
    have : s.data.toList[0]? = some c := by rw [hs]; rfl
    have h2 : s.data[0]? = some c := by simpa using this
    obtain ⟨_, h3⟩ := Array.getElem?_eq_some_iff.1 h2
    exact h3
  obtain ⟨r1, r2⟩ := rest_of s c b hs
  have hcn := c.toNat_lt
  have hw1 : IntKind.i64.wrap (c.toNat : Int) = (c.toNat : Int) := by rw [IntKind.wrap_i64]; omega
  have hb0 : ∀ o, Below w.heap.size w (w.alloc o).drew := fun o => ((Below.refl _ _).alloc (Nat.le_refl _) _).drew
  have HB0 := toHid hb0
  have HS := toHid hs
  have HLEN := toHid hlen
  have hk0 : ((c.toNat : Int) == 0) = false := by rw [hK]; rfl
  have hk1 : ((c.toNat : Int) == 1) = false := by rw [hK]; rfl
  have hk2 : ((c.toNat : Int) == 2) = false := by rw [hK]; rfl
  have hk3 : ((c.toNat : Int) == 3) = true := by rw [hK]; rfl
  have hk4 : ((c.toNat : Int) == 4) = false := by rw [hK]; rfl
  have HK := toHid hK
  clear hK
  clear hb0 hs hlen
  go_enter Tryd.func33, Tryd.ntmps33
  go_wp2_with fail
  go_region_held3 (fun _ => True) (trivial) (fail)
  generalize s.extract 1 s.size = s1 at r1 r2 ⊢
  have R1 := toHid r1
  have R2 := toHid r2
  have W0 := toHid hw1
  clear r1 hi1
  have h9 : (s1.size : Int) < 2 := by omega
  clear r2
  go_wp2_with fail
  refine bodyPost_ret (v := .tuple #[.agg #[.int .i64 c.toNat, .int .i64 0, .string ⟨#[]⟩, .slice none 0 0], .string ⟨#[]⟩, .bool false]) (by simp [results, Tryd.results33, go_sem]) rfl ?_
  exact ⟨⟨⟨c.toNat, 0, ⟨#[]⟩, [], none, 0, 0⟩, rfl⟩, HB0.out _⟩

set_option maxHeartbeats 4000000 in
set_option maxRecDepth 100000 in
theorem un_num1_ok (s : ByteArray) (deep : Int) (w : World) (c : UInt8) (b : List UInt8) (hs : s.data.toList = c :: b) (hd0 : 1 ≤ deep) (hd1 : deep ≤ 8) (hsz : s.size ≤ 140737488355328) (hK : c = 1) (h8 : 8 ≤ b.length) :
    Calls Tryd.prog 33 #[.string s, .int .i64 deep] w fun e w' => UnYes w (.node 1 (dn (ofHi (b.take 8))) ⟨#[]⟩ []) (b.drop 8) e w' := by
  have hnl : s.toList.isEmpty = false := by rw [ByteArray.toList_eq, hs]; rfl
  have hdd : ¬ (8 : Int) < deep := by omega
  have hlen : s.size = b.length + 1 := by have := congrArg List.length hs; simpa using this
  have hpos : 0 < s.size := by omega
  have hi1 : (1 : Int) ≤ (s.size : Int) := by omega
  have h0 : s[0]'hpos = c := by
    have : s.data.toList[0]? = some c := by rw [hs]; rfl
    have h2 : s.data[0]? = some c := by simpa using this
    obtain ⟨_, h3⟩ := Array.getElem?_eq_some_iff.1 h2
    exact h3
  obtain ⟨r1, r2⟩ := rest_of s c b hs
  have hcn := c.toNat_lt
  have hw1 : IntKind.i64.wrap (c.toNat : Int) = (c.toNat : Int) := by rw [IntKind.wrap_i64]; omega
  have hb0 : ∀ o, Below w.heap.size w (w.alloc o).drew := fun o => ((Below.refl _ _).alloc (Nat.le_refl _) _).drew
  have HB0 := toHid hb0
  have HS := toHid hs
  have HLEN := toHid hlen
  have hk0 : ((c.toNat : Int) == 0) = false := by rw [hK]; rfl
  have hk1 : ((c.toNat : Int) == 1) = true := by rw [hK]; rfl
  have hk2 : ((c.toNat : Int) == 2) = false := by rw [hK]; rfl
  have hk3 : ((c.toNat : Int) == 3) = false := by rw [hK]; rfl
  have hk4 : ((c.toNat : Int) == 4) = false := by rw [hK]; rfl
  have HK := toHid hK
  clear hK
  clear hb0 hs hlen
  go_enter Tryd.func33, Tryd.ntmps33
  go_wp2_with fail
  go_region_held3 (fun _ => True) (trivial) (fail)
  generalize s.extract 1 s.size = s1 at r1 r2 ⊢
  have R1 := toHid r1
  have R2 := toHid r2
  have W0 := toHid hw1
  clear r1 hi1
  have h9 : ¬ (s1.size : Int) < 8 := by omega
  have hi8 : (8 : Int) ≤ (s1.size : Int) := by omega
  have hn8 : 8 ≤ s1.size := by omega
  have d8 : (s1.extract 0 8).data.toList = b.take 8 := by
    rw [ByteArray.data_extract, Array.toList_extract, R1.out]; simp
  have e8 : (s1.extract 8 s1.size).data.toList = b.drop 8 := by
    rw [ByteArray.data_extract, Array.toList_extract, R1.out, r2]; simp [List.take_of_length_le]
  have E8 := toHid e8
  have hX9 := ofHi_eight (b.take 8) (by rw [List.length_take]; omega)
  have cO : Hid (∀ W, Calls Tryd.prog 40 #[.string (s1.extract 0 8)] W fun e w' => e = .returned (.int .u64 (ofHi (b.take 8))) ∧ w' = W) := fun W => by
    have := ofHigh_any (s1.extract 0 8) W (by rw [ByteArray.size_extract]; omega)
    rw [d8] at this
    exact this
  obtain ⟨X, hX⟩ : ∃ X, X = ofHi (b.take 8) := ⟨_, rfl⟩
  rw [← hX] at cO hX9
  have hx := u64_xor_nat X 9223372036854775808 hX9 (by omega)
  rw [xor_high X hX9] at hx
  obtain ⟨Y, hY⟩ : ∃ Y, Y = (X + 9223372036854775808) % 18446744073709551616 := ⟨_, rfl⟩
  rw [← hY] at hx
  have hx' : bits .xor .u64 (X : Int) 9223372036854775808 = (Y : Int) := hx
  have hy : IntKind.i64.wrap (Y : Int) = dn X := by rw [IntKind.wrap_i64]; unfold dn; omega
  have HXX := toHid hX
  clear r2 hX hY hx d8 e8
  go_wp2_with fail
  refine (cO.out _).mono ?_
  rintro e w2 ⟨rfl, rfl⟩
  go_wp2_with fail
  go_region_held3 (fun w' => w'.cell? ⟨w.heap.size, 0, none⟩ = some (.int .i64 c.toNat) ∧ w'.cell? ⟨w.heap.size, 1, none⟩ = some (.int .i64 (dn X)) ∧ w'.cell? ⟨w.heap.size, 2, none⟩ = some (.string ⟨#[]⟩) ∧ w'.cell? ⟨w.heap.size, 3, none⟩ = some (.slice none 0 0)) (first | go_keep) (fail)
  go_wp2_with fail
  refine bodyPost_ret (v := .tuple #[.agg #[.int .i64 c.toNat, .int .i64 (dn X), .string ⟨#[]⟩, .slice none 0 0], .string (s1.extract 8 s1.size), .bool true]) (by simp [results, Tryd.results33, go_sem]) rfl ?_
  exact ⟨⟨c.toNat, dn X, ⟨#[]⟩, [], none, 0, 0⟩, _, rfl, by rw [HK.out, HXX.out]; rfl, E8.out, ⟨(by show (0 : Nat) ≤ _; omega), Nat.le_refl 0, by unfold LieA; rfl⟩, (HB0.out _).drew⟩

set_option maxHeartbeats 4000000 in
set_option maxRecDepth 100000 in
theorem un_num2_ok (s : ByteArray) (deep : Int) (w : World) (c : UInt8) (b : List UInt8) (hs : s.data.toList = c :: b) (hd0 : 1 ≤ deep) (hd1 : deep ≤ 8) (hsz : s.size ≤ 140737488355328) (hK : c = 2) (h8 : 8 ≤ b.length) :
    Calls Tryd.prog 33 #[.string s, .int .i64 deep] w fun e w' => UnYes w (.node 2 (dn (ofHi (b.take 8))) ⟨#[]⟩ []) (b.drop 8) e w' := by
  have hnl : s.toList.isEmpty = false := by rw [ByteArray.toList_eq, hs]; rfl
  have hdd : ¬ (8 : Int) < deep := by omega
  have hlen : s.size = b.length + 1 := by have := congrArg List.length hs; simpa using this
  have hpos : 0 < s.size := by omega
  have hi1 : (1 : Int) ≤ (s.size : Int) := by omega
  have h0 : s[0]'hpos = c := by
    have : s.data.toList[0]? = some c := by rw [hs]; rfl
    have h2 : s.data[0]? = some c := by simpa using this
    obtain ⟨_, h3⟩ := Array.getElem?_eq_some_iff.1 h2
    exact h3
  obtain ⟨r1, r2⟩ := rest_of s c b hs
  have hcn := c.toNat_lt
  have hw1 : IntKind.i64.wrap (c.toNat : Int) = (c.toNat : Int) := by rw [IntKind.wrap_i64]; omega
  have hb0 : ∀ o, Below w.heap.size w (w.alloc o).drew := fun o => ((Below.refl _ _).alloc (Nat.le_refl _) _).drew
  have HB0 := toHid hb0
  have HS := toHid hs
  have HLEN := toHid hlen
  have hk0 : ((c.toNat : Int) == 0) = false := by rw [hK]; rfl
  have hk1 : ((c.toNat : Int) == 1) = false := by rw [hK]; rfl
  have hk2 : ((c.toNat : Int) == 2) = true := by rw [hK]; rfl
  have hk3 : ((c.toNat : Int) == 3) = false := by rw [hK]; rfl
  have hk4 : ((c.toNat : Int) == 4) = false := by rw [hK]; rfl
  have HK := toHid hK
  clear hK
  clear hb0 hs hlen
  go_enter Tryd.func33, Tryd.ntmps33
  go_wp2_with fail
  go_region_held3 (fun _ => True) (trivial) (fail)
  generalize s.extract 1 s.size = s1 at r1 r2 ⊢
  have R1 := toHid r1
  have R2 := toHid r2
  have W0 := toHid hw1
  clear r1 hi1
  have h9 : ¬ (s1.size : Int) < 8 := by omega
  have hi8 : (8 : Int) ≤ (s1.size : Int) := by omega
  have hn8 : 8 ≤ s1.size := by omega
  have d8 : (s1.extract 0 8).data.toList = b.take 8 := by
    rw [ByteArray.data_extract, Array.toList_extract, R1.out]; simp
  have e8 : (s1.extract 8 s1.size).data.toList = b.drop 8 := by
    rw [ByteArray.data_extract, Array.toList_extract, R1.out, r2]; simp [List.take_of_length_le]
  have E8 := toHid e8
  have hX9 := ofHi_eight (b.take 8) (by rw [List.length_take]; omega)
  have cO : Hid (∀ W, Calls Tryd.prog 40 #[.string (s1.extract 0 8)] W fun e w' => e = .returned (.int .u64 (ofHi (b.take 8))) ∧ w' = W) := fun W => by
    have := ofHigh_any (s1.extract 0 8) W (by rw [ByteArray.size_extract]; omega)
    rw [d8] at this
    exact this
  obtain ⟨X, hX⟩ : ∃ X, X = ofHi (b.take 8) := ⟨_, rfl⟩
  rw [← hX] at cO hX9
  have hx := u64_xor_nat X 9223372036854775808 hX9 (by omega)
  rw [xor_high X hX9] at hx
  obtain ⟨Y, hY⟩ : ∃ Y, Y = (X + 9223372036854775808) % 18446744073709551616 := ⟨_, rfl⟩
  rw [← hY] at hx
  have hx' : bits .xor .u64 (X : Int) 9223372036854775808 = (Y : Int) := hx
  have hy : IntKind.i64.wrap (Y : Int) = dn X := by rw [IntKind.wrap_i64]; unfold dn; omega
  have HXX := toHid hX
  clear r2 hX hY hx d8 e8
  go_wp2_with fail
  refine (cO.out _).mono ?_
  rintro e w2 ⟨rfl, rfl⟩
  go_wp2_with fail
  go_region_held3 (fun w' => w'.cell? ⟨w.heap.size, 0, none⟩ = some (.int .i64 c.toNat) ∧ w'.cell? ⟨w.heap.size, 1, none⟩ = some (.int .i64 (dn X)) ∧ w'.cell? ⟨w.heap.size, 2, none⟩ = some (.string ⟨#[]⟩) ∧ w'.cell? ⟨w.heap.size, 3, none⟩ = some (.slice none 0 0)) (first | go_keep) (fail)
  go_wp2_with fail
  refine bodyPost_ret (v := .tuple #[.agg #[.int .i64 c.toNat, .int .i64 (dn X), .string ⟨#[]⟩, .slice none 0 0], .string (s1.extract 8 s1.size), .bool true]) (by simp [results, Tryd.results33, go_sem]) rfl ?_
  exact ⟨⟨c.toNat, dn X, ⟨#[]⟩, [], none, 0, 0⟩, _, rfl, by rw [HK.out, HXX.out]; rfl, E8.out, ⟨(by show (0 : Nat) ≤ _; omega), Nat.le_refl 0, by unfold LieA; rfl⟩, (HB0.out _).drew⟩

set_option maxHeartbeats 4000000 in
set_option maxRecDepth 100000 in
theorem un_text_bad (s : ByteArray) (deep : Int) (w : World) (c : UInt8) (b : List UInt8) (hs : s.data.toList = c :: b) (hd0 : 1 ≤ deep) (hd1 : deep ≤ 8) (hsz : s.size ≤ 140737488355328) (hK : c = 3) (b0 b1 : UInt8) (b' : List UInt8) (hb : b = b0 :: b1 :: b') (h2 : ¬ 2 + ofHi (b.take 2) ≤ b.length) :
    Calls Tryd.prog 33 #[.string s, .int .i64 deep] w fun e w' => UnNo w e w' := by
  have hnl : s.toList.isEmpty = false := by rw [ByteArray.toList_eq, hs]; rfl
  have hdd : ¬ (8 : Int) < deep := by omega
  have hlen : s.size = b.length + 1 := by have := congrArg List.length hs; simpa using this
  have hpos : 0 < s.size := by omega
  have hi1 : (1 : Int) ≤ (s.size : Int) := by omega
  have h0 : s[0]'hpos = c := by
    have : s.data.toList[0]? = some c := by rw [hs]; rfl
    have h2 : s.data[0]? = some c := by simpa using this
    obtain ⟨_, h3⟩ := Array.getElem?_eq_some_iff.1 h2
    exact h3
  obtain ⟨r1, r2⟩ := rest_of s c b hs
  have hcn := c.toNat_lt
  have hw1 : IntKind.i64.wrap (c.toNat : Int) = (c.toNat : Int) := by rw [IntKind.wrap_i64]; omega
  have hb0 : ∀ o, Below w.heap.size w (w.alloc o).drew := fun o => ((Below.refl _ _).alloc (Nat.le_refl _) _).drew
  have HB0 := toHid hb0
  have HS := toHid hs
  have HLEN := toHid hlen
  have hk0 : ((c.toNat : Int) == 0) = false := by rw [hK]; rfl
  have hk1 : ((c.toNat : Int) == 1) = false := by rw [hK]; rfl
  have hk2 : ((c.toNat : Int) == 2) = false := by rw [hK]; rfl
  have hk3 : ((c.toNat : Int) == 3) = true := by rw [hK]; rfl
  have hk4 : ((c.toNat : Int) == 4) = false := by rw [hK]; rfl
  have HK := toHid hK
  clear hK
  clear hb0 hs hlen
  go_enter Tryd.func33, Tryd.ntmps33
  go_wp2_with fail
  go_region_held3 (fun _ => True) (trivial) (fail)
  generalize s.extract 1 s.size = s1 at r1 r2 ⊢
  have R1 := toHid r1
  have R2 := toHid r2
  have W0 := toHid hw1
  clear r1 hi1
  have h9 : ¬ (s1.size : Int) < 2 := by rw [hb] at r2; simp at r2; omega
  have q0 : 0 < s1.size := by omega
  have q1 : 1 < s1.size := by omega
  have hi2 : (2 : Int) ≤ (s1.size : Int) := by omega
  have g0 : s1[0]'q0 = b0 := by
    have : s1.data.toList[0]? = some b0 := by rw [R1.out, hb]; rfl
    have h2 : s1.data[0]? = some b0 := by simpa using this
    obtain ⟨_, h3⟩ := Array.getElem?_eq_some_iff.1 h2
    exact h3
  have g1 : s1[1]'q1 = b1 := by
    have : s1.data.toList[1]? = some b1 := by rw [R1.out, hb]; rfl
    have h2 : s1.data[1]? = some b1 := by simpa using this
    obtain ⟨_, h3⟩ := Array.getElem?_eq_some_iff.1 h2
    exact h3
  have l0 := b0.toNat_lt
  have l1 := b1.toNat_lt
  obtain ⟨N, hN⟩ : ∃ N, N = b0.toNat * 256 + b1.toNat := ⟨_, rfl⟩
  have hwA : IntKind.i64.wrap (b0.toNat : Int) = (b0.toNat : Int) := by rw [IntKind.wrap_i64]; omega
  have hwB : IntKind.i64.wrap (b1.toNat : Int) = (b1.toNat : Int) := by rw [IntKind.wrap_i64]; omega
  have hwM : IntKind.i64.wrap ((b0.toNat : Int) * 256) = (b0.toNat : Int) * 256 := by rw [IntKind.wrap_i64]; omega
  have hwS : IntKind.i64.wrap ((b0.toNat : Int) * 256 + (b1.toNat : Int)) = (N : Int) := by rw [IntKind.wrap_i64]; omega
  obtain ⟨M, hM⟩ : ∃ M, M = 2 + N := ⟨_, rfl⟩
  have hw2 : IntKind.i64.wrap (2 + (N : Int)) = (M : Int) := by rw [IntKind.wrap_i64]; omega
  have hM2 : 2 ≤ M := by omega
  have hM3 : (2 : Int) ≤ (M : Int) := by omega
  have hi3 : (1 : Int) < (s1.size : Int) := by omega
  have HM := toHid hM
  have hN2 : N ≤ 65535 := by omega
  have hof : ofHi (b.take 2) = N := by rw [hb, hN]; simp [ofHi]
  have HOF := toHid hof
  have HN := toHid hN
  have HB := toHid hb
  have h10 : (s1.size : Int) < (M : Int) := by omega
  clear r2 hof hN hb h2 hM
  go_wp2_with fail
  go_region_held3 (fun _ => True) (trivial) (fail)
  all_goals
    go_wp2_with fail
    refine bodyPost_ret (v := .tuple #[.agg #[.int .i64 c.toNat, .int .i64 0, .string ⟨#[]⟩, .slice none 0 0], .string ⟨#[]⟩, .bool false]) (by simp [results, Tryd.results33, go_sem]) rfl ?_
    exact ⟨⟨⟨c.toNat, 0, ⟨#[]⟩, [], none, 0, 0⟩, rfl⟩, (HB0.out _).drew⟩

set_option maxHeartbeats 4000000 in
set_option maxRecDepth 100000 in
theorem un_text_ok (s : ByteArray) (deep : Int) (w : World) (c : UInt8) (b : List UInt8) (hs : s.data.toList = c :: b) (hd0 : 1 ≤ deep) (hd1 : deep ≤ 8) (hsz : s.size ≤ 140737488355328) (hK : c = 3) (b0 b1 : UInt8) (b' : List UInt8) (hb : b = b0 :: b1 :: b') (h2 : 2 + ofHi (b.take 2) ≤ b.length) :
    Calls Tryd.prog 33 #[.string s, .int .i64 deep] w fun e w' => UnYes w (.node 3 0 ⟨((b.drop 2).take (ofHi (b.take 2))).toArray⟩ []) (b.drop (2 + ofHi (b.take 2))) e w' := by
  have hnl : s.toList.isEmpty = false := by rw [ByteArray.toList_eq, hs]; rfl
  have hdd : ¬ (8 : Int) < deep := by omega
  have hlen : s.size = b.length + 1 := by have := congrArg List.length hs; simpa using this
  have hpos : 0 < s.size := by omega
  have hi1 : (1 : Int) ≤ (s.size : Int) := by omega
  have h0 : s[0]'hpos = c := by
    have : s.data.toList[0]? = some c := by rw [hs]; rfl
    have h2 : s.data[0]? = some c := by simpa using this
    obtain ⟨_, h3⟩ := Array.getElem?_eq_some_iff.1 h2
    exact h3
  obtain ⟨r1, r2⟩ := rest_of s c b hs
  have hcn := c.toNat_lt
  have hw1 : IntKind.i64.wrap (c.toNat : Int) = (c.toNat : Int) := by rw [IntKind.wrap_i64]; omega
  have hb0 : ∀ o, Below w.heap.size w (w.alloc o).drew := fun o => ((Below.refl _ _).alloc (Nat.le_refl _) _).drew
  have HB0 := toHid hb0
  have HS := toHid hs
  have HLEN := toHid hlen
  have hk0 : ((c.toNat : Int) == 0) = false := by rw [hK]; rfl
  have hk1 : ((c.toNat : Int) == 1) = false := by rw [hK]; rfl
  have hk2 : ((c.toNat : Int) == 2) = false := by rw [hK]; rfl
  have hk3 : ((c.toNat : Int) == 3) = true := by rw [hK]; rfl
  have hk4 : ((c.toNat : Int) == 4) = false := by rw [hK]; rfl
  have HK := toHid hK
  clear hK
  clear hb0 hs hlen
  go_enter Tryd.func33, Tryd.ntmps33
  go_wp2_with fail
  go_region_held3 (fun _ => True) (trivial) (fail)
  generalize s.extract 1 s.size = s1 at r1 r2 ⊢
  have R1 := toHid r1
  have R2 := toHid r2
  have W0 := toHid hw1
  clear r1 hi1
  have h9 : ¬ (s1.size : Int) < 2 := by rw [hb] at r2; simp at r2; omega
  have q0 : 0 < s1.size := by omega
  have q1 : 1 < s1.size := by omega
  have hi2 : (2 : Int) ≤ (s1.size : Int) := by omega
  have g0 : s1[0]'q0 = b0 := by
    have : s1.data.toList[0]? = some b0 := by rw [R1.out, hb]; rfl
    have h2 : s1.data[0]? = some b0 := by simpa using this
    obtain ⟨_, h3⟩ := Array.getElem?_eq_some_iff.1 h2
    exact h3
  have g1 : s1[1]'q1 = b1 := by
    have : s1.data.toList[1]? = some b1 := by rw [R1.out, hb]; rfl
    have h2 : s1.data[1]? = some b1 := by simpa using this
    obtain ⟨_, h3⟩ := Array.getElem?_eq_some_iff.1 h2
    exact h3
  have l0 := b0.toNat_lt
  have l1 := b1.toNat_lt
  obtain ⟨N, hN⟩ : ∃ N, N = b0.toNat * 256 + b1.toNat := ⟨_, rfl⟩
  have hwA : IntKind.i64.wrap (b0.toNat : Int) = (b0.toNat : Int) := by rw [IntKind.wrap_i64]; omega
  have hwB : IntKind.i64.wrap (b1.toNat : Int) = (b1.toNat : Int) := by rw [IntKind.wrap_i64]; omega
  have hwM : IntKind.i64.wrap ((b0.toNat : Int) * 256) = (b0.toNat : Int) * 256 := by rw [IntKind.wrap_i64]; omega
  have hwS : IntKind.i64.wrap ((b0.toNat : Int) * 256 + (b1.toNat : Int)) = (N : Int) := by rw [IntKind.wrap_i64]; omega
  obtain ⟨M, hM⟩ : ∃ M, M = 2 + N := ⟨_, rfl⟩
  have hw2 : IntKind.i64.wrap (2 + (N : Int)) = (M : Int) := by rw [IntKind.wrap_i64]; omega
  have hM2 : 2 ≤ M := by omega
  have hM3 : (2 : Int) ≤ (M : Int) := by omega
  have hi3 : (1 : Int) < (s1.size : Int) := by omega
  have HM := toHid hM
  have hN2 : N ≤ 65535 := by omega
  have hof : ofHi (b.take 2) = N := by rw [hb, hN]; simp [ofHi]
  have HOF := toHid hof
  have HN := toHid hN
  have HB := toHid hb
  have h10 : ¬ (s1.size : Int) < (M : Int) := by omega
  have h11 : (M : Int) ≤ (s1.size : Int) := by omega
  have h12 : M ≤ s1.size := by omega
  have eA : (s1.extract 2 M).data.toList = (b.drop 2).take N := by
    rw [hM, ByteArray.data_extract, Array.toList_extract, R1.out]; simp
  have eB : (s1.extract M s1.size).data.toList = b.drop (2 + N) := by
    rw [hM, ByteArray.data_extract, Array.toList_extract, R1.out, r2]; simp [List.take_of_length_le]
  have EA := toHid eA
  have EB := toHid eB
  have hsz1 : s1.size ≤ 140737488355328 := by have := HLEN.out; omega
  clear r2 hof hN hb h2 hM eA eB
  go_wp2_with fail
  go_region_held3 (fun _ => True) (trivial) (fail)
  all_goals
    go_wp2_with fail
    go_region_held3 (fun w' => w'.cell? ⟨w.heap.size, 0, none⟩ = some (.int .i64 c.toNat) ∧ w'.cell? ⟨w.heap.size, 1, none⟩ = some (.int .i64 0) ∧ w'.cell? ⟨w.heap.size, 2, none⟩ = some (.string (s1.extract 2 M)) ∧ w'.cell? ⟨w.heap.size, 3, none⟩ = some (.slice none 0 0)) (first | go_keep) (fail)
    all_goals
      go_wp2_with fail
      refine bodyPost_ret (v := .tuple #[.agg #[.int .i64 c.toNat, .int .i64 0, .string (s1.extract 2 M), .slice none 0 0], .string (s1.extract M s1.size), .bool true]) (by simp [results, Tryd.results33, go_sem]) rfl ?_
      refine ⟨⟨c.toNat, 0, s1.extract 2 M, [], none, 0, 0⟩, _, rfl, ?_, ?_, ⟨?_, Nat.le_refl 0, by unfold LieA; rfl⟩, (HB0.out _).drew.drew⟩
      · rw [HK.out, HOF.out, ← EA.out, data_back]; rfl
      · rw [HOF.out]; exact EB.out
      · show (s1.extract 2 M).size ≤ _
        rw [ByteArray.size_extract]; omega

/-- What unbyte answers. -/
def UnOut (w : World) (o : Option (T × List UInt8)) (e : Ending) (w' : World) : Prop :=
  match o with
  | none => UnNo w e w'
  | some (t, R) => UnYes w t R e w'

def vdsGo (f : List UInt8 → Option (T × List UInt8)) (done : List T) (n : Nat) (b : List UInt8) : Option (List T × List UInt8) := (vds f n b).map fun x => (done ++ x.1, x.2)

theorem vdsGo_zero (f : List UInt8 → Option (T × List UInt8)) (done : List T) (b : List UInt8) : vdsGo f done 0 b = some (done, b) := by simp [vdsGo, vds]

theorem vdsGo_none {f : List UInt8 → Option (T × List UInt8)} {done : List T} {n : Nat} {b : List UInt8} (h : f b = none) : vdsGo f done (n + 1) b = none := by simp [vdsGo, vds, h]

theorem vdsGo_some {f : List UInt8 → Option (T × List UInt8)} {done : List T} {n : Nat} {b R : List UInt8} {t : T} (h : f b = some (t, R)) : vdsGo f done (n + 1) b = vdsGo f (done ++ [t]) n R := by
  simp only [vdsGo, vds, h]
  cases vds f n R with
  | none => rfl
  | some x => simp


set_option maxHeartbeats 4000000 in
set_option maxRecDepth 100000 in
theorem un_list (s : ByteArray) (deep : Int) (w : World) (c : UInt8) (b : List UInt8) (hs : s.data.toList = c :: b) (hd0 : 1 ≤ deep) (hd1 : deep ≤ 8) (hsz : s.size ≤ 140737488355328) (hK : c = 4) (n0 : UInt8) (b' : List UInt8) (hb : b = n0 :: b') (D : Nat) (hel : ∀ W (r : ByteArray), Below w.heap.size w W → r.size ≤ 140737488355328 → Calls Tryd.prog 33 #[.string r, .int .i64 (deep + 1)] W fun e w' => UnOut W (ub D r.data.toList) e w') :
    Calls Tryd.prog 33 #[.string s, .int .i64 deep] w fun e w' => UnOut w ((vdsGo (ub D) [] n0.toNat b').map fun x => (.node 4 0 ⟨#[]⟩ x.1, x.2)) e w' := by
  have hnl : s.toList.isEmpty = false := by rw [ByteArray.toList_eq, hs]; rfl
  have hdd : ¬ (8 : Int) < deep := by omega
  have hlen : s.size = b.length + 1 := by have := congrArg List.length hs; simpa using this
  have hpos : 0 < s.size := by omega
  have hi1 : (1 : Int) ≤ (s.size : Int) := by omega
  have h0 : s[0]'hpos = c := by
    have : s.data.toList[0]? = some c := by rw [hs]; rfl
    have h2 : s.data[0]? = some c := by simpa using this
    obtain ⟨_, h3⟩ := Array.getElem?_eq_some_iff.1 h2
    exact h3
  obtain ⟨r1, r2⟩ := rest_of s c b hs
  have hcn := c.toNat_lt
  have hw1 : IntKind.i64.wrap (c.toNat : Int) = (c.toNat : Int) := by rw [IntKind.wrap_i64]; omega
  have hb0 : ∀ o, Below w.heap.size w (w.alloc o).drew := fun o => ((Below.refl _ _).alloc (Nat.le_refl _) _).drew
  have HB0 := toHid hb0
  have HS := toHid hs
  have HLEN := toHid hlen
  have hk0 : ((c.toNat : Int) == 0) = false := by rw [hK]; rfl
  have hk1 : ((c.toNat : Int) == 1) = false := by rw [hK]; rfl
  have hk2 : ((c.toNat : Int) == 2) = false := by rw [hK]; rfl
  have hk3 : ((c.toNat : Int) == 3) = false := by rw [hK]; rfl
  have hk4 : ((c.toNat : Int) == 4) = true := by rw [hK]; rfl
  have HK := toHid hK
  clear hK
  clear hb0 hs hlen
  go_enter Tryd.func33, Tryd.ntmps33
  go_wp2_with fail
  go_region_held3 (fun _ => True) (trivial) (fail)
  generalize s.extract 1 s.size = s1 at r1 r2 ⊢
  have R1 := toHid r1
  have R2 := toHid r2
  have W0 := toHid hw1
  clear r1 hi1
  have h9 : s1.toList.isEmpty = false := by rw [ByteArray.toList_eq, R1.out, hb]; rfl
  have hl1 : s1.size = b'.length + 1 := by rw [r2, hb]; rfl
  have q0 : 0 < s1.size := by omega
  have hi2 : (1 : Int) ≤ (s1.size : Int) := by omega
  have g0 : s1[0]'q0 = n0 := by
    have : s1.data.toList[0]? = some n0 := by rw [R1.out, hb]; rfl
    have h2 : s1.data[0]? = some n0 := by simpa using this
    obtain ⟨_, h3⟩ := Array.getElem?_eq_some_iff.1 h2
    exact h3
  have l0 := n0.toNat_lt
  have hwA : IntKind.i64.wrap (n0.toNat : Int) = (n0.toNat : Int) := by rw [IntKind.wrap_i64]; omega
  have hwD : IntKind.i64.wrap (deep + 1) = deep + 1 := by rw [IntKind.wrap_i64]; omega
  obtain ⟨rr1, rr2⟩ := rest_of s1 n0 b' (by rw [R1.out, hb])
  have hss : s1.size ≤ 140737488355328 := by have := HLEN.out; have := R2.out; omega
  have HB := toHid hb
  have HEL := toHid hel
  obtain ⟨i0, hi0, hiz, his, hib⟩ := info_value
  have HI0 := toHid hi0
  have HIZ := toHid hiz
  have HIS := toHid his
  have HIB := toHid hib
  have RR2 := toHid rr2
  have hs2 : (s1.extract 1 s1.size).size ≤ 140737488355328 := by rw [rr2]; omega
  clear hi0 hiz his hib hb hel r2 hl1 rr2
  have hbx0 : ((w.alloc (.cells #[.int .i64 c.toNat, .int .i64 0, .string ⟨#[]⟩, .slice none 0 0] 24)).drew).heap[w.heap.size]? = some (.cells #[.int .i64 c.toNat, .int .i64 0, .string ⟨#[]⟩, .slice none 0 0] 24 (0, 0)) := alloc_new _ _
  have hbz0 : ((w.alloc (.cells #[.int .i64 c.toNat, .int .i64 0, .string ⟨#[]⟩, .slice none 0 0] 24)).drew).heap.size = w.heap.size + 1 := by simp
  have HBX0 := toHid hbx0
  have HBZ0 := toHid hbz0
  clear hbx0 hbz0
  go_wp2_with fail
  generalize s1.extract 1 s1.size = s2 at rr1 RR2 hs2 ⊢
  have hB00 := HB0.out (.cells #[.int .i64 c.toNat, .int .i64 0, .string ⟨#[]⟩, .slice none 0 0] 24)
  generalize (w.alloc (.cells #[.int .i64 c.toNat, .int .i64 0, .string ⟨#[]⟩, .slice none 0 0] 24)).drew = W0 at HBX0 HBZ0 hB00 ⊢
  go_loopg [0, 88] n0.toNat (fun g s0 s88 wr => ∃ (dn : List Got) (r : ByteArray) (ov : Value), dn.length ≤ n0.toNat ∧ n0.toNat - dn.length ≤ g ∧ s0 = .string r ∧ s88 = .int .i64 (dn.length : Int) ∧ vdsGo (ub D) [] n0.toNat b' = vdsGo (ub D) (dn.map Got.tree) (n0.toNat - dn.length) r.data.toList ∧ r.size ≤ 140737488355328 ∧ wr.heap[w.heap.size]? = some (.cells #[.int .i64 c.toNat, .int .i64 0, .string ⟨#[]⟩, ov] 24 (0, 0)) ∧ wr.ownsRow (w.heap.size + 1) 24 4 ov dn.length (rowG dn) ∧ (∀ x ∈ dn, x.ok (fun i => w.heap.size + 1 ≤ i ∧ ov.ownBlock ≠ some i) wr) ∧ Below w.heap.size w wr)
  case atStart => exact ⟨[], s2, .slice none 0 0, Nat.zero_le _, by simp, rfl, rfl, by rw [rr1]; simp, hs2, HBX0.out, World.ownsRow_nil _ _ _ _, (fun x hx => by cases hx), hB00⟩
  case round =>
    clear HBX0 HBZ0 hB00
    obtain ⟨dn, r, ov, hdn, hg, rfl, rfl, hgo, hrs, hbx, hown, hok, hbw⟩ := hrel
    have hsz1 : w.heap.size + 1 ≤ wr.heap.size := (Array.getElem?_eq_some_iff.1 hbx).1
    have c0 := cell_of hbx 0
    have c1 := cell_of hbx 1
    have c2 := cell_of hbx 2
    have c3 := cell_of hbx 3
    simp at c0 c1 c2 c3
    have HGO := toHid hgo
    have HBX := toHid hbx
    have HOWN := toHid hown
    have HOK := toHid hok
    clear hgo hbx hown hok
    by_cases hlt : dn.length < n0.toNat
    · have hlt' : (dn.length : Int) < (n0.toNat : Int) := by omega
      obtain ⟨m, hm⟩ : ∃ m, n0.toNat - dn.length = m + 1 := ⟨n0.toNat - dn.length - 1, by omega⟩
      have hc := HEL.out wr r hbw hrs
      have HC := toHid hc
      clear hc
      go_wp2_with fail
      refine HC.out.mono ?_
      intro e w2 hout
      cases hu : ub D r.data.toList with
      | none =>
        rw [hu] at hout
        obtain ⟨⟨y, rfl⟩, k2⟩ := hout
        have hs2 : wr.heap.size ≤ w2.heap.size := k2.size
        have hb2 := (k2.block w.heap.size (by omega)).trans HBX.out
        obtain ⟨ga, cap, hov⟩ : ∃ ga cap, ov = .slice ga dn.length cap := by
          rcases HOWN.out.2 with ⟨h0, h1⟩ | ⟨g, cap, cur, h0, _⟩
          · exact ⟨none, 0, by rw [h0, h1]⟩
          · exact ⟨_, cap, h0⟩
        subst hov
        have hlt2 : w.heap.size < w2.heap.size := by omega
        have hb3 : (w2.alloc (.cells #[.int .i64 y.k, .int .i64 y.n, .string y.s, .slice y.a y.l y.c] 24)).heap[w.heap.size]? = some (.cells #[.int .i64 c.toNat, .int .i64 0, .string ⟨#[]⟩, .slice ga dn.length cap] 24 (0, 0)) := (Below.heap_alloc _ _ _ hlt2).trans hb2
        have e0 := cell_of hb2 0
        have e1 := cell_of hb2 1
        have e2 := cell_of hb2 2
        have e3 := cell_of hb2 3
        simp at e0 e1 e2 e3
        have f0 := free_of hb2 0
        have f1 := free_of hb2 1
        have f2 := free_of hb2 2
        have f3 := free_of hb2 3
        have hps : (put4 w2 w.heap.size (.int .i64 c.toNat) (.int .i64 0) (.string ⟨#[]⟩) (.slice ga dn.length cap)).heap.size = w2.heap.size := by simp [put4, World.setCell]
        have E := (Below.heap_alloc (put4 w2 w.heap.size (.int .i64 c.toNat) (.int .i64 0) (.string ⟨#[]⟩) (.slice ga dn.length cap)) (.cells #[.int .i64 y.k, .int .i64 y.n, .string y.s, .slice y.a y.l y.c] 24) w.heap.size (by rw [hps]; exact hlt2)).trans (put4_here hb2 (.int .i64 c.toNat) (.int .i64 0) (.string ⟨#[]⟩) (.slice ga dn.length cap))
        have hbb : Below w.heap.size w ((put4 w2 w.heap.size (.int .i64 c.toNat) (.int .i64 0) (.string ⟨#[]⟩) (.slice ga dn.length cap)).alloc (.cells #[.int .i64 y.k, .int .i64 y.n, .string y.s, .slice y.a y.l y.c] 24)) := ((bel2 hbw k2).trans (put4_below _ _ _ _ _ _)).alloc (by rw [hps]; omega) _
        have HE := toHid E
        have HBB := toHid hbb
        have hpost : (vdsGo (ub D) [] n0.toNat b').map (fun x => (T.node 4 0 ⟨#[]⟩ x.1, x.2)) = none := by rw [HGO.out, hm, vdsGo_none hu]; rfl
        have HP := toHid hpost
        clear E hbb hb2 hb3 c0 c1 c2 c3 hpost hu k2 hps
        go_wp2_with fail
        have eP : ∀ X : World, (((X.setCell ⟨w.heap.size, 0, none⟩ (.int .i64 c.toNat)).setCell ⟨w.heap.size, 1, none⟩ (.int .i64 0)).setCell ⟨w.heap.size, 2, none⟩ (.string ⟨#[]⟩)).setCell ⟨w.heap.size, 3, none⟩ (.slice ga dn.length cap) = put4 X w.heap.size (.int .i64 c.toNat) (.int .i64 0) (.string ⟨#[]⟩) (.slice ga dn.length cap) := fun _ => rfl
        rw [eP]
        have E := HE.out
        have hbb := HBB.out
        clear HE HBB
        generalize (put4 w2 w.heap.size (.int .i64 c.toNat) (.int .i64 0) (.string ⟨#[]⟩) (.slice ga dn.length cap)).alloc (.cells #[.int .i64 y.k, .int .i64 y.n, .string y.s, .slice y.a y.l y.c] 24) = X at E hbb ⊢
        have t0 := cell_of E 0
        have t1 := cell_of E 1
        have t2 := cell_of E 2
        have t3 := cell_of E 3
        simp at t0 t1 t2 t3
        refine bodyPost_ret (v := .tuple #[.agg #[.int .i64 c.toNat, .int .i64 0, .string ⟨#[]⟩, .slice ga dn.length cap], .string ⟨#[]⟩, .bool false]) (by simp [results, Tryd.results33, go_sem, t0, t1, t2, t3]) rfl ?_
        rw [HP.out]
        exact ⟨⟨⟨c.toNat, 0, ⟨#[]⟩, [], ga, dn.length, cap⟩, rfl⟩, hbb⟩
      | some x =>
        obtain ⟨t, R⟩ := x
        rw [hu] at hout
        obtain ⟨y, r', rfl, hyt, hyr, hyo, k2⟩ := hout
        have hs2 : wr.heap.size ≤ w2.heap.size := k2.size
        have hb2 := (k2.block w.heap.size (by omega)).trans HBX.out
        have hlt2 : w.heap.size < w2.heap.size := by omega
        have e3 := cell_of hb2 3
        simp at e3
        have f3 := free_of hb2 3
        have hown2 : w2.ownsRow (w.heap.size + 1) 24 4 ov dn.length (rowG dn) := row_kept HOWN.out (fun k hk hk' => k2.block k hk')
        have HOWN2 := toHid hown2
        have HYO := toHid hyo
        have HB2 := toHid hb2
        have HYT := toHid hyt
        have HYR := toHid hyr
        have HU := toHid hu
        have hBB : (dn.length + 1) * 56 ≤ 140737488355328 := by omega
        have hBB2 : dn.length + 1 ≤ maxLen := by unfold maxLen; omega
        clear hown2 hyo hb2 hyt hyr hu c0 c1 c2 c3
        go_wp2_with (at_builtin; refine wpList_append_lies _ rfl _ _ 22 rfl (w.heap.size + 1) 24 i0 _ 4 56 Tryd.underlying22 HI0.out HIZ.out HIS.out HIB.out rfl (by omega) ov dn.length (rowG dn) rfl ((HOWN2.out.alloc _).alloc _) ⟨w2.heap.size + 1, 0, none⟩ 1 1 y.cells rfl rfl (World.news_of_block (cs := #[.int .i64 y.k, .int .i64 y.n, .string y.s, .slice y.a y.l y.c]) (t := 24) (fr := (0, 0)) (alloc_two w2 _ _)) (by simp [Got.cells, Value.oneCell']) (by omega) hBB2 hBB (by simp; omega) (w2.heap.size + 2) (by simp) ?_)
        intro gg cap w3 hown3 hgrow hat hlt3
        have hs3 : w2.heap.size + 2 ≤ w3.heap.size := by have := hgrow.size; simpa using this
        have hv3 : w3.heap[w.heap.size]? = some (.cells #[.int .i64 c.toNat, .int .i64 0, .string ⟨#[]⟩, ov] 24 (0, 0)) := by
          rw [hgrow.block _ (by simp; omega) (fun e => by have := row_block HOWN2.out _ e.symm; omega), Below.heap_alloc _ _ _ (by simp; omega), Below.heap_alloc _ _ _ (by omega)]
          exact HB2.out
        have g3 := free_of hv3 3
        have d3 := cell_of hv3 3
        simp at d3
        rw [← rowG_more] at hown3
        have hown4 := ownsRow_setCell_below hown3 (a := ⟨w.heap.size, 3, none⟩) (by show w.heap.size < w.heap.size + 1; omega) (.slice (some ⟨gg, 0, none⟩) (dn.length + 1) cap)
        have hv4 : (w3.setCell ⟨w.heap.size, 3, none⟩ (.slice (some ⟨gg, 0, none⟩) (dn.length + 1) cap)).heap[w.heap.size]? = some (.cells #[.int .i64 c.toNat, .int .i64 0, .string ⟨#[]⟩, .slice (some ⟨gg, 0, none⟩) (dn.length + 1) cap] 24 (0, 0)) := by
          simp [World.setCell, Array.getElem?_modify, hv3]
        have hrb : ∀ i, ov.ownBlock = some i → i < wr.heap.size := fun i hi => by
          rcases HOWN.out.2 with ⟨h0, _⟩ | ⟨g0, cap0, cur0, h0, _, h1, _⟩
          · rw [h0] at hi; simp [Value.ownBlock] at hi
          · rw [h0] at hi
            simp [Value.ownBlock] at hi
            subst hi
            exact (Array.getElem?_eq_some_iff.1 h1).1
        have hgg : ∀ i, i < w2.heap.size → ov.ownBlock ≠ some i → (Value.slice (some ⟨gg, 0, none⟩) (dn.length + 1) cap).ownBlock ≠ some i := fun i hi hne e => by
          simp [Value.ownBlock] at e
          rcases hat with h | h
          · rw [e] at h; exact hne h
          · omega
        have hset : ∀ i, w.heap.size + 1 ≤ i → i < w2.heap.size → ov.ownBlock ≠ some i → (w3.setCell ⟨w.heap.size, 3, none⟩ (.slice (some ⟨gg, 0, none⟩) (dn.length + 1) cap)).heap[i]? = w2.heap[i]? := fun i hi hi2 hne => by
          have e1 : (w3.setCell ⟨w.heap.size, 3, none⟩ (.slice (some ⟨gg, 0, none⟩) (dn.length + 1) cap)).heap[i]? = w3.heap[i]? := by
            have : ¬ w.heap.size = i := by omega
            simp [World.setCell, Array.getElem?_modify, this]
          rw [e1, hgrow.block i (by simp; omega) (fun e => hne e.symm), Below.heap_alloc _ _ _ (by simp; omega), Below.heap_alloc _ _ _ hi2]
        have hsz4 : w2.heap.size ≤ (w3.setCell ⟨w.heap.size, 3, none⟩ (.slice (some ⟨gg, 0, none⟩) (dn.length + 1) cap)).heap.size := by simp [World.setCell]; omega
        have got4 : ∀ z ∈ dn ++ [y], z.ok (fun i => w.heap.size + 1 ≤ i ∧ (Value.slice (some ⟨gg, 0, none⟩) (dn.length + 1) cap).ownBlock ≠ some i) (w3.setCell ⟨w.heap.size, 3, none⟩ (.slice (some ⟨gg, 0, none⟩) (dn.length + 1) cap)) := by
          intro z hz
          rcases List.mem_append.1 hz with hz | hz
          · refine (HOK.out z hz).kept (Nat.le_trans hs2 hsz4) (fun i hi hi2 => ⟨⟨hi.1, hgg i (by omega) hi.2⟩, (hset i hi.1 (by omega) hi.2).trans (k2.block i hi2)⟩)
          · obtain rfl := List.mem_singleton.1 hz
            refine HYO.out.kept hsz4 (fun i hi hi2 => ?_)
            have h1 : wr.heap.size ≤ i := hi
            have h2 : ov.ownBlock ≠ some i := fun e => by have := hrb i e; omega
            exact ⟨⟨by omega, hgg i hi2 h2⟩, hset i (by omega) hi2 h2⟩
        have hbw4 : Below w.heap.size w (w3.setCell ⟨w.heap.size, 3, none⟩ (.slice (some ⟨gg, 0, none⟩) (dn.length + 1) cap)) := ((bel2 hbw k2).trans ((((Below.refl _ _).alloc (by omega) _).alloc (by simp; omega) _).grown hgrow (by simp; omega) (fun k hk => by have := row_block HOWN2.out k hk; omega))).setCell (p := ⟨w.heap.size, 3, none⟩) (Nat.le_refl _) _
        have hgo4 : vdsGo (ub D) [] n0.toNat b' = vdsGo (ub D) ((dn ++ [y]).map Got.tree) (n0.toNat - (dn ++ [y]).length) r'.data.toList := by
          rw [HGO.out, hm, vdsGo_some HU.out, List.map_append, List.length_append, HYR.out]
          have : n0.toNat - (dn.length + [y].length) = m := by simp; omega
          rw [this]
          simp [HYT.out]
        have hrs4 : r'.size ≤ 140737488355328 := by
          have h1 := ub_back D _ _ _ HU.out
          have h2 := congrArg List.length h1
          rw [List.length_append, ← HYR.out] at h2
          have h3 : r.data.toList.length = r.size := by simp
          have h4 : r'.data.toList.length = r'.size := by simp
          omega
        have HREL := toHid (show ∃ (dn' : List Got) (r1 : ByteArray) (ov' : Value), dn'.length ≤ n0.toNat ∧ n0.toNat - dn'.length ≤ n0.toNat - (dn.length + 1) ∧ Value.string r' = .string r1 ∧ Value.int .i64 ((dn.length : Int) + 1) = .int .i64 (dn'.length : Int) ∧ vdsGo (ub D) [] n0.toNat b' = vdsGo (ub D) (dn'.map Got.tree) (n0.toNat - dn'.length) r1.data.toList ∧ r1.size ≤ 140737488355328 ∧ (w3.setCell ⟨w.heap.size, 3, none⟩ (.slice (some ⟨gg, 0, none⟩) (dn.length + 1) cap)).heap[w.heap.size]? = some (.cells #[.int .i64 c.toNat, .int .i64 0, .string ⟨#[]⟩, ov'] 24 (0, 0)) ∧ (w3.setCell ⟨w.heap.size, 3, none⟩ (.slice (some ⟨gg, 0, none⟩) (dn.length + 1) cap)).ownsRow (w.heap.size + 1) 24 4 ov' dn'.length (rowG dn') ∧ (∀ x ∈ dn', x.ok (fun i => w.heap.size + 1 ≤ i ∧ ov'.ownBlock ≠ some i) (w3.setCell ⟨w.heap.size, 3, none⟩ (.slice (some ⟨gg, 0, none⟩) (dn.length + 1) cap))) ∧ Below w.heap.size w (w3.setCell ⟨w.heap.size, 3, none⟩ (.slice (some ⟨gg, 0, none⟩) (dn.length + 1) cap)) from
          ⟨dn ++ [y], r', _, by simp; omega, by simp, rfl, by simp, hgo4, hrs4, hv4, by rw [List.length_append, List.length_singleton]; exact hown4, got4, hbw4⟩)
        clear got4 hset hgg hrb hsz4 hown4 hv4 hbw4 hgo4 hrs4 hown3 hgrow hat hlt3 HYO HB2 HOWN2 hv3
        go_wp2_with fail
        go_roundg (n0.toNat - (dn.length + 1))
        case measure => omega
        case rel => exact HREL.out
    · have hlt' : ¬ (dn.length : Int) < (n0.toNat : Int) := by omega
      obtain ⟨ga, cap, hov⟩ : ∃ ga cap, ov = .slice ga dn.length cap := by
        rcases HOWN.out.2 with ⟨h0, h1⟩ | ⟨g, cap, cur, h0, _⟩
        · exact ⟨none, 0, by rw [h0, h1]⟩
        · exact ⟨_, cap, h0⟩
      subst hov
      have f0 := free_of HBX.out 0
      have f1 := free_of HBX.out 1
      have f2 := free_of HBX.out 2
      have f3 := free_of HBX.out 3
      have E := put4_here HBX.out (.int .i64 c.toNat) (.int .i64 0) (.string ⟨#[]⟩) (.slice ga dn.length cap)
      have hbb : Below w.heap.size w (put4 wr w.heap.size (.int .i64 c.toNat) (.int .i64 0) (.string ⟨#[]⟩) (.slice ga dn.length cap)) := hbw.trans (put4_below _ _ _ _ _ _)
      have HE := toHid E
      have HBB := toHid hbb
      have hpost : (vdsGo (ub D) [] n0.toNat b').map (fun x => (T.node 4 0 ⟨#[]⟩ x.1, x.2)) = some (T.node 4 0 ⟨#[]⟩ (dn.map Got.tree), r.data.toList) := by rw [HGO.out, show n0.toNat - dn.length = 0 from by omega, vdsGo_zero]; rfl
      have HP := toHid hpost
      have hlies : LieA (fun i => w.heap.size ≤ i) (put4 wr w.heap.size (.int .i64 c.toNat) (.int .i64 0) (.string ⟨#[]⟩) (.slice ga dn.length cap)) (dn.map Got.tree) ga dn.length := by
        by_cases h0 : dn.length = 0
        · obtain rfl := List.length_eq_zero_iff.1 h0
          simp only [List.map_nil, List.length_nil]
          unfold LieA; rfl
        · obtain ⟨g, cap', hv, hg1, hg2⟩ := HOWN.out.form (by omega)
          injection hv with hv1 hv2 hv3
          subst hv1
          have hps : (put4 wr w.heap.size (.int .i64 c.toNat) (.int .i64 0) (.string ⟨#[]⟩) (.slice (some ⟨g, 0, none⟩) dn.length cap)).heap.size = wr.heap.size := by simp [put4, World.setCell]
          refine row_lies (by show w.heap.size ≤ g; omega) (by rw [hps]; exact hg2) dn 0 (fun x hx => ?_) (fun j u hj => ?_) (by omega)
          · refine (HOK.out x hx).kept (by rw [hps]; exact Nat.le_refl _) (fun i hi hi2 => ⟨?_, put4_other _ _ _ _ _ _ i ?_ hi2⟩)
            · have := hi.1; omega
            · have := hi.1; omega
          · have hc := HOWN.out.cells (g := g) rfl j u hj
            have hc' : wr.cell? ⟨g, j, none⟩ = some u := by
              by_cases h0 : j = 0
              · subst h0; simpa [Addr.add] using hc
              · simpa [Addr.add, h0] using hc
            rw [Nat.zero_add, World.cell?_of_block (a := ⟨g, j, none⟩) (put4_other wr w.heap.size _ _ _ _ g (by omega) hg2)]
            exact hc'
      have HL := toHid hlies
      have hcap : dn.length ≤ cap := by
        by_cases h0 : dn.length = 0
        · omega
        · rcases HOWN.out.2 with ⟨h0', h1⟩ | ⟨g, cap1, cur, h0', _, _, h4, _⟩
          · omega
          · injection h0' with _ _ h5
            subst h5
            exact h4
      clear E hbb hpost hlies
      go_wp2_with fail
      have eP : ∀ X : World, (((X.setCell ⟨w.heap.size, 0, none⟩ (.int .i64 c.toNat)).setCell ⟨w.heap.size, 1, none⟩ (.int .i64 0)).setCell ⟨w.heap.size, 2, none⟩ (.string ⟨#[]⟩)).setCell ⟨w.heap.size, 3, none⟩ (.slice ga dn.length cap) = put4 X w.heap.size (.int .i64 c.toNat) (.int .i64 0) (.string ⟨#[]⟩) (.slice ga dn.length cap) := fun _ => rfl
      rw [eP]
      have E := HE.out
      have hbb := HBB.out
      have hlies := HL.out
      clear HE HBB HL
      generalize put4 wr w.heap.size (.int .i64 c.toNat) (.int .i64 0) (.string ⟨#[]⟩) (.slice ga dn.length cap) = X at E hbb hlies ⊢
      have t0 := cell_of E 0
      have t1 := cell_of E 1
      have t2 := cell_of E 2
      have t3 := cell_of E 3
      simp at t0 t1 t2 t3
      refine bodyPost_ret (v := .tuple #[.agg #[.int .i64 c.toNat, .int .i64 0, .string ⟨#[]⟩, .slice ga dn.length cap], .string r, .bool true]) (by simp [results, Tryd.results33, go_sem, t0, t1, t2, t3]) rfl ?_
      rw [HP.out]
      exact ⟨⟨c.toNat, 0, ⟨#[]⟩, dn.map Got.tree, ga, dn.length, cap⟩, r, rfl, by rw [HK.out]; rfl, rfl, ⟨(by show (0 : Nat) ≤ _; omega), hcap, hlies⟩, hbb⟩

set_option maxHeartbeats 2000000 in
set_option maxRecDepth 100000 in
theorem un_none (s : ByteArray) (deep : Int) (w : World) (h : s = ⟨#[]⟩ ∨ 8 < deep) :
    Calls Tryd.prog 33 #[.string s, .int .i64 deep] w fun e w' => UnNo w e w' := by
  have hb0 : ∀ o, Below w.heap.size w (w.alloc o) := fun o => (Below.refl _ _).alloc (Nat.le_refl _) _
  have HB0 := toHid hb0
  clear hb0
  by_cases hs : s.toList.isEmpty = true
  · go_enter Tryd.func33, Tryd.ntmps33
    go_wp2_with fail
    refine bodyPost_ret (v := .tuple #[.agg #[.int .i64 0, .int .i64 0, .string ⟨#[]⟩, .slice none 0 0], .string ⟨#[]⟩, .bool false]) (by simp [results, Tryd.results33, go_sem]) rfl ?_
    exact ⟨⟨⟨0, 0, ⟨#[]⟩, [], none, 0, 0⟩, rfl⟩, HB0.out _⟩
  · have hs' : s.toList.isEmpty = false := by simpa using hs
    have hd : 8 < deep := by
      rcases h with h | h
      · subst h; exact absurd (by rw [ByteArray.toList_eq]; rfl) hs
      · exact h
    clear hs h
    go_enter Tryd.func33, Tryd.ntmps33
    go_wp2_with fail
    refine bodyPost_ret (v := .tuple #[.agg #[.int .i64 0, .int .i64 0, .string ⟨#[]⟩, .slice none 0 0], .string ⟨#[]⟩, .bool false]) (by simp [results, Tryd.results33, go_sem]) rfl ?_
    exact ⟨⟨⟨0, 0, ⟨#[]⟩, [], none, 0, 0⟩, rfl⟩, HB0.out _⟩

theorem vdsGo_nil (f : List UInt8 → Option (T × List UInt8)) (n : Nat) (b : List UInt8) : vdsGo f [] n b = vds f n b := by
  unfold vdsGo
  cases vds f n b with
  | none => rfl
  | some x => simp

theorem un_any : ∀ (D : Nat) (deep : Int), deep + D = 9 → 1 ≤ deep → ∀ (s : ByteArray) (w : World), s.size ≤ 140737488355328 → Calls Tryd.prog 33 #[.string s, .int .i64 deep] w fun e w' => UnOut w (ub D s.data.toList) e w' := by
  intro D
  induction D with
  | zero =>
    intro deep hd h1 s w hs
    exact un_none s deep w (.inr (by omega))
  | succ D ih =>
    intro deep hd h1 s w hs
    cases hb : s.data.toList with
    | nil =>
      have : s = ⟨#[]⟩ := by
        obtain ⟨d⟩ := s
        have : d = #[] := by simpa using hb
        rw [this]
      exact un_none s deep w (.inl this)
    | cons c b =>
      have hd8 : deep ≤ 8 := by omega
      by_cases h0 : c = 0
      · rw [show ub (D + 1) (c :: b) = some (.node 0 0 ⟨#[]⟩ [], b) from by rw [ub, if_pos h0]]
        exact un_null s deep w c b hb h1 hd8 hs h0
      by_cases h1' : c = 1
      · by_cases h8 : 8 ≤ b.length
        · rw [show ub (D + 1) (c :: b) = some (.node 1 (dn (ofHi (b.take 8))) ⟨#[]⟩ [], b.drop 8) from by rw [ub, if_neg h0, if_pos h1', if_pos h8]]
          exact un_num1_ok s deep w c b hb h1 hd8 hs h1' h8
        · rw [show ub (D + 1) (c :: b) = none from by rw [ub, if_neg h0, if_pos h1', if_neg h8]]
          exact un_num1_cut s deep w c b hb h1 hd8 hs h1' (by omega)
      by_cases h2 : c = 2
      · by_cases h8 : 8 ≤ b.length
        · rw [show ub (D + 1) (c :: b) = some (.node 2 (dn (ofHi (b.take 8))) ⟨#[]⟩ [], b.drop 8) from by rw [ub, if_neg h0, if_neg h1', if_pos h2, if_pos h8]]
          exact un_num2_ok s deep w c b hb h1 hd8 hs h2 h8
        · rw [show ub (D + 1) (c :: b) = none from by rw [ub, if_neg h0, if_neg h1', if_pos h2, if_neg h8]]
          exact un_num2_cut s deep w c b hb h1 hd8 hs h2 (by omega)
      by_cases h3 : c = 3
      · have e : ub (D + 1) (c :: b) = if 2 ≤ b.length ∧ 2 + ofHi (b.take 2) ≤ b.length then some (.node 3 0 ⟨((b.drop 2).take (ofHi (b.take 2))).toArray⟩ [], b.drop (2 + ofHi (b.take 2))) else none := by rw [ub, if_neg h0, if_neg h1', if_neg h2, if_pos h3]
        by_cases h8 : 2 ≤ b.length
        · obtain ⟨b0, b1, b', rfl⟩ : ∃ b0 b1 b', b = b0 :: b1 :: b' := by
            match b, h8 with
            | b0 :: b1 :: b', _ => exact ⟨b0, b1, b', rfl⟩
          by_cases h9 : 2 + ofHi ((b0 :: b1 :: b').take 2) ≤ (b0 :: b1 :: b').length
          · rw [e, if_pos ⟨h8, h9⟩]
            exact un_text_ok s deep w c _ hb h1 hd8 hs h3 b0 b1 b' rfl h9
          · rw [e, if_neg (fun h => h9 h.2)]
            exact un_text_bad s deep w c _ hb h1 hd8 hs h3 b0 b1 b' rfl h9
        · rw [e, if_neg (fun h => h8 h.1)]
          exact un_text_cut s deep w c b hb h1 hd8 hs h3 (by omega)
      by_cases h4 : c = 4
      · cases b with
        | nil =>
          rw [show ub (D + 1) (c :: []) = none from by rw [ub, if_neg h0, if_neg h1', if_neg h2, if_neg h3, if_pos h4, if_neg (by simp)]]
          exact un_list_cut s deep w c [] hb h1 hd8 hs h4 rfl
        | cons n0 b' =>
          have e1 : ofHi ((n0 :: b').take 1) = n0.toNat := by simp [ofHi]
          have e : ub (D + 1) (c :: n0 :: b') = (vdsGo (ub D) [] n0.toNat b').map fun x => (.node 4 0 ⟨#[]⟩ x.1, x.2) := by
            rw [ub, if_neg h0, if_neg h1', if_neg h2, if_neg h3, if_pos h4, if_pos (by simp), e1, vdsGo_nil]
            show (match vds (ub D) n0.toNat b' with | none => none | some (ts, R) => some (T.node 4 0 ⟨#[]⟩ ts, R)) = _
            cases vds (ub D) n0.toNat b' with
            | none => rfl
            | some x => rfl
          rw [e]
          exact un_list s deep w c (n0 :: b') hb h1 hd8 hs h4 n0 b' rfl D (fun W r hW hr => ih (deep + 1) (by omega) (by omega) r W hr)
      · have h5 : 4 < c.toNat := by
          have e : ∀ k : Nat, k < 5 → c ≠ UInt8.ofNat k → c.toNat ≠ k := fun k hk hne h => hne (UInt8.toNat_inj.1 (by rw [UInt8.toNat_ofNat', h]; omega))
          have := e 0 (by omega) h0
          have := e 1 (by omega) h1'
          have := e 2 (by omega) h2
          have := e 3 (by omega) h3
          have := e 4 (by omega) h4
          omega
        rw [show ub (D + 1) (c :: b) = none from by rw [ub, if_neg h0, if_neg h1', if_neg h2, if_neg h3, if_neg h4]]
        exact un_other s deep w c b hb h1 hd8 hs h5

set_option maxHeartbeats 2000000 in
set_option maxRecDepth 100000 in
theorem right_of (k n : Int) (s : ByteArray) (a : Option Addr) (l c : Nat) (er : Int) (w : World)
    (hC : ∀ W, Below w.heap.size w W → Calls Tryd.prog 10 #[.agg #[.int .i64 k, .int .i64 n, .string s, .slice a l c], .int .i64 1] W fun e w' => e = .returned (.int .i64 er) ∧ Below W.heap.size W w') :
    Calls Tryd.prog 34 #[.agg #[.int .i64 k, .int .i64 n, .string s, .slice a l c]] w fun e w' => e = .returned (.bool (er == 0)) ∧ Below w.heap.size w w' := by
  have HC := toHid hC
  have b0 : Below w.heap.size w (w.alloc (.cells #[.int .i64 k, .int .i64 n, .string s, .slice a l c] 24)) := (Below.refl _ _).alloc (Nat.le_refl _) _
  clear hC
  go_enter Tryd.func34, Tryd.ntmps34
  go_wp2_with fail
  refine (HC.out _ b0).mono ?_
  rintro e w1 ⟨rfl, k1⟩
  have c1 := bel2 b0 k1
  go_wp2_with fail
  go_ret
  exact ⟨rfl, c1⟩

set_option maxHeartbeats 2000000 in
set_option maxRecDepth 100000 in
theorem lo_no (s : ByteArray) (w : World) (hU : ∀ W, Below w.heap.size w W → Calls Tryd.prog 33 #[.string s, .int .i64 1] W fun e w' => UnNo W e w') :
    Calls Tryd.prog 15 #[.string s] w fun e w' => e = .returned (.tuple #[.agg #[.int .i64 0, .int .i64 0, .string ⟨#[]⟩, .slice none 0 0], .int .i64 0, .bool false]) ∧ Below w.heap.size w w' := by
  have HU := toHid hU
  have b0 : ∀ o, Below w.heap.size w (w.alloc o) := fun o => (Below.refl _ _).alloc (Nat.le_refl _) _
  have hx : ∀ o, (w.alloc o).heap[w.heap.size]? = some o := fun o => alloc_new _ _
  have HX := toHid hx
  have HB0 := toHid b0
  clear hU hx b0
  go_enter Tryd.func15, Tryd.ntmps15
  go_wp2_with fail
  refine (HU.out _ (HB0.out _)).mono ?_
  rintro e w1 ⟨⟨y, rfl⟩, k1⟩
  have c1 := bel2 (HB0.out _) k1
  have s1 : w.heap.size + 1 ≤ w1.heap.size := by have := k1.size; simpa using this
  have hv1 := (k1.block w.heap.size (by simp)).trans (HX.out _)
  have x0 := cell_of hv1 0
  have x1 := cell_of hv1 1
  have x2 := cell_of hv1 2
  have x3 := cell_of hv1 3
  simp at x0 x1 x2 x3
  have f0 := free_of hv1 0
  have f1 := free_of hv1 1
  have f2 := free_of hv1 2
  have f3 := free_of hv1 3
  have hlt : w.heap.size < w1.heap.size := by omega
  have hps : (put4 w1 w.heap.size (.int .i64 0) (.int .i64 0) (.string ⟨#[]⟩) (.slice none 0 0)).heap.size = w1.heap.size := by simp [put4, World.setCell]
  have E := (Below.heap_alloc (put4 w1 w.heap.size (.int .i64 0) (.int .i64 0) (.string ⟨#[]⟩) (.slice none 0 0)) (.cells #[.int .i64 y.k, .int .i64 y.n, .string y.s, .slice y.a y.l y.c] 24) w.heap.size (by rw [hps]; exact hlt)).trans (put4_here hv1 (.int .i64 0) (.int .i64 0) (.string ⟨#[]⟩) (.slice none 0 0))
  have hbb : Below w.heap.size w ((put4 w1 w.heap.size (.int .i64 0) (.int .i64 0) (.string ⟨#[]⟩) (.slice none 0 0)).alloc (.cells #[.int .i64 y.k, .int .i64 y.n, .string y.s, .slice y.a y.l y.c] 24)) := (c1.trans (put4_below _ _ _ _ _ _)).alloc (by rw [hps]; omega) _
  have HE := toHid E
  have HBB := toHid hbb
  clear hv1 k1 E hbb hps s1
  go_wp2_with fail
  have eP : ∀ X : World, (((X.setCell ⟨w.heap.size, 0, none⟩ (.int .i64 0)).setCell ⟨w.heap.size, 1, none⟩ (.int .i64 0)).setCell ⟨w.heap.size, 2, none⟩ (.string ⟨#[]⟩)).setCell ⟨w.heap.size, 3, none⟩ (.slice none 0 0) = put4 X w.heap.size (.int .i64 0) (.int .i64 0) (.string ⟨#[]⟩) (.slice none 0 0) := fun _ => rfl
  rw [eP]
  have E := HE.out
  have hbb := HBB.out
  clear HE HBB
  generalize (put4 w1 w.heap.size (.int .i64 0) (.int .i64 0) (.string ⟨#[]⟩) (.slice none 0 0)).alloc (.cells #[.int .i64 y.k, .int .i64 y.n, .string y.s, .slice y.a y.l y.c] 24) = X at E hbb ⊢
  have t0 := cell_of E 0
  have t1 := cell_of E 1
  have t2 := cell_of E 2
  have t3 := cell_of E 3
  simp at t0 t1 t2 t3
  exact bodyPost_ret (v := .tuple #[.agg #[.int .i64 0, .int .i64 0, .string ⟨#[]⟩, .slice none 0 0], .int .i64 0, .bool false]) (by simp [results, Tryd.results15, go_sem, t0, t1, t2, t3]) rfl ⟨rfl, hbb⟩

set_option maxHeartbeats 2000000 in
set_option maxRecDepth 100000 in
theorem lo_yes (s : ByteArray) (w : World) (t : T) (R : List UInt8) (q : Bool) (hsz : s.size ≤ 140737488355328) (hRs : R.length ≤ s.size) (hU : ∀ W, Below w.heap.size w W → Calls Tryd.prog 33 #[.string s, .int .i64 1] W fun e w' => UnYes W t R e w')
    (hR : ∀ W (y : Got), y.tree = t → y.ok (fun _ => True) W → Below w.heap.size w W → ∀ W', Below W.heap.size W W' → Calls Tryd.prog 34 #[.agg #[.int .i64 y.k, .int .i64 y.n, .string y.s, .slice y.a y.l y.c]] W' fun e w' => e = .returned (.bool q) ∧ Below W'.heap.size W' w') :
    Calls Tryd.prog 15 #[.string s] w fun e w' => (q = false → e = .returned (.tuple #[.agg #[.int .i64 0, .int .i64 0, .string ⟨#[]⟩, .slice none 0 0], .int .i64 0, .bool false])) ∧ (q = true → ∃ y : Got, e = .returned (.tuple #[.agg #[.int .i64 y.k, .int .i64 y.n, .string y.s, .slice y.a y.l y.c], .int .i64 ((s.size : Int) - (R.length : Int)), .bool true]) ∧ y.tree = t ∧ y.ok (fun _ => True) w') ∧ Below w.heap.size w w' := by
  have HU := toHid hU
  have HR := toHid hR
  have b0 : ∀ o, Below w.heap.size w (w.alloc o) := fun o => (Below.refl _ _).alloc (Nat.le_refl _) _
  have hx : ∀ o, (w.alloc o).heap[w.heap.size]? = some o := fun o => alloc_new _ _
  have HX := toHid hx
  have HB0 := toHid b0
  clear hU hx b0 hR
  go_enter Tryd.func15, Tryd.ntmps15
  go_wp2_with fail
  refine (HU.out _ (HB0.out _)).mono ?_
  rintro e w1 ⟨y, r, rfl, hyt, hyr, hyo, k1⟩
  have c1 := bel2 (HB0.out _) k1
  have s1 : w.heap.size + 1 ≤ w1.heap.size := by have := k1.size; simpa using this
  have hlt : w.heap.size < w1.heap.size := by omega
  have hv1 := (k1.block w.heap.size (by simp)).trans (HX.out _)
  have hyo1 : y.ok (fun _ => True) w1 := hyo.kept (Nat.le_refl _) (fun i _ _ => ⟨trivial, rfl⟩)
  have hyoN : Hid (y.ok (fun i => i ≠ w.heap.size) w1) := hyo.kept (Nat.le_refl _) (fun i hi _ => ⟨by have h : (w.alloc _).heap.size ≤ i := hi; simp at h; omega, rfl⟩)
  have b2 : Below w1.heap.size w1 (w1.alloc (.cells #[.int .i64 y.k, .int .i64 y.n, .string y.s, .slice y.a y.l y.c] 24)) := (Below.refl _ _).alloc (Nat.le_refl _) _
  have hcR := HR.out w1 y hyt hyo1 c1 _ b2
  have hbx : (w1.alloc (.cells #[.int .i64 y.k, .int .i64 y.n, .string y.s, .slice y.a y.l y.c] 24)).heap[w1.heap.size]? = some (.cells #[.int .i64 y.k, .int .i64 y.n, .string y.s, .slice y.a y.l y.c] 24 (0, 0)) := alloc_new _ _
  have hv2 := (Below.heap_alloc w1 (.cells #[.int .i64 y.k, .int .i64 y.n, .string y.s, .slice y.a y.l y.c] 24) w.heap.size hlt).trans hv1
  have z2 : (w1.alloc (.cells #[.int .i64 y.k, .int .i64 y.n, .string y.s, .slice y.a y.l y.c] 24)).heap.size = w1.heap.size + 1 := by simp
  have hrl : r.size = R.length := by
    have := congrArg List.length hyr
    simpa using this
  have HCR := toHid hcR
  have HBX := toHid hbx
  have HV2 := toHid hv2
  have HYO := toHid hyo1
  have HYT := toHid hyt
  have B2 := toHid b2
  have Z2 := toHid z2
  have HRL := toHid hrl
  clear hcR hbx hv2 hyo hyo1 hyt hyr hv1 k1 b2 z2 hrl
  go_wp2_with fail
  refine HCR.out.mono ?_
  generalize w1.alloc (.cells #[.int .i64 y.k, .int .i64 y.n, .string y.s, .slice y.a y.l y.c] 24) = W2 at HCR HBX HV2 B2 Z2 ⊢
  rintro e w3 ⟨rfl, k3⟩
  have z2 := Z2.out
  have s3 := k3.size
  have c3 := bel2 (bel2 c1 B2.out) k3
  have v3 := (k3.block w.heap.size (by omega)).trans HV2.out
  have u3 := (k3.block w1.heap.size (by omega)).trans HBX.out
  have x0 := cell_of v3 0
  have x1 := cell_of v3 1
  have x2 := cell_of v3 2
  have x3 := cell_of v3 3
  have y0 := cell_of u3 0
  have y1 := cell_of u3 1
  have y2 := cell_of u3 2
  have y3 := cell_of u3 3
  simp at x0 x1 x2 x3 y0 y1 y2 y3
  have f0 := free_of v3 0
  have f1 := free_of v3 1
  have f2 := free_of v3 2
  have f3 := free_of v3 3
  have HV3 := toHid v3
  have hyo3 : Hid (y.ok (fun i => i ≠ w.heap.size) w3) := hyoN.out.kept (by have := B2.out.size; omega) (fun i hi' hi => ⟨hi', (k3.block i (by have := B2.out.size; omega)).trans (B2.out.block i hi)⟩)
  have hlt3 : w.heap.size < w3.heap.size := by omega
  have hne : w1.heap.size ≠ w.heap.size := by omega
  have hwr : IntKind.i64.wrap ((s.size : Int) - (r.size : Int)) = (s.size : Int) - (r.size : Int) := by rw [IntKind.wrap_i64]; have := HRL.out; omega
  clear v3 u3 k3 z2
  cases q with
  | false =>
    have E := put4_here HV3.out (.int .i64 0) (.int .i64 0) (.string ⟨#[]⟩) (.slice none 0 0)
    have hbb : Below w.heap.size w (put4 w3 w.heap.size (.int .i64 0) (.int .i64 0) (.string ⟨#[]⟩) (.slice none 0 0)) := c3.trans (put4_below _ _ _ _ _ _)
    have HE := toHid E
    have HBB := toHid hbb
    clear E hbb
    go_wp2_with fail
    have eP : ∀ X : World, (((X.setCell ⟨w.heap.size, 0, none⟩ (.int .i64 0)).setCell ⟨w.heap.size, 1, none⟩ (.int .i64 0)).setCell ⟨w.heap.size, 2, none⟩ (.string ⟨#[]⟩)).setCell ⟨w.heap.size, 3, none⟩ (.slice none 0 0) = put4 X w.heap.size (.int .i64 0) (.int .i64 0) (.string ⟨#[]⟩) (.slice none 0 0) := fun _ => rfl
    rw [eP]
    have E := HE.out
    have hbb := HBB.out
    clear HE HBB
    generalize put4 w3 w.heap.size (.int .i64 0) (.int .i64 0) (.string ⟨#[]⟩) (.slice none 0 0) = X at E hbb ⊢
    have t0 := cell_of E 0
    have t1 := cell_of E 1
    have t2 := cell_of E 2
    have t3 := cell_of E 3
    simp at t0 t1 t2 t3
    exact bodyPost_ret (v := .tuple #[.agg #[.int .i64 0, .int .i64 0, .string ⟨#[]⟩, .slice none 0 0], .int .i64 0, .bool false]) (by simp [results, Tryd.results15, go_sem, t0, t1, t2, t3]) rfl ⟨rfl, hbb⟩
  | true =>
    have E := put4_here HV3.out (.int .i64 y.k) (.int .i64 y.n) (.string y.s) (.slice y.a y.l y.c)
    have hbb : Below w.heap.size w (put4 w3 w.heap.size (.int .i64 y.k) (.int .i64 y.n) (.string y.s) (.slice y.a y.l y.c)) := c3.trans (put4_below _ _ _ _ _ _)
    have HYX : Hid (y.ok (fun i => True) (put4 w3 w.heap.size (.int .i64 y.k) (.int .i64 y.n) (.string y.s) (.slice y.a y.l y.c))) := by
      refine hyo3.out.kept (by simp [put4, World.setCell]) (fun i hi hi2 => ⟨trivial, put4_other _ _ _ _ _ _ i hi hi2⟩)
    have HE := toHid E
    have HBB := toHid hbb
    clear E hbb
    go_wp2_with fail
    have eP : ∀ X : World, (((X.setCell ⟨w.heap.size, 0, none⟩ (.int .i64 y.k)).setCell ⟨w.heap.size, 1, none⟩ (.int .i64 y.n)).setCell ⟨w.heap.size, 2, none⟩ (.string y.s)).setCell ⟨w.heap.size, 3, none⟩ (.slice y.a y.l y.c) = put4 X w.heap.size (.int .i64 y.k) (.int .i64 y.n) (.string y.s) (.slice y.a y.l y.c) := fun _ => rfl
    rw [eP]
    have E := HE.out
    have hbb := HBB.out
    clear HE HBB
    generalize put4 w3 w.heap.size (.int .i64 y.k) (.int .i64 y.n) (.string y.s) (.slice y.a y.l y.c) = X at E hbb HYX ⊢
    have t0 := cell_of E 0
    have t1 := cell_of E 1
    have t2 := cell_of E 2
    have t3 := cell_of E 3
    simp at t0 t1 t2 t3
    refine bodyPost_ret (v := .tuple #[.agg #[.int .i64 y.k, .int .i64 y.n, .string y.s, .slice y.a y.l y.c], .int .i64 ((s.size : Int) - (r.size : Int)), .bool true]) (by simp [results, Tryd.results15, go_sem, t0, t1, t2, t3]) rfl ⟨⟨y, by rw [HRL.out], HYT.out, HYX.out⟩, hbb⟩

theorem data_join (A F : ByteArray) : (A ++ F).data.toList = A.data.toList ++ F.data.toList := by
  rw [ByteArray.data_append]
  simp

theorem bytes_any (B : Nat) (k n : Int) (s : ByteArray) (a : Option Addr) (l c : Nat) (L : List T) (w : World) (hB : B ≤ w.heap.size) (hT : Tabs B w) (hs : s.size ≤ 9223372036854775807) (hin : InT (.node k n s L)) (hL : LiesS w L a l) :
    ∃ er : Int, (er = 0 → Ck 6 (.node k n s L)) ∧ ∀ W, Below w.heap.size w W → Calls Tryd.prog 9 #[.agg #[.int .i64 k, .int .i64 n, .string s, .slice a l c]] W fun e w' => e = .returned (bytesR er (bT (.node k n s L))) ∧ Below W.heap.size W w' := by
  obtain ⟨er, hown, hck⟩ := ck_all B w hB hT 6 0 rfl k n s a l c L hs hin hL
  refine ⟨er, hck, fun W hW => ?_⟩
  have hC : ∀ W2, Below W.heap.size W W2 → Calls Tryd.prog 24 #[.agg #[.int .i64 k, .int .i64 n, .string s, .slice a l c]] W2 fun e w' => e = .returned (.int .i64 er) ∧ Below W2.heap.size W2 w' := fun W2 h2 =>
    check_of k n s a l c er W2 fun w3 h3 => hown w3 (bel2 (bel2 hW h2) h3)
  by_cases he : er = 0
  · subst he
    have ht := hck rfl
    unfold bytesR
    rw [if_pos rfl]
    refine (bytes_of k n s a l c W (fun Q => AB [] (bT (.node k n s L)) Q) hC (fun W2 h2 => ?_)).mono ?_
    · refine (b_tree 6 _ ht W2.heap.size (.slice none 0 0) [] k n s a l c L W2 w rfl hL (by have := (bel2 hW h2).size; omega) (bel2 hW h2) (Out.nil _ _) (Nat.le_refl _) (by simp)).mono ?_
      rintro e w' ⟨v', L', rfl, o', ap', hl', b'⟩
      have hne : L' ≠ [] := by
        intro h
        subst h
        have h1 := bT_ne (.node k n s L)
        by_cases hq : ([] ++ bT (.node k n s L)).length ≤ 8000
        · exact h1 (by simpa using (ap'.1 hq).symm)
        · have := ap'.2 (by omega)
          simp at this
      refine ⟨v', L', rfl, o', ap', hne, ?_, b'⟩
      rcases hl' with h | h
      · omega
      · exact absurd h hne
    · rintro e w' ⟨Q, ap, h1, h2, hb⟩
      refine ⟨?_, hb⟩
      by_cases hq : (bT (.node k n s L)).length ≤ 8000
      · rw [if_pos hq]
        have := ap.1 (by simpa using hq)
        rw [List.nil_append] at this
        rw [← this] at hq ⊢
        exact h1 hq
      · rw [if_neg hq]
        exact h2 (ap.2 (by simp; omega))
  · unfold bytesR
    rw [if_neg he]
    exact bytes_bad k n s a l c er W he hC

theorem wt_bT : ∀ (d : Nat) (t : T), Ck d t → wtT t ≤ 2 * (bT t).length := by
  have flat : ∀ (k n : Int) (s : ByteArray), wtT (.node k n s []) ≤ 2 * (bT (.node k n s [])).length := by
    intro k n s
    have := List.length_pos_iff.2 (bT_ne (.node k n s []))
    simp only [wtT, wtL]
    omega
  intro d
  induction d with
  | zero =>
    intro t h
    cases h with
    | null => exact flat _ _ _
    | bool => exact flat _ _ _
    | int => exact flat _ _ _
    | text => exact flat _ _ _
  | succ d ih =>
    intro t h
    cases h with
    | null => exact flat _ _ _
    | bool => exact flat _ _ _
    | int => exact flat _ _ _
    | text => exact flat _ _ _
    | list d L g0 g1 =>
      have e : ∀ M : List T, (∀ u ∈ M, Ck d u) → wtL M ≤ 2 * (bL M).length + 1 := by
        intro M
        induction M with
        | nil => intro _; simp [wtL]
        | cons u us ihM =>
          intro hM
          have h1 := ih u (hM u (List.mem_cons_self ..))
          have h2 := ihM (fun y hy => hM y (List.mem_cons_of_mem _ hy))
          rw [bL_cons, List.length_append]
          have h3 : wtL (u :: us) = wtT u + wtL us := by conv => lhs; unfold wtL
          omega
      have := e L g1
      rw [bT_list]
      simp only [wtT, List.length_cons, List.length_append]
      omega

set_option maxHeartbeats 2000000 in
set_option maxRecDepth 100000 in
theorem cb_err (k n : Int) (s : ByteArray) (a : Option Addr) (l c : Nat) (rest : ByteArray) (str : ByteArray) (er : Int) (w : World) (he : er ≠ 0)
    (hB : ∀ W, Below w.heap.size w W → Calls Tryd.prog 9 #[.agg #[.int .i64 k, .int .i64 n, .string s, .slice a l c]] W fun e w' => e = .returned (.tuple #[.string str, .int .i64 er]) ∧ Below W.heap.size W w') :
    Calls Tryd.prog 6 #[.agg #[.int .i64 k, .int .i64 n, .string s, .slice a l c], .string rest] w fun e w' => e = .returned (.bool true) ∧ Below w.heap.size w w' := by
  have HB := toHid hB
  have he' : (er != 0) = true := by simp [he]
  have b0 : ∀ o, Below w.heap.size w (w.alloc o) := fun o => (Below.refl _ _).alloc (Nat.le_refl _) _
  clear hB he
  go_enter Tryd.func6, Tryd.ntmps6
  go_wp2_with fail
  refine (HB.out _ (b0 _)).mono ?_
  rintro e w1 ⟨rfl, k1⟩
  have c1 := bel2 (b0 _) k1
  go_wp2_with fail
  refine (coded_true _).mono ?_
  rintro e w2 ⟨rfl, k2⟩
  have c2 := bel2 c1 k2
  go_wp2_with fail
  refine (coded_true _).mono ?_
  rintro e w3 ⟨rfl, k3⟩
  have c3 := bel2 c2 k3
  go_wp2_with fail
  go_ret
  exact ⟨rfl, c3⟩

set_option maxHeartbeats 4000000 in
set_option maxRecDepth 100000 in
theorem cb_ok (k n : Int) (s : ByteArray) (a : Option Addr) (l c : Nat) (rest : ByteArray) (str : ByteArray) (G : World → Got → Prop) (w : World) (hstr : str.size ≤ 8000) (hrest : rest.size ≤ 140737488355328)
    (hB : ∀ W, Below w.heap.size w W → Calls Tryd.prog 9 #[.agg #[.int .i64 k, .int .i64 n, .string s, .slice a l c]] W fun e w' => e = .returned (.tuple #[.string str, .int .i64 0]) ∧ Below W.heap.size W w')
    (hV : ∀ W, Below w.heap.size w W → Calls Tryd.prog 13 #[.string str] W fun e w' => ∃ x : Got, e = .returned (.tuple #[.agg #[.int .i64 x.k, .int .i64 x.n, .string x.s, .slice x.a x.l x.c], .int .i64 0]) ∧ G w' x ∧ Below W.heap.size W w')
    (hLo : ∀ W, Below w.heap.size w W → Calls Tryd.prog 14 #[.string (str ++ rest)] W fun e w' => e = .returned (.tuple #[.int .i64 (str.size : Int), .bool true]) ∧ Below W.heap.size W w')
    (hS : ∀ W x, G W x → Below w.heap.size w W → ∀ W', Below W.heap.size W W' → Calls Tryd.prog 17 #[.agg #[.int .i64 k, .int .i64 n, .string s, .slice a l c], .agg #[.int .i64 x.k, .int .i64 x.n, .string x.s, .slice x.a x.l x.c]] W' fun e w' => e = .returned (.bool true) ∧ Below W'.heap.size W' w') :
    Calls Tryd.prog 6 #[.agg #[.int .i64 k, .int .i64 n, .string s, .slice a l c], .string rest] w fun e w' => e = .returned (.bool true) ∧ Below w.heap.size w w' := by
  have HB := toHid hB
  have HV := toHid hV
  have HLo := toHid hLo
  have HS := toHid hS
  have b0 : Below w.heap.size w (w.alloc (.cells #[.int .i64 k, .int .i64 n, .string s, .slice a l c] 24)) := (Below.refl _ _).alloc (Nat.le_refl _) _
  have hx : VB (w.alloc (.cells #[.int .i64 k, .int .i64 n, .string s, .slice a l c] 24)) w.heap.size k n s a l c := alloc_new _ _
  have z0 : (w.alloc (.cells #[.int .i64 k, .int .i64 n, .string s, .slice a l c] 24)).heap.size = w.heap.size + 1 := by simp
  have HX := toHid hx
  have Z0 := toHid z0
  clear hB hV hLo hS hx z0
  go_enter Tryd.func6, Tryd.ntmps6
  go_wp2_with fail
  refine (HB.out _ b0).mono ?_
  generalize w.alloc (.cells #[.int .i64 k, .int .i64 n, .string s, .slice a l c] 24) = W0 at b0 HX Z0 ⊢
  rintro e w1 ⟨rfl, k1⟩
  have c1 := bel2 b0 k1
  go_wp2_with fail
  refine (coded_true _).mono ?_
  rintro e w2 ⟨rfl, k2⟩
  have c2 := bel2 c1 k2
  go_wp2_with fail
  refine (HV.out _ c2).mono ?_
  rintro e w3 ⟨x, rfl, hg, k3⟩
  have c3 := bel2 c2 k3
  have b4 : Below w3.heap.size w3 (w3.alloc (.cells #[.int .i64 x.k, .int .i64 x.n, .string x.s, .slice x.a x.l x.c] 24)) := (Below.refl _ _).alloc (Nat.le_refl _) _
  have c4 := bel2 c3 b4
  have v4 : VB (w3.alloc (.cells #[.int .i64 x.k, .int .i64 x.n, .string x.s, .slice x.a x.l x.c] 24)) w3.heap.size x.k x.n x.s x.a x.l x.c := alloc_new _ _
  have s1 := k1.size
  have s2 := k2.size
  have s3 := k3.size
  have z := Z0.out
  have v3 : VB w3 w.heap.size k n s a l c := ((k3.block w.heap.size (by omega)).trans (k2.block w.heap.size (by omega))).trans ((k1.block w.heap.size (by omega)).trans HX.out)
  have cL : Hid (Calls Tryd.prog 14 #[.string (str ++ rest)] (w3.alloc (.cells #[.int .i64 x.k, .int .i64 x.n, .string x.s, .slice x.a x.l x.c] 24)) fun e w' => e = .returned (.tuple #[.int .i64 (str.size : Int), .bool true]) ∧ Below (w3.alloc (.cells #[.int .i64 x.k, .int .i64 x.n, .string x.s, .slice x.a x.l x.c] 24)).heap.size (w3.alloc (.cells #[.int .i64 x.k, .int .i64 x.n, .string x.s, .slice x.a x.l x.c] 24)) w') := HLo.out _ c4
  have z4 : (w3.alloc (.cells #[.int .i64 x.k, .int .i64 x.n, .string x.s, .slice x.a x.l x.c] 24)).heap.size = w3.heap.size + 1 := by simp
  have V4 := toHid v4
  have V3 := toHid v3
  have B4 := toHid b4
  have C4 := toHid c4
  have Z4 := toHid z4
  have HG := toHid hg
  have C3 := toHid c3
  clear v4 v3 b4 c4 z4 hg k1 k2 k3 c1 c2 b0 z c3
  go_wp2_with fail
  refine cL.out.mono ?_
  generalize w3.alloc (.cells #[.int .i64 x.k, .int .i64 x.n, .string x.s, .slice x.a x.l x.c] 24) = W4 at V4 B4 C4 Z4 ⊢
  rintro e w5 ⟨rfl, k5⟩
  have z4 := Z4.out
  have z0 := Z0.out
  have v5 : VB w5 w3.heap.size x.k x.n x.s x.a x.l x.c := (k5.block _ (by omega)).trans V4.out
  have u5 : VB w5 w.heap.size k n s a l c := (k5.block _ (by omega)).trans ((B4.out.block _ (by omega)).trans V3.out)
  obtain ⟨p0, p1, p2, p3⟩ := v5.cells
  obtain ⟨q0, q1, q2, q3⟩ := u5.cells
  have c5 := bel2 C4.out k5
  have cS : Hid (Calls Tryd.prog 17 #[.agg #[.int .i64 k, .int .i64 n, .string s, .slice a l c], .agg #[.int .i64 x.k, .int .i64 x.n, .string x.s, .slice x.a x.l x.c]] w5 fun e w' => e = .returned (.bool true) ∧ Below w5.heap.size w5 w') := HS.out w3 x HG.out C3.out w5 (bel2 B4.out k5)
  clear v5 u5 k5 z4 z0
  go_wp2_with fail
  refine cS.out.mono ?_
  rintro e w6 ⟨rfl, k6⟩
  have c6 := bel2 c5 k6
  go_wp2_with fail
  go_ret
  exact ⟨rfl, c6⟩

theorem law_back (B : Nat) (k n : Int) (s : ByteArray) (a : Option Addr) (l c : Nat) (L : List T) (rest : ByteArray) (w : World) (hB : B ≤ w.heap.size) (hT : Tabs B w) (hs : s.size ≤ 9223372036854775807) (hin : InT (.node k n s L)) (hL : LiesS w L a l) (hrest : rest.size ≤ 140737488355328) :
    Calls Tryd.prog 6 #[.agg #[.int .i64 k, .int .i64 n, .string s, .slice a l c], .string rest] w fun e w' => e = .returned (.bool true) ∧ Below w.heap.size w w' := by
  obtain ⟨er, hck, hBy⟩ := bytes_any B k n s a l c L w hB hT hs hin hL
  by_cases he : er = 0
  · have ht := hck he
    subst he
    by_cases hq : (bT (.node k n s L)).length ≤ 8000
    · have hR : bytesR 0 (bT (.node k n s L)) = .tuple #[.string ⟨(bT (.node k n s L)).toArray⟩, .int .i64 0] := by unfold bytesR; rw [if_pos rfl, if_pos hq]
      rw [hR] at hBy
      have hsz : (⟨(bT (.node k n s L)).toArray⟩ : ByteArray).size = (bT (.node k n s L)).length := text_sz _
      have hTW : ∀ W, Below w.heap.size w W → Tabs B W ∧ B ≤ W.heap.size := fun W hW => ⟨hT.below (hW.mono hB), by have := hW.size; omega⟩
      have hwt := wt_bT 6 _ ht
      refine cb_ok k n s a l c rest _ (fun W x => x.tree = .node k n s L ∧ x.ok (fun _ => True) W) w (by rw [hsz]; exact hq) hrest hBy (fun W hW => ?_) (fun W hW => ?_) (fun W x hx hW W' hW' => ?_)
      · refine (codeValue_any B _ W (by rw [hsz]; exact hq) (hTW W hW).2 (hTW W hW).1).mono ?_
        rintro e w' ⟨h1, _, hb⟩
        have hv := vd_bT 6 _ ht (by omega) []
        rw [List.append_nil] at hv
        obtain ⟨x, e1, e2, e3⟩ := h1 (.node k n s L) hv
        exact ⟨x, e1, ⟨e2, e3.kept (Nat.le_refl _) (fun i _ _ => ⟨trivial, rfl⟩)⟩, hb⟩
      · refine (long_any B _ W (by rw [ByteArray.size_append, hsz]; omega) (hTW W hW).2 (hTW W hW).1).mono ?_
        rintro e w' ⟨h1, hb⟩
        refine ⟨?_, hb⟩
        have hv := vd_bT 6 _ ht (by omega) rest.data.toList
        have hd : ((⟨(bT (.node k n s L)).toArray⟩ : ByteArray) ++ rest).data.toList = bT (.node k n s L) ++ rest.data.toList := by rw [data_join]
        rw [hd, hv] at h1
        rw [h1]
        have hl : rest.data.toList.length = rest.size := by simp
        have : (((⟨(bT (.node k n s L)).toArray⟩ : ByteArray) ++ rest).size : Int) - (rest.data.toList.length : Int) = ((⟨(bT (.node k n s L)).toArray⟩ : ByteArray).size : Int) := by
          rw [ByteArray.size_append, hl]; omega
        simp only
        rw [this]
      · obtain ⟨hxt, hxo⟩ := hx
        have hxl : LiesS W x.L x.a x.l := hxo.2.2.lies _ _ _
        have hxt' : T.node x.k x.n x.s x.L = .node k n s L := hxt
        injection hxt' with e1 e2 e3 e4
        have hbnd : wtL L ≤ 2097152 := by simp only [wtT] at hwt; omega
        refine same_of k n s a l c x.k x.n x.s x.a x.l x.c 0 W' (fun W2 k2 => ?_)
        have := ref_order (wtL L) k n s a l c L x.k x.n x.s x.a x.l x.c x.L W2 (Nat.le_refl _) hbnd (by rw [e4]; exact hbnd) (hL.below (bel2 (bel2 hW hW') k2) _ _ _) (hxl.below (bel2 hW' k2) _ _ _)
        rw [e1, e2, e3, e4, ordT_self] at this
        rw [e1, e2, e3]
        exact this
    · have hR : bytesR 0 (bT (.node k n s L)) = .tuple #[.string ⟨#[]⟩, .int .i64 2] := by unfold bytesR; rw [if_pos rfl, if_neg hq]
      rw [hR] at hBy
      exact cb_err k n s a l c rest _ 2 w (by decide) hBy
  · have hR : bytesR er (bT (.node k n s L)) = .tuple #[.string ⟨#[]⟩, .int .i64 er] := by unfold bytesR; rw [if_neg he]
    rw [hR] at hBy
    exact cb_err k n s a l c rest _ er w he hBy

set_option maxHeartbeats 2000000 in
set_option maxRecDepth 100000 in
theorem none_zero (w : World) :
    Calls Tryd.prog 16 #[.agg #[.int .i64 0, .int .i64 0, .string ⟨#[]⟩, .slice none 0 0]] w fun e w' => e = .returned (.bool true) ∧ Below w.heap.size w w' := by
  have HS : Hid (∀ W, Calls Tryd.prog 17 #[.agg #[.int .i64 0, .int .i64 0, .string ⟨#[]⟩, .slice none 0 0], .agg #[.int .i64 0, .int .i64 0, .string ⟨#[]⟩, .slice none 0 0]] W fun e w' => e = .returned (.bool true) ∧ Below W.heap.size W w') := fun W => by
    refine same_of 0 0 ⟨#[]⟩ none 0 0 0 0 ⟨#[]⟩ none 0 0 0 W (fun W2 k2 => ?_)
    have := ref_order (wtL []) 0 0 ⟨#[]⟩ none 0 0 [] 0 0 ⟨#[]⟩ none 0 0 [] W2 (Nat.le_refl _) (by simp [wtL]) (by simp [wtL]) (by unfold LiesS; rfl) (by unfold LiesS; rfl)
    rw [ordT_self] at this
    exact this
  have b0 : ∀ o, Below w.heap.size w (w.alloc o) := fun o => (Below.refl _ _).alloc (Nat.le_refl _) _
  go_enter Tryd.func16, Tryd.ntmps16
  go_wp2_with fail
  refine (HS.out _).mono ?_
  rintro e w1 ⟨rfl, k1⟩
  have c1 := bel2 (b0 _) k1
  go_wp2_with fail
  go_ret
  exact ⟨rfl, c1⟩

set_option maxHeartbeats 4000000 in
set_option maxRecDepth 100000 in
theorem lv_none (s : ByteArray) (w : World) (er n : Int) (g : Bool) (hsz : s.size ≤ 140737488355328) (hc : (8000 < s.size ∧ er = 2) ∨ (¬ 8000 < s.size ∧ er = 11 ∧ (g = false ∨ (g = true ∧ n ≠ (s.size : Int)))))
    (hV : ∀ W, Below w.heap.size w W → Calls Tryd.prog 13 #[.string s] W fun e w' => e = .returned (.tuple #[.agg #[.int .i64 0, .int .i64 0, .string ⟨#[]⟩, .slice none 0 0], .int .i64 er]) ∧ Below W.heap.size W w')
    (hL : ∀ W, Below w.heap.size w W → Calls Tryd.prog 14 #[.string s] W fun e w' => e = .returned (.tuple #[.int .i64 n, .bool g]) ∧ Below W.heap.size W w')
    (hO : ∀ W, Below w.heap.size w W → Calls Tryd.prog 15 #[.string s] W fun e w' => (∃ y : Got, e = .returned (.tuple #[.agg #[.int .i64 y.k, .int .i64 y.n, .string y.s, .slice y.a y.l y.c], .int .i64 n, .bool g])) ∧ Below W.heap.size W w') :
    Calls Tryd.prog 4 #[.string s] w fun e w' => e = .returned (.bool true) ∧ Below w.heap.size w w' := by
  have HV := toHid hV
  have HL := toHid hL
  have HO := toHid hO
  have HC := toHid hc
  clear hV hL hO hc
  go_enter Tryd.func4, Tryd.ntmps4
  go_wp2_with fail
  refine (HV.out _ (Below.refl _ _)).mono ?_
  rintro e w1 ⟨rfl, k1⟩
  have b2 : Below w1.heap.size w1 (w1.alloc (.cells #[.int .i64 0, .int .i64 0, .string ⟨#[]⟩, .slice none 0 0] 24)) := (Below.refl _ _).alloc (Nat.le_refl _) _
  have v2 : (w1.alloc (.cells #[.int .i64 0, .int .i64 0, .string ⟨#[]⟩, .slice none 0 0] 24)).heap[w1.heap.size]? = some (.cells #[.int .i64 0, .int .i64 0, .string ⟨#[]⟩, .slice none 0 0] 24 (0, 0)) := alloc_new _ _
  have z2 : (w1.alloc (.cells #[.int .i64 0, .int .i64 0, .string ⟨#[]⟩, .slice none 0 0] 24)).heap.size = w1.heap.size + 1 := by simp
  have B2 := toHid (bel2 k1 b2)
  have V2 := toHid v2
  have Z2 := toHid z2
  clear b2 v2 z2 k1
  go_wp2_with fail
  refine (HL.out _ B2.out).mono ?_
  generalize w1.alloc (.cells #[.int .i64 0, .int .i64 0, .string ⟨#[]⟩, .slice none 0 0] 24) = W2 at B2 V2 Z2 ⊢
  rintro e w3 ⟨rfl, k3⟩
  have c3 := bel2 B2.out k3
  have z2 := Z2.out
  have s3 := k3.size
  have v3 := (k3.block w1.heap.size (by omega)).trans V2.out
  have V3 := toHid v3
  clear v3 k3
  go_wp2_with fail
  refine (HO.out _ c3).mono ?_
  rintro e w4 ⟨⟨y, rfl⟩, k4⟩
  have s4 := k4.size
  have v4 := (k4.block w1.heap.size (by omega)).trans V3.out
  have c5 : Hid (Below w.heap.size w (w4.alloc (.cells #[.int .i64 y.k, .int .i64 y.n, .string y.s, .slice y.a y.l y.c] 24))) := (bel2 c3 k4).alloc (bel2 c3 k4).size _
  have v5 := (Below.heap_alloc w4 (.cells #[.int .i64 y.k, .int .i64 y.n, .string y.s, .slice y.a y.l y.c] 24) w1.heap.size (by omega)).trans v4
  have z5 : (w4.alloc (.cells #[.int .i64 y.k, .int .i64 y.n, .string y.s, .slice y.a y.l y.c] 24)).heap.size = w4.heap.size + 1 := by simp
  have V5 := toHid v5
  have Z5 := toHid z5
  clear v4 v5 z5 k4
  go_wp2_with fail
  refine (coded_true _).mono ?_
  generalize w4.alloc (.cells #[.int .i64 y.k, .int .i64 y.n, .string y.s, .slice y.a y.l y.c] 24) = W5 at c5 V5 Z5 ⊢
  rintro e w6 ⟨rfl, k6⟩
  have z5 := Z5.out
  have s6 := k6.size
  have c6 := bel2 c5.out k6
  have v6 := (k6.block w1.heap.size (by omega)).trans V5.out
  have x0 := cell_of v6 0
  have x1 := cell_of v6 1
  have x2 := cell_of v6 2
  have x3 := cell_of v6 3
  simp at x0 x1 x2 x3
  clear v6 k6 z5 z2 s3 s4 s6
  rcases HC.out with ⟨h1, h2⟩ | ⟨h1, h2, h3⟩
  · subst h2
    have hd : (8000 : Int) < (s.size : Int) := by omega
    cases g
    all_goals
      go_wp2_with fail
      refine (none_zero _).mono ?_
      rintro e w7 ⟨rfl, k7⟩
      have c7 := bel2 c6 k7
      go_wp2_with fail
      go_ret
      exact ⟨rfl, c7⟩
  · subst h2
    have hd : ¬ (8000 : Int) < (s.size : Int) := by omega
    rcases h3 with h3 | ⟨h3, h4⟩
    · subst h3
      go_wp2_with fail
      refine (none_zero _).mono ?_
      rintro e w7 ⟨rfl, k7⟩
      have c7 := bel2 c6 k7
      go_wp2_with fail
      go_ret
      exact ⟨rfl, c7⟩
    · subst h3
      have h5 : (n != (s.size : Int)) = true := by simp [h4]
      have h6 : (n == (s.size : Int)) = false := by simp [h4]
      go_wp2_with fail
      refine (none_zero _).mono ?_
      rintro e w7 ⟨rfl, k7⟩
      have c7 := bel2 c6 k7
      go_wp2_with fail
      go_ret
      exact ⟨rfl, c7⟩

theorem inL_of : ∀ {L : List T}, (∀ t ∈ L, InT t) → InL L
  | [], _ => by unfold InL; trivial
  | t :: ts, h => by
    unfold InL
    exact ⟨h t (List.mem_cons_self ..), inL_of (fun u hu => h u (List.mem_cons_of_mem _ hu))⟩

/-- The numbers that the other reader reads are numbers. -/
theorem ub_in : ∀ d b t R, ub d b = some (t, R) → InT t := by
  intro d
  induction d with
  | zero => intro b t R h; simp [ub] at h
  | succ d ih =>
    intro b t R h
    cases b with
    | nil => simp [ub] at h
    | cons c b =>
      rw [ub] at h
      split at h
      · simp only [Option.some.injEq, Prod.mk.injEq] at h
        obtain ⟨rfl, rfl⟩ := h
        rename_i hc
        subst hc
        unfold InT InL
        exact ⟨by omega, trivial⟩
      · split at h
        · split at h
          · simp only [Option.some.injEq, Prod.mk.injEq] at h
            obtain ⟨rfl, rfl⟩ := h
            rename_i hc h8
            subst hc
            have h9 := ofHi_eight (b.take 8) (by rw [List.length_take]; omega)
            unfold InT InL dn
            exact ⟨by omega, trivial⟩
          · simp at h
        · split at h
          · split at h
            · simp only [Option.some.injEq, Prod.mk.injEq] at h
              obtain ⟨rfl, rfl⟩ := h
              rename_i hc h8
              subst hc
              have h9 := ofHi_eight (b.take 8) (by rw [List.length_take]; omega)
              unfold InT InL dn
              exact ⟨by omega, trivial⟩
            · simp at h
          · split at h
            · split at h
              · simp only [Option.some.injEq, Prod.mk.injEq] at h
                obtain ⟨rfl, rfl⟩ := h
                rename_i hc h8
                subst hc
                unfold InT InL
                exact ⟨by omega, trivial⟩
              · simp at h
            · split at h
              · split at h
                · rename_i hc h1
                  subst hc
                  cases e : vds (ub d) (ofHi (b.take 1)) (b.drop 1) with
                  | none => rw [e] at h; simp at h
                  | some x =>
                    obtain ⟨ts, R1⟩ := x
                    rw [e] at h
                    simp only [Option.some.injEq, Prod.mk.injEq] at h
                    obtain ⟨rfl, rfl⟩ := h
                    obtain ⟨g1, _, _⟩ := vds_back (ub d) InT (fun b t R h => ⟨ih b t R h, ub_back d b t R h⟩) _ _ _ _ e
                    unfold InT
                    exact ⟨by omega, inL_of g1⟩
                · simp at h
              · simp at h


/-- What LongOf answers. -/
def LoOut (w : World) (s : ByteArray) (V : Option (T × List UInt8)) (e : Ending) (w' : World) : Prop :=
  match V with
  | none => e = .returned (.tuple #[.agg #[.int .i64 0, .int .i64 0, .string ⟨#[]⟩, .slice none 0 0], .int .i64 0, .bool false]) ∧ Below w.heap.size w w'
  | some (t, R) => (∃ y : Got, e = .returned (.tuple #[.agg #[.int .i64 y.k, .int .i64 y.n, .string y.s, .slice y.a y.l y.c], .int .i64 ((s.size : Int) - (R.length : Int)), .bool true]) ∧ y.tree = t ∧ y.ok (fun _ => True) w') ∧ Below w.heap.size w w'

theorem longOf_any (B : Nat) (s : ByteArray) (w : World) (hs : s.size ≤ 140737488355328) (hB : B ≤ w.heap.size) (hT : Tabs B w) :
    Calls Tryd.prog 15 #[.string s] w fun e w' => LoOut w s (vd 6 s.data.toList) e w' := by
  have hU : ∀ W, Below w.heap.size w W → Calls Tryd.prog 33 #[.string s, .int .i64 1] W fun e w' => UnOut W (ub 8 s.data.toList) e w' := fun W _ => un_any 8 1 (by omega) (by omega) s W hs
  cases hu : ub 8 s.data.toList with
  | none =>
    have hv : vd 6 s.data.toList = none := by
      cases h : vd 6 s.data.toList with
      | none => rfl
      | some x =>
        obtain ⟨t, R⟩ := x
        rw [((readers _).1 t R h).1] at hu
        cases hu
    rw [hv]
    rw [hu] at hU
    exact lo_no s w hU
  | some x =>
    obtain ⟨t, R⟩ := x
    rw [hu] at hU
    have hin := ub_in 8 _ t R hu
    have hRl : R.length ≤ s.size := by
      have h := congrArg List.length (ub_back 8 _ t R hu)
      rw [List.length_append] at h
      have h2 : s.data.toList.length = s.size := by simp
      omega
    have hR : ∀ (q : Bool), (q = true ↔ Ck 6 t) → ∀ W (y : Got), y.tree = t → y.ok (fun _ => True) W → Below w.heap.size w W → ∀ W', Below W.heap.size W W' → Calls Tryd.prog 34 #[.agg #[.int .i64 y.k, .int .i64 y.n, .string y.s, .slice y.a y.l y.c]] W' fun e w' => e = .returned (.bool q) ∧ Below W'.heap.size W' w' := by
      intro q hq W y hyt hyo hW W' hW'
      have hWW := bel2 hW hW'
      have hyt' : T.node y.k y.n y.s y.L = t := hyt
      have hyl : LiesS W' y.L y.a y.l := (hyo.2.2.lies _ _ _).below hW' _ _ _
      obtain ⟨er, hboth, h1, h2⟩ := bi_all B W' (by have := hWW.size; omega) (hT.below (hWW.mono hB)) 6 0 rfl y.k y.n y.s y.a y.l y.c y.L hyo.1 (by rw [hyt']; exact hin) hyl
      rw [hyt'] at h1 h2
      have e : (er == 0) = q := by
        cases q with
        | true => simp [h2 (hq.1 rfl)]
        | false =>
          have : er ≠ 0 := fun h => by have := hq.2 (h1 h); cases this
          simp [this]
      have := right_of y.k y.n y.s y.a y.l y.c er W' (fun W2 k2 => (hboth W2 k2).2)
      rw [e] at this
      exact this
    by_cases hck : Ck 6 t
    · rw [(readers _).2 t R hu hck]
      refine (lo_yes s w t R true hs hRl hU (hR true ⟨fun _ => hck, fun _ => rfl⟩)).mono ?_
      rintro e w' ⟨_, h2, h3⟩
      exact ⟨h2 rfl, h3⟩
    · have hv : vd 6 s.data.toList = none := by
        cases h : vd 6 s.data.toList with
        | none => rfl
        | some x =>
          obtain ⟨t', R'⟩ := x
          have h' := (readers _).1 t' R' h
          rw [hu] at h'
          obtain ⟨h1, h2⟩ := h'
          injection h1 with h1
          injection h1 with h1 h3
          rw [← h1] at h2
          exact absurd h2 hck
      rw [hv]
      refine (lo_yes s w t R false hs hRl hU (hR false ⟨fun h => (by cases h), fun h => absurd h hck⟩)).mono ?_
      rintro e w' ⟨h1, _, h3⟩
      exact ⟨h1 rfl, h3⟩

set_option maxHeartbeats 4000000 in
set_option maxRecDepth 100000 in
theorem lv_ok (s : ByteArray) (w : World) (G1 G2 : World → Got → Prop) (hsz : s.size ≤ 8000)
    (hV : ∀ W, Below w.heap.size w W → Calls Tryd.prog 13 #[.string s] W fun e w' => (∃ x : Got, e = .returned (.tuple #[.agg #[.int .i64 x.k, .int .i64 x.n, .string x.s, .slice x.a x.l x.c], .int .i64 0]) ∧ G1 w' x) ∧ Below W.heap.size W w')
    (hL : ∀ W, Below w.heap.size w W → Calls Tryd.prog 14 #[.string s] W fun e w' => e = .returned (.tuple #[.int .i64 (s.size : Int), .bool true]) ∧ Below W.heap.size W w')
    (hO : ∀ W, Below w.heap.size w W → Calls Tryd.prog 15 #[.string s] W fun e w' => (∃ y : Got, e = .returned (.tuple #[.agg #[.int .i64 y.k, .int .i64 y.n, .string y.s, .slice y.a y.l y.c], .int .i64 (s.size : Int), .bool true]) ∧ G2 w' y) ∧ Below W.heap.size W w')
    (hS : ∀ W1 (x : Got) W2 (y : Got) W3, G1 W1 x → G2 W2 y → Below W1.heap.size W1 W3 → Below W2.heap.size W2 W3 → Calls Tryd.prog 17 #[.agg #[.int .i64 x.k, .int .i64 x.n, .string x.s, .slice x.a x.l x.c], .agg #[.int .i64 y.k, .int .i64 y.n, .string y.s, .slice y.a y.l y.c]] W3 fun e w' => e = .returned (.bool true) ∧ Below W3.heap.size W3 w') :
    Calls Tryd.prog 4 #[.string s] w fun e w' => e = .returned (.bool true) ∧ Below w.heap.size w w' := by
  have HV := toHid hV
  have HL := toHid hL
  have HO := toHid hO
  have HS := toHid hS
  have hd : ¬ (8000 : Int) < (s.size : Int) := by omega
  clear hV hL hO hS
  go_enter Tryd.func4, Tryd.ntmps4
  go_wp2_with fail
  refine (HV.out _ (Below.refl _ _)).mono ?_
  rintro e w1 ⟨⟨x, rfl, hx⟩, k1⟩
  have b2 : Below w1.heap.size w1 (w1.alloc (.cells #[.int .i64 x.k, .int .i64 x.n, .string x.s, .slice x.a x.l x.c] 24)) := (Below.refl _ _).alloc (Nat.le_refl _) _
  have v2 : (w1.alloc (.cells #[.int .i64 x.k, .int .i64 x.n, .string x.s, .slice x.a x.l x.c] 24)).heap[w1.heap.size]? = some (.cells #[.int .i64 x.k, .int .i64 x.n, .string x.s, .slice x.a x.l x.c] 24 (0, 0)) := alloc_new _ _
  have z2 : (w1.alloc (.cells #[.int .i64 x.k, .int .i64 x.n, .string x.s, .slice x.a x.l x.c] 24)).heap.size = w1.heap.size + 1 := by simp
  have K2 := toHid b2
  have B2 := toHid (bel2 k1 b2)
  have V2 := toHid v2
  have Z2 := toHid z2
  have GX := toHid hx
  clear b2 v2 z2 k1 hx
  go_wp2_with fail
  refine (HL.out _ B2.out).mono ?_
  generalize w1.alloc (.cells #[.int .i64 x.k, .int .i64 x.n, .string x.s, .slice x.a x.l x.c] 24) = W2 at K2 B2 V2 Z2 ⊢
  rintro e w3 ⟨rfl, k3⟩
  have c3 := bel2 B2.out k3
  have z2 := Z2.out
  have s3 := k3.size
  have v3 := (k3.block w1.heap.size (by omega)).trans V2.out
  have K3 := toHid (bel2 K2.out k3)
  have V3 := toHid v3
  clear v3 k3
  go_wp2_with fail
  refine (HO.out _ c3).mono ?_
  rintro e w4 ⟨⟨y, rfl, hy⟩, k4⟩
  have s4 := k4.size
  have v4 := (k4.block w1.heap.size (by omega)).trans V3.out
  have c5 : Hid (Below w.heap.size w (w4.alloc (.cells #[.int .i64 y.k, .int .i64 y.n, .string y.s, .slice y.a y.l y.c] 24))) := (bel2 c3 k4).alloc (bel2 c3 k4).size _
  have b5 : Below w4.heap.size w4 (w4.alloc (.cells #[.int .i64 y.k, .int .i64 y.n, .string y.s, .slice y.a y.l y.c] 24)) := (Below.refl _ _).alloc (Nat.le_refl _) _
  have v5 := (Below.heap_alloc w4 (.cells #[.int .i64 y.k, .int .i64 y.n, .string y.s, .slice y.a y.l y.c] 24) w1.heap.size (by omega)).trans v4
  have u5 : (w4.alloc (.cells #[.int .i64 y.k, .int .i64 y.n, .string y.s, .slice y.a y.l y.c] 24)).heap[w4.heap.size]? = some (.cells #[.int .i64 y.k, .int .i64 y.n, .string y.s, .slice y.a y.l y.c] 24 (0, 0)) := alloc_new _ _
  have z5 : (w4.alloc (.cells #[.int .i64 y.k, .int .i64 y.n, .string y.s, .slice y.a y.l y.c] 24)).heap.size = w4.heap.size + 1 := by simp
  have K5 := toHid (bel2 (bel2 K3.out k4) b5)
  have J5 := toHid b5
  have V5 := toHid v5
  have U5 := toHid u5
  have Z5 := toHid z5
  have GY := toHid hy
  clear v4 v5 z5 k4 b5 u5 hy
  go_wp2_with fail
  refine (coded_true _).mono ?_
  generalize w4.alloc (.cells #[.int .i64 y.k, .int .i64 y.n, .string y.s, .slice y.a y.l y.c] 24) = W5 at c5 K5 J5 V5 U5 Z5 ⊢
  rintro e w6 ⟨rfl, k6⟩
  have z5 := Z5.out
  have s6 := k6.size
  have c6 := bel2 c5.out k6
  have v6 := (k6.block w1.heap.size (by omega)).trans V5.out
  have u6 := (k6.block w4.heap.size (by omega)).trans U5.out
  have x0 := cell_of v6 0
  have x1 := cell_of v6 1
  have x2 := cell_of v6 2
  have x3 := cell_of v6 3
  have y0 := cell_of u6 0
  have y1 := cell_of u6 1
  have y2 := cell_of u6 2
  have y3 := cell_of u6 3
  simp at x0 x1 x2 x3 y0 y1 y2 y3
  have CS := toHid (HS.out w1 x w4 y w6 GX.out GY.out (bel2 K5.out k6) (bel2 J5.out k6))
  clear v6 u6 k6 z5 z2 s3 s4 s6
  go_wp2_with fail
  refine CS.out.mono ?_
  rintro e w7 ⟨rfl, k7⟩
  have c7 := bel2 c6 k7
  go_wp2_with fail
  go_ret
  exact ⟨rfl, c7⟩

theorem law_value (B : Nat) (s : ByteArray) (w : World) (hs : s.size ≤ 140737488355328) (hB : B ≤ w.heap.size) (hT : Tabs B w) :
    Calls Tryd.prog 4 #[.string s] w fun e w' => e = .returned (.bool true) ∧ Below w.heap.size w w' := by
  have hTW : ∀ W, Below w.heap.size w W → Tabs B W ∧ B ≤ W.heap.size := fun W hW => ⟨hT.below (hW.mono hB), by have := hW.size; omega⟩
  have hLo : ∀ W, Below w.heap.size w W → _ := fun W hW => long_any B s W (by omega) (hTW W hW).2 (hTW W hW).1
  have hOf : ∀ W, Below w.heap.size w W → _ := fun W hW => longOf_any B s W hs (hTW W hW).2 (hTW W hW).1
  have main : ∀ (er : Int), (∀ n g, ((8000 < s.size ∧ er = 2) ∨ (¬ 8000 < s.size ∧ er = 11 ∧ (g = false ∨ (g = true ∧ n ≠ (s.size : Int))))) → (vd 6 s.data.toList = none → n = 0 ∧ g = false) → (∀ t R, vd 6 s.data.toList = some (t, R) → n = (s.size : Int) - (R.length : Int) ∧ g = true) → (∀ W, Below w.heap.size w W → Calls Tryd.prog 13 #[.string s] W fun e w' => e = .returned (.tuple #[.agg #[.int .i64 0, .int .i64 0, .string ⟨#[]⟩, .slice none 0 0], .int .i64 er]) ∧ Below W.heap.size W w') → Calls Tryd.prog 4 #[.string s] w fun e w' => e = .returned (.bool true) ∧ Below w.heap.size w w') := by
    intro er n g hc h0 h1 hV
    refine lv_none s w er n g hs hc hV (fun W hW => (hLo W hW).mono ?_) (fun W hW => (hOf W hW).mono ?_)
    · rintro e w' ⟨he, hb⟩
      refine ⟨?_, hb⟩
      cases hv : vd 6 s.data.toList with
      | none => obtain ⟨rfl, rfl⟩ := h0 hv; rw [hv] at he; exact he
      | some x => obtain ⟨t, R⟩ := x; obtain ⟨rfl, rfl⟩ := h1 t R hv; rw [hv] at he; exact he
    · intro e w' ho
      cases hv : vd 6 s.data.toList with
      | none =>
        obtain ⟨rfl, rfl⟩ := h0 hv
        rw [hv] at ho
        obtain ⟨he, hb⟩ := ho
        exact ⟨⟨⟨0, 0, ⟨#[]⟩, [], none, 0, 0⟩, he⟩, hb⟩
      | some x =>
        obtain ⟨t, R⟩ := x
        obtain ⟨rfl, rfl⟩ := h1 t R hv
        rw [hv] at ho
        obtain ⟨⟨y, he, _⟩, hb⟩ := ho
        exact ⟨⟨y, he⟩, hb⟩
  by_cases hbig : 8000 < s.size
  · have hV : ∀ W, Below w.heap.size w W → _ := fun W (_ : Below w.heap.size w W) => codeValue_many s W hbig (by omega)
    cases hv : vd 6 s.data.toList with
    | none => exact main 2 0 false (.inl ⟨hbig, rfl⟩) (fun _ => ⟨rfl, rfl⟩) (fun t R h => by rw [hv] at h; cases h) hV
    | some x =>
      obtain ⟨t, R⟩ := x
      exact main 2 _ true (.inl ⟨hbig, rfl⟩) (fun h => by rw [hv] at h; cases h) (fun t' R' h => by rw [hv] at h; cases h; exact ⟨rfl, rfl⟩) hV
  · have hV : ∀ W, Below w.heap.size w W → _ := fun W hW => codeValue_any B s W (by omega) (hTW W hW).2 (hTW W hW).1
    have torn : (∀ t, vd 6 s.data.toList ≠ some (t, [])) → ∀ W, Below w.heap.size w W → Calls Tryd.prog 13 #[.string s] W fun e w' => e = .returned (.tuple #[.agg #[.int .i64 0, .int .i64 0, .string ⟨#[]⟩, .slice none 0 0], .int .i64 11]) ∧ Below W.heap.size W w' := fun h W hW => (hV W hW).mono (by
      rintro e w' ⟨_, h2, hb⟩
      exact ⟨h2 h, hb⟩)
    cases hv : vd 6 s.data.toList with
    | none => exact main 11 0 false (.inr ⟨hbig, rfl, .inl rfl⟩) (fun _ => ⟨rfl, rfl⟩) (fun t R h => by rw [hv] at h; cases h) (torn (fun t h => by rw [hv] at h; cases h))
    | some x =>
      obtain ⟨t, R⟩ := x
      cases R with
      | cons c R =>
        exact main 11 ((s.size : Int) - ((c :: R).length : Int)) true (.inr ⟨hbig, rfl, .inr ⟨rfl, by rw [List.length_cons]; omega⟩⟩) (fun h => by rw [hv] at h; cases h) (fun t' R' h => by rw [hv] at h; cases h; exact ⟨rfl, rfl⟩) (torn (fun t h => by rw [hv] at h; cases h))
      | nil =>
        obtain ⟨hck, hbk⟩ := vd_back 6 _ t [] (by omega) hv
        have hlen : s.size = (bT t).length := by
          have := congrArg List.length hbk
          rw [List.append_nil] at this
          have h2 : s.data.toList.length = s.size := by simp
          omega
        have hwt := wt_bT 6 t hck
        refine lv_ok s w (fun W x => x.tree = t ∧ x.ok (fun _ => True) W) (fun W x => x.tree = t ∧ x.ok (fun _ => True) W) (by omega) (fun W hW => (hV W hW).mono ?_) (fun W hW => (hLo W hW).mono ?_) (fun W hW => (hOf W hW).mono ?_) ?_
        · rintro e w' ⟨h1, _, hb⟩
          obtain ⟨x, e1, e2, e3⟩ := h1 t hv
          exact ⟨⟨x, e1, e2, e3.kept (Nat.le_refl _) (fun i _ _ => ⟨trivial, rfl⟩)⟩, hb⟩
        · rintro e w' ⟨he, hb⟩
          rw [hv] at he
          exact ⟨by simpa using he, hb⟩
        · intro e w' ho
          rw [hv] at ho
          obtain ⟨⟨y, he, h2, h3⟩, hb⟩ := ho
          exact ⟨⟨y, by simpa using he, h2, h3⟩, hb⟩
        · rintro W1 x W2 y W3 ⟨hxt, hxo⟩ ⟨hyt, hyo⟩ k1 k2
          have hxl : LiesS W3 x.L x.a x.l := (hxo.2.2.lies _ _ _).below k1 _ _ _
          have hyl : LiesS W3 y.L y.a y.l := (hyo.2.2.lies _ _ _).below k2 _ _ _
          have hxy : T.node y.k y.n y.s y.L = .node x.k x.n x.s x.L := hyt.trans hxt.symm
          have hxt' : T.node x.k x.n x.s x.L = t := hxt
          injection hxy with e1 e2 e3 e4
          have hbnd : wtL x.L ≤ 2097152 := by rw [← hxt'] at hwt hlen; simp only [wtT] at hwt; omega
          refine same_of x.k x.n x.s x.a x.l x.c y.k y.n y.s y.a y.l y.c 0 W3 (fun W4 k4 => ?_)
          have := ref_order (wtL x.L) x.k x.n x.s x.a x.l x.c x.L y.k y.n y.s y.a y.l y.c y.L W4 (Nat.le_refl _) hbnd (by rw [e4]; exact hbnd) (hxl.below k4 _ _ _) (hyl.below k4 _ _ _)
          rw [e1, e2, e3, e4, ordT_self] at this
          rw [e1, e2, e3]
          exact this
end Go.Proofs.YtdefjgbiinahdaaDoor
