/-
  What is proved here: the law CodeBytes answers true of any value; what was there is as it was.
-/
import Derived.Test.YtdefjgbiinahdaaDoorCTreeA
import Derived.Test.YtdefjgbiinahdaaDoorCBytesOf2
import Derived.Test.YtdefjgbiinahdaaDoorCBoth
namespace Go.Proofs.YtdefjgbiinahdaaDoor
open Go.RowKit
set_option linter.unusedVariables false

/-- The box of a parameter. -/
def BX (w : World) (vb : Nat) (k n : Int) (s : ByteArray) (a : Option Addr) (l c : Nat) : Prop := w.heap[vb]? = some (.cells #[.int .i64 k, .int .i64 n, .string s, .slice a l c] 24 (0, 0))

theorem BX.cells {w : World} {vb : Nat} {k n : Int} {s : ByteArray} {a : Option Addr} {l c : Nat} (h : BX w vb k n s a l c) : w.cell? ⟨vb, 0, none⟩ = some (.int .i64 k) ∧ w.cell? ⟨vb, 1, none⟩ = some (.int .i64 n) ∧ w.cell? ⟨vb, 2, none⟩ = some (.string s) ∧ w.cell? ⟨vb, 3, none⟩ = some (.slice a l c) :=
  ⟨by have := cell_of h 0; simpa using this, by have := cell_of h 1; simpa using this, by have := cell_of h 2; simpa using this, by have := cell_of h 3; simpa using this⟩

/-- Bytes and CheckValue answer alike. -/
theorem bytes_both (B : Nat) (k n : Int) (s : ByteArray) (a : Option Addr) (l c : Nat) (L : List T) (w : World) (hB : B ≤ w.heap.size) (hT : Tabs B w) (hs : s.size ≤ 9223372036854775807) (hin : InT (.node k n s L)) (hL : LiesS w L a l) :
    ∃ er : Int, (er = 0 → Ck 6 (.node k n s L)) ∧ (∀ W, Below w.heap.size w W → Calls Tryd.prog 10 #[.agg #[.int .i64 k, .int .i64 n, .string s, .slice a l c], .int .i64 1] W fun e w' => e = .returned (.int .i64 er) ∧ Below W.heap.size W w') ∧ ∀ W, Below w.heap.size w W → Calls Tryd.prog 9 #[.agg #[.int .i64 k, .int .i64 n, .string s, .slice a l c]] W fun e w' => e = .returned (bytesR er (bT (.node k n s L))) ∧ Below W.heap.size W w' := by
  obtain ⟨er, hboth, hck⟩ := bk_all B w hB hT 6 0 rfl k n s a l c L hs hin hL
  refine ⟨er, hck, fun W hW => (hboth W hW).2, fun W hW => ?_⟩
  have hC : ∀ W2, Below W.heap.size W W2 → Calls Tryd.prog 24 #[.agg #[.int .i64 k, .int .i64 n, .string s, .slice a l c]] W2 fun e w' => e = .returned (.int .i64 er) ∧ Below W2.heap.size W2 w' := fun W2 h2 =>
    check_of k n s a l c er W2 fun w3 h3 => (hboth w3 (bel2 (bel2 hW h2) h3)).1
  by_cases he : er = 0
  · subst he
    have ht := hck rfl
    unfold bytesR
    rw [if_pos rfl]
    refine (bytes_of k n s a l c W (fun Q => AB [] (bT (.node k n s L)) Q) hC (fun W2 h2 => ?_)).mono ?_
    · refine (b_tree 6 _ ht W2.heap.size (.slice none 0 0) [] k n s a l c L W2 w rfl hL (by have := (bel2 hW h2).size; omega) (bel2 hW h2) (Out.nil _ _) (Nat.le_refl _) (by simp)).mono ?_
      rintro e w' ⟨v', L', rfl, o', ap', hl', b'⟩
      have hne : L' ≠ [] := by
        intro h
        subst h
        have h1 := bT_ne (.node k n s L)
        by_cases hq : ([] ++ bT (.node k n s L)).length ≤ 8000
        · exact h1 (by simpa using (ap'.1 hq).symm)
        · have := ap'.2 (by omega)
          simp at this
      refine ⟨v', L', rfl, o', ap', hne, ?_, b'⟩
      rcases hl' with h | h
      · omega
      · exact absurd h hne
    · rintro e w' ⟨Q, ap, h1, h2, hb⟩
      refine ⟨?_, hb⟩
      by_cases hq : (bT (.node k n s L)).length ≤ 8000
      · rw [if_pos hq]
        have := ap.1 (by simpa using hq)
        rw [List.nil_append] at this
        rw [← this] at hq ⊢
        exact h1 hq
      · rw [if_neg hq]
        exact h2 (ap.2 (by simp; omega))
  · unfold bytesR
    rw [if_neg he]
    exact bytes_bad k n s a l c er W he hC

set_option maxHeartbeats 2000000 in
set_option maxRecDepth 100000 in
theorem lb_err (k n : Int) (s : ByteArray) (a : Option Addr) (l c : Nat) (er : Int) (w : World) (he : er ≠ 0)
    (hB : ∀ W, Below w.heap.size w W → Calls Tryd.prog 9 #[.agg #[.int .i64 k, .int .i64 n, .string s, .slice a l c]] W fun e w' => e = .returned (.tuple #[.string ⟨#[]⟩, .int .i64 er]) ∧ Below W.heap.size W w')
    (hC : ∀ W, Below w.heap.size w W → Calls Tryd.prog 10 #[.agg #[.int .i64 k, .int .i64 n, .string s, .slice a l c], .int .i64 1] W fun e w' => e = .returned (.int .i64 er) ∧ Below W.heap.size W w') :
    Calls Tryd.prog 3 #[.agg #[.int .i64 k, .int .i64 n, .string s, .slice a l c]] w fun e w' => e = .returned (.bool true) ∧ Below w.heap.size w w' := by
  have HB := toHid hB
  have HC := toHid hC
  have he' : (er != 0) = true := by simp [he]
  have b0 : Below w.heap.size w (w.alloc (.cells #[.int .i64 k, .int .i64 n, .string s, .slice a l c] 24)) := (Below.refl _ _).alloc (Nat.le_refl _) _
  have hx : BX (w.alloc (.cells #[.int .i64 k, .int .i64 n, .string s, .slice a l c] 24)) w.heap.size k n s a l c := alloc_new _ _
  have z0 : (w.alloc (.cells #[.int .i64 k, .int .i64 n, .string s, .slice a l c] 24)).heap.size = w.heap.size + 1 := by simp
  have HX := toHid hx
  have Z0 := toHid z0
  clear hB hC he hx z0
  go_enter Tryd.func3, Tryd.ntmps3
  go_wp2_with fail
  refine (HB.out _ b0).mono ?_
  generalize w.alloc (.cells #[.int .i64 k, .int .i64 n, .string s, .slice a l c] 24) = W0 at b0 HX Z0 ⊢
  rintro e w1 ⟨rfl, k1⟩
  have c1 := bel2 b0 k1
  have z := Z0.out
  have v1 : BX w1 w.heap.size k n s a l c := (k1.block w.heap.size (by omega)).trans HX.out
  obtain ⟨p0, p1, p2, p3⟩ := v1.cells
  clear v1 z
  go_wp2_with fail
  refine (HC.out _ c1).mono ?_
  rintro e w2 ⟨rfl, k2⟩
  have c2 := bel2 c1 k2
  clear p0 p1 p2 p3
  go_wp2_with fail
  refine (coded_true _).mono ?_
  rintro e w3 ⟨rfl, k3⟩
  have c3 := bel2 c2 k3
  go_wp2_with fail
  refine (coded_true _).mono ?_
  rintro e w4 ⟨rfl, k4⟩
  have c4 := bel2 c3 k4
  go_wp2_with fail
  go_ret
  exact ⟨rfl, c4⟩

set_option maxHeartbeats 2000000 in
set_option maxRecDepth 100000 in
theorem lb_ok (k n : Int) (s : ByteArray) (a : Option Addr) (l c : Nat) (str want : ByteArray) (er : Int) (w : World) (hq : (want.size ≤ 8000 ∧ er = 0 ∧ str = want) ∨ (¬ want.size ≤ 8000 ∧ er = 2 ∧ str = ⟨#[]⟩)) (hwant : want.size ≤ 9223372036854775807)
    (hB : ∀ W, Below w.heap.size w W → Calls Tryd.prog 9 #[.agg #[.int .i64 k, .int .i64 n, .string s, .slice a l c]] W fun e w' => e = .returned (.tuple #[.string str, .int .i64 er]) ∧ Below W.heap.size W w')
    (hC : ∀ W, Below w.heap.size w W → Calls Tryd.prog 10 #[.agg #[.int .i64 k, .int .i64 n, .string s, .slice a l c], .int .i64 1] W fun e w' => e = .returned (.int .i64 0) ∧ Below W.heap.size W w')
    (hO : ∀ W, Below w.heap.size w W → Calls Tryd.prog 12 #[.agg #[.int .i64 k, .int .i64 n, .string s, .slice a l c]] W fun e w' => e = .returned (.string want) ∧ Below W.heap.size W w') :
    Calls Tryd.prog 3 #[.agg #[.int .i64 k, .int .i64 n, .string s, .slice a l c]] w fun e w' => e = .returned (.bool true) ∧ Below w.heap.size w w' := by
  have HB := toHid hB
  have HC := toHid hC
  have HO := toHid hO
  have HQ := toHid hq
  have b0 : Below w.heap.size w (w.alloc (.cells #[.int .i64 k, .int .i64 n, .string s, .slice a l c] 24)) := (Below.refl _ _).alloc (Nat.le_refl _) _
  have hx : BX (w.alloc (.cells #[.int .i64 k, .int .i64 n, .string s, .slice a l c] 24)) w.heap.size k n s a l c := alloc_new _ _
  have z0 : (w.alloc (.cells #[.int .i64 k, .int .i64 n, .string s, .slice a l c] 24)).heap.size = w.heap.size + 1 := by simp
  have HX := toHid hx
  have Z0 := toHid z0
  clear hB hC hO hx z0 hq
  go_enter Tryd.func3, Tryd.ntmps3
  go_wp2_with fail
  refine (HB.out _ b0).mono ?_
  generalize w.alloc (.cells #[.int .i64 k, .int .i64 n, .string s, .slice a l c] 24) = W0 at b0 HX Z0 ⊢
  rintro e w1 ⟨rfl, k1⟩
  have c1 := bel2 b0 k1
  have z := Z0.out
  have s1 := k1.size
  have v1 : BX w1 w.heap.size k n s a l c := (k1.block w.heap.size (by omega)).trans HX.out
  obtain ⟨p0, p1, p2, p3⟩ := v1.cells
  have V1 := toHid v1
  clear v1 
  go_wp2_with fail
  refine (HC.out _ c1).mono ?_
  rintro e w2 ⟨rfl, k2⟩
  have c2 := bel2 c1 k2
  have s2 := k2.size
  have v2 : BX w2 w.heap.size k n s a l c := (k2.block w.heap.size (by omega)).trans V1.out
  have V2 := toHid v2
  clear p0 p1 p2 p3 V1 v2
  go_wp2_with fail
  refine (coded_true _).mono ?_
  rintro e w3 ⟨rfl, k3⟩
  have c3 := bel2 c2 k3
  have s3 := k3.size
  have v3 : BX w3 w.heap.size k n s a l c := (k3.block w.heap.size (by omega)).trans V2.out
  obtain ⟨p0, p1, p2, p3⟩ := v3.cells
  clear v3 V2 z
  go_wp2_with fail
  refine (HO.out _ c3).mono ?_
  rintro e w4 ⟨rfl, k4⟩
  have c4 := bel2 c3 k4
  clear p0 p1 p2 p3
  rcases HQ.out with ⟨h1, h2, h3⟩ | ⟨h1, h2, h3⟩
  · subst h2 h3
    have hd : ¬ (8000 : Int) < (str.size : Int) := by omega
    go_wp2_with fail
    go_ret
    exact ⟨by simp, c4⟩
  · subst h2 h3
    have hd : (8000 : Int) < (want.size : Int) := by omega
    go_wp2_with fail
    go_ret
    exact ⟨rfl, c4⟩

theorem law_bytes (B : Nat) (k n : Int) (s : ByteArray) (a : Option Addr) (l c : Nat) (L : List T) (w : World) (hB : B ≤ w.heap.size) (hT : Tabs B w) (hs : s.size ≤ 9223372036854775807) (hin : InT (.node k n s L)) (hL : LiesS w L a l) :
    Calls Tryd.prog 3 #[.agg #[.int .i64 k, .int .i64 n, .string s, .slice a l c]] w fun e w' => e = .returned (.bool true) ∧ Below w.heap.size w w' := by
  obtain ⟨er, hck, hCh, hBy⟩ := bytes_both B k n s a l c L w hB hT hs hin hL
  by_cases he : er = 0
  · have ht := hck he
    subst he
    have hlen := bT_len 6 _ ht
    have h7 : (31 : Nat) ^ 6 = 887503681 := by decide
    have hsz : (⟨(bT (.node k n s L)).toArray⟩ : ByteArray).size = (bT (.node k n s L)).length := by simp [ByteArray.size]
    have hO : ∀ W, Below w.heap.size w W → Calls Tryd.prog 12 #[.agg #[.int .i64 k, .int .i64 n, .string s, .slice a l c]] W fun e w' => e = .returned (.string ⟨(bT (.node k n s L)).toArray⟩) ∧ Below W.heap.size W w' := fun W hW => bo_tree 6 _ ht (Nat.le_refl _) k n s a l c L W w rfl hL hW
    by_cases hq : (bT (.node k n s L)).length ≤ 8000
    · have hR : bytesR 0 (bT (.node k n s L)) = .tuple #[.string ⟨(bT (.node k n s L)).toArray⟩, .int .i64 0] := by unfold bytesR; rw [if_pos rfl, if_pos hq]
      rw [hR] at hBy
      exact lb_ok k n s a l c _ _ 0 w (.inl ⟨by rw [hsz]; exact hq, rfl, rfl⟩) (by rw [hsz]; omega) hBy hCh hO
    · have hR : bytesR 0 (bT (.node k n s L)) = .tuple #[.string ⟨#[]⟩, .int .i64 2] := by unfold bytesR; rw [if_pos rfl, if_neg hq]
      rw [hR] at hBy
      exact lb_ok k n s a l c _ _ 2 w (.inr ⟨by rw [hsz]; exact hq, rfl, rfl⟩) (by rw [hsz]; omega) hBy hCh hO
  · have hR : bytesR er (bT (.node k n s L)) = .tuple #[.string ⟨#[]⟩, .int .i64 er] := by unfold bytesR; rw [if_neg he]
    rw [hR] at hBy
    exact lb_err k n s a l c er w he hBy hCh
end Go.Proofs.YtdefjgbiinahdaaDoor
