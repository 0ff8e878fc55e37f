/-
  What is proved here: code.Bytes of any value; how much its tree weighs.
-/
import Derived.Test.YtdefjgbiinahdabDoorCTree
import Derived.Test.YtdefjgbiinahdabDoorPRefTree
namespace Go.Proofs.YtdefjgbiinahdabDoor
open Go.RowKit
set_option linter.unusedVariables false

theorem data_join (A F : ByteArray) : (A ++ F).data.toList = A.data.toList ++ F.data.toList := by
  rw [ByteArray.data_append]
  simp

theorem bytes_any (B : Nat) (k n : Int) (s : ByteArray) (a : Option Addr) (l c : Nat) (L : List T) (w : World) (hB : B ≤ w.heap.size) (hT : Tabs B w) (hs : s.size ≤ 9223372036854775807) (hin : InT (.node k n s L)) (hL : LiesS w L a l) :
    ∃ er : Int, (er = 0 → Ck 6 (.node k n s L)) ∧ ∀ W, Below w.heap.size w W → Calls Tryd.prog 4 #[.agg #[.int .i64 k, .int .i64 n, .string s, .slice a l c]] W fun e w' => e = .returned (bytesR er (bT (.node k n s L))) ∧ Below W.heap.size W w' := by
  obtain ⟨er, hown, hck⟩ := ck_all B w hB hT 6 0 rfl k n s a l c L hs hin hL
  refine ⟨er, hck, fun W hW => ?_⟩
  have hC : ∀ W2, Below W.heap.size W W2 → Calls Tryd.prog 9 #[.agg #[.int .i64 k, .int .i64 n, .string s, .slice a l c]] W2 fun e w' => e = .returned (.int .i64 er) ∧ Below W2.heap.size W2 w' := fun W2 h2 =>
    check_of k n s a l c er W2 fun w3 h3 => hown w3 (bel2 (bel2 hW h2) h3)
  by_cases he : er = 0
  · subst he
    have ht := hck rfl
    unfold bytesR
    rw [if_pos rfl]
    refine (bytes_of k n s a l c W (fun Q => AB [] (bT (.node k n s L)) Q) hC (fun W2 h2 => ?_)).mono ?_
    · refine (b_tree 6 _ ht W2.heap.size (.slice none 0 0) [] k n s a l c L W2 w rfl hL (by have := (bel2 hW h2).size; omega) (bel2 hW h2) (Out.nil _ _) (Nat.le_refl _) (by simp)).mono ?_
      rintro e w' ⟨v', L', rfl, o', ap', hl', b'⟩
      have hne : L' ≠ [] := by
        intro h
        subst h
        have h1 := bT_ne (.node k n s L)
        by_cases hq : ([] ++ bT (.node k n s L)).length ≤ 8000
        · exact h1 (by simpa using (ap'.1 hq).symm)
        · have := ap'.2 (by omega)
          simp at this
      refine ⟨v', L', rfl, o', ap', hne, ?_, b'⟩
      rcases hl' with h | h
      · omega
      · exact absurd h hne
    · rintro e w' ⟨Q, ap, h1, h2, hb⟩
      refine ⟨?_, hb⟩
      by_cases hq : (bT (.node k n s L)).length ≤ 8000
      · rw [if_pos hq]
        have := ap.1 (by simpa using hq)
        rw [List.nil_append] at this
        rw [← this] at hq ⊢
        exact h1 hq
      · rw [if_neg hq]
        exact h2 (ap.2 (by simp; omega))
  · unfold bytesR
    rw [if_neg he]
    exact bytes_bad k n s a l c er W he hC

theorem wt_bT : ∀ (d : Nat) (t : T), Ck d t → wtT t ≤ 2 * (bT t).length := by
  have flat : ∀ (k n : Int) (s : ByteArray), wtT (.node k n s []) ≤ 2 * (bT (.node k n s [])).length := by
    intro k n s
    have := List.length_pos_iff.2 (bT_ne (.node k n s []))
    simp only [wtT, wtL]
    omega
  intro d
  induction d with
  | zero =>
    intro t h
    cases h with
    | null => exact flat _ _ _
    | bool => exact flat _ _ _
    | int => exact flat _ _ _
    | text => exact flat _ _ _
  | succ d ih =>
    intro t h
    cases h with
    | null => exact flat _ _ _
    | bool => exact flat _ _ _
    | int => exact flat _ _ _
    | text => exact flat _ _ _
    | list d L g0 g1 =>
      have e : ∀ M : List T, (∀ u ∈ M, Ck d u) → wtL M ≤ 2 * (bL M).length + 1 := by
        intro M
        induction M with
        | nil => intro _; simp [wtL]
        | cons u us ihM =>
          intro hM
          have h1 := ih u (hM u (List.mem_cons_self ..))
          have h2 := ihM (fun y hy => hM y (List.mem_cons_of_mem _ hy))
          rw [bL_cons, List.length_append]
          have h3 : wtL (u :: us) = wtT u + wtL us := by conv => lhs; unfold wtL
          omega
      have := e L g1
      rw [bT_list]
      simp only [wtT, List.length_cons, List.length_append]
      omega
end Go.Proofs.YtdefjgbiinahdabDoor
