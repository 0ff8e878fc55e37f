/-
  What is proved here: the bytes of a value are read as it, whatever follows.
-/
import Derived.Test.YtdefjgbiinahdabDoorCValue3
import Derived.Test.YtdefjgbiinahdabDoorCTreeA
namespace Go.Proofs.YtdefjgbiinahdabDoor
open Go.RowKit
set_option linter.unusedVariables false

theorem dn_up (n : Int) (h0 : -9223372036854775808 ≤ n) (h1 : n ≤ 9223372036854775807) : dn (ofHi (hiB (up n) 8)) = n := by
  have h3 : (256 : Nat) ^ 8 = 18446744073709551616 := by decide
  rw [ofHi_hiB _ _ (by rw [h3]; unfold up; omega)]
  unfold dn up
  omega

theorem data_back (s : ByteArray) : (⟨s.data.toList.toArray⟩ : ByteArray) = s := by simp

/-- The bytes of a value are read as it, whatever follows. -/
theorem vd_bT : ∀ (d : Nat) (t : T), Ck d t → d ≤ 6 → ∀ rest, vd d (bT t ++ rest) = some (t, rest) := by
  have flat : ∀ (lists d : Nat) (t : T), Ck d t → (∀ k n s L, t = .node k n s L → k ≠ 4) → ∀ rest, ∃ x : Hd, hd lists (bT t ++ rest) = some (x, rest) ∧ x.i = 0 ∧ T.node x.k x.n ⟨x.s.toArray⟩ [] = t := by
    intro lists d t ht h4 rest
    cases ht with
    | null d => exact ⟨⟨0, 0, [], 0⟩, by unfold bT; simp [hd], rfl, rfl⟩
    | bool d m h =>
      have hm := dn_up m (by omega) (by omega)
      refine ⟨⟨1, m, [], 0⟩, ?_, rfl, rfl⟩
      have e : bT (.node 1 m ⟨#[]⟩ []) ++ rest = 1 :: (hiB (up m) 8 ++ rest) := by unfold bT; rfl
      rw [e]
      simp only [hd]
      rw [if_neg (by decide), if_pos trivial, List.take_left' (hiB_length _ _), List.drop_left' (hiB_length _ _), hm, if_pos ⟨by simp [hiB_length], h⟩]
    | int d m h0 h1 =>
      have hm := dn_up m h0 h1
      refine ⟨⟨2, m, [], 0⟩, ?_, rfl, rfl⟩
      have e : bT (.node 2 m ⟨#[]⟩ []) ++ rest = 2 :: (hiB (up m) 8 ++ rest) := by unfold bT; rfl
      rw [e]
      simp only [hd]
      rw [if_neg (by decide), if_neg (by decide), if_pos trivial, List.take_left' (hiB_length _ _), List.drop_left' (hiB_length _ _), hm, if_pos (by simp [hiB_length])]
    | text d u h0 h1 =>
      refine ⟨⟨3, 0, u.data.toList, 0⟩, ?_, rfl, by rw [data_back]⟩
      have e : bT (.node 3 0 u []) ++ rest = 3 :: (hiB u.size 2 ++ (u.data.toList ++ rest)) := by unfold bT; simp
      have hm : ofHi (hiB u.size 2) = u.size := ofHi_hiB _ _ (Nat.lt_of_le_of_lt h0 (by decide))
      have hlen : u.data.toList.length = u.size := by simp
      rw [e]
      simp only [hd]
      rw [if_neg (by decide), if_neg (by decide), if_neg (by decide), if_pos trivial, List.take_left' (hiB_length _ _), hm, List.drop_left' (hiB_length _ _), List.take_left' hlen, if_pos ⟨by simp [hiB_length], by simp [hiB_length], h0, h1⟩]
      rw [← List.append_assoc, List.drop_left' (by rw [List.length_append, hiB_length, hlen])]
    | list d M h0 h1 => exact absurd rfl (h4 4 0 ⟨#[]⟩ M rfl)
  intro d
  induction d with
  | zero =>
    intro t ht _ rest
    obtain ⟨x, e1, e2, e3⟩ := flat 6 0 t ht (fun k n s L e h => by subst h; subst e; cases ht) rest
    simp only [vd, e1]
    rw [e3]
  | succ d ih =>
    intro t ht hd6 rest
    by_cases h4 : ∃ L, t = .node 4 0 ⟨#[]⟩ L ∧ L.length ≤ 30 ∧ ∀ u ∈ L, Ck d u
    · obtain ⟨L, rfl, hl, hck⟩ := h4
      have hm : ofHi (hiB L.length 1) = L.length := ofHi_hiB _ _ (by omega)
      have e1 : hd (6 - (d + 1)) (bT (.node 4 0 ⟨#[]⟩ L) ++ rest) = some (⟨4, 0, [], L.length⟩, bL L ++ rest) := by
        rw [bT_list, List.cons_append, List.append_assoc]
        simp only [hd]
        rw [if_neg (by decide), if_neg (by decide), if_neg (by decide), if_neg (by decide), if_pos trivial, List.take_left' (hiB_length _ _), hm, List.drop_left' (hiB_length _ _), if_pos ⟨by simp [hiB_length], hl, by omega⟩]
      have e2 : ∀ M : List T, (∀ u ∈ M, Ck d u) → vds (vd d) M.length (bL M ++ rest) = some (M, rest) := by
        intro M
        induction M with
        | nil => intro _; simp [vds, bL]
        | cons u us ihM =>
          intro hM
          rw [List.length_cons, vds]
          have : bL (u :: us) ++ rest = bT u ++ (bL us ++ rest) := by rw [bL_cons, List.append_assoc]
          rw [this, ih u (hM u (List.mem_cons_self ..)) (by omega)]
          simp only
          rw [ihM (fun y hy => hM y (List.mem_cons_of_mem _ hy))]
      simp only [vd, e1]
      rw [e2 L hck]
    · obtain ⟨x, e1, e2, e3⟩ := flat (6 - (d + 1)) (d + 1) t ht (fun k n s L e h => by
        subst h; subst e
        cases ht with
        | list d M h0 h1 => exact h4 ⟨_, rfl, h0, h1⟩) rest
      simp only [vd, e1, e2, vds]
      rw [e3]
end Go.Proofs.YtdefjgbiinahdabDoor
