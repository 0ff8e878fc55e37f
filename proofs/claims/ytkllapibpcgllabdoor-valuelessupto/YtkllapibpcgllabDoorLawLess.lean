/-
  What is proved here: the law ValueLess answers true of every two values that lie in memory as trees no greater than two to the twentieth, wherever the tables that Go's library reads lie as they were laid; what was there is as it was.
-/
import Derived.Test.YtkllapibpcgllabDoorLessWalk
namespace Go.Proofs.YtkllapibpcgllabDoor
open Go.RowKit
set_option linter.unusedVariables false

theorem law_less (B : Nat) (k n : Int) (s : ByteArray) (a : Option Addr) (l c : Nat) (k' n' : Int) (s' : ByteArray) (a' : Option Addr) (l' c' : Nat) (L L' : List T) (w : World) (hB : B ≤ w.heap.size) (hT : Tabs B w) (hP : Pow10 B w) (hL : LiesS w L a l) (hL' : LiesS w L' a' l') (hc : l ≤ c) (hc' : l' ≤ c') (hs : s.size ≤ 9223372036854775807) (hs' : s'.size ≤ 9223372036854775807) (hw : wtL L + 2 ≤ 2097152) (hw' : wtL L' + 2 ≤ 2097152) :
    Calls Tryd.prog 3 #[.agg #[.int .i64 k, .int .i64 n, .string s, .slice a l c], .agg #[.int .i64 k', .int .i64 n', .string s', .slice a' l' c']] w fun e w' => e = .returned (.bool true) ∧ Below w.heap.size w w' := by
  have hV : ∀ W, Below w.heap.size w W → Calls Tryd.prog 6 #[] W fun e w' => e = .returned (.bool true) ∧ Below W.heap.size W w' := fun W kW => valued_true B W (by have := kW.size; omega) (hT.below (kW.mono hB)) (hP.below (kW.mono hB))
  have hS : ∀ W, Below w.heap.size w W → Calls Tryd.prog 5 #[.agg #[.int .i64 k, .int .i64 n, .string s, .slice a l c], .agg #[.int .i64 k', .int .i64 n', .string s', .slice a' l' c']] W fun e w' => e = .returned (sameV (sameT (.node k n s L) (.node k' n' s' L'))) ∧ Below W.heap.size W w' := fun W kW => same_any k n s a l c k' n' s' a' l' c' L L' W (hL.below kW _ _ _) (hL'.below kW _ _ _) hc hc' hs hs' hw
  by_cases h : k ≠ k' ∨ (k ≠ 2 ∧ k ≠ 3)
  · obtain ⟨zk, zn, hz⟩ : ∃ zk zn : Int, sameV (sameT (.node k n s L) (.node k' n' s' L')) = .agg #[.int .i64 zk, .int .i64 zn, .string ⟨#[]⟩, .slice none 0 0] := by
      unfold sameV
      split
      · exact ⟨_, _, rfl⟩
      · exact ⟨_, _, rfl⟩
    rw [hz] at hS
    exact less_walk k n s a l c k' n' s' a' l' c' 0 0 0 0 zk zn w (fun W kW => less_null k n s a l c k' n' s' a' l' c' W h) (fun W kW => less_null k' n' s' a' l' c' k n s a l c W (by omega)) hS hV (.inl ⟨rfl, rfl⟩)
  · obtain rfl : k = k' := by omega
    obtain ⟨z, hz⟩ : ∃ z, ordT (.node k n s L) (.node k n' s' L') = z := ⟨_, rfl⟩
    have hz' : ordT (.node k n' s' L') (.node k n s L) = -z := by rw [← hz]; exact ordT_neg _ _
    rw [same_plain k n s L n' s' L' (by omega) (by omega), hz] at hS
    have hS' : ∀ W, Below w.heap.size w W → Calls Tryd.prog 5 #[.agg #[.int .i64 k, .int .i64 n, .string s, .slice a l c], .agg #[.int .i64 k, .int .i64 n', .string s', .slice a' l' c']] W fun e w' => e = .returned (.agg #[.int .i64 1, .int .i64 (if z = 0 then 1 else 0), .string ⟨#[]⟩, .slice none 0 0]) ∧ Below W.heap.size W w' := fun W kW => by
      have := hS W kW
      by_cases e : z = 0
      · rw [if_pos e] at this ⊢
        exact this
      · rw [if_neg e] at this ⊢
        exact this
    refine less_walk k n s a l c k n' s' a' l' c' 1 (if z < 0 then 1 else 0) 1 (if -z < 0 then 1 else 0) 1 (if z = 0 then 1 else 0) w
      (fun W kW => less_ord k n s a l c n' s' a' l' c' z W (by omega) (fun W2 k2 => by rw [← hz]; exact order_any k n s a l c k n' s' a' l' c' L L' W2 (hL.below (below2 kW k2) _ _ _) (hL'.below (below2 kW k2) _ _ _) hc hc' (by omega)))
      (fun W kW => less_ord k n' s' a' l' c' n s a l c (-z) W (by omega) (fun W2 k2 => by rw [← hz']; exact order_any k n' s' a' l' c' k n s a l c L' L W2 (hL'.below (below2 kW k2) _ _ _) (hL.below (below2 kW k2) _ _ _) hc' hc (by omega)))
      hS' hV (.inr ⟨rfl, rfl, ?_⟩)
    rcases Int.lt_trichotomy z 0 with h1 | h1 | h1
    · have h2 : ¬ -z < 0 := by omega
      have h3 : ¬ z = 0 := by omega
      rw [if_pos h1, if_neg h2, if_neg h3]
      omega
    · subst h1
      simp
    · have h2 : -z < 0 := by omega
      have h3 : ¬ z = 0 := by omega
      have h4 : ¬ z < 0 := by omega
      rw [if_neg h4, if_pos h2, if_neg h3]
      omega
end Go.Proofs.YtkllapibpcgllabDoor
