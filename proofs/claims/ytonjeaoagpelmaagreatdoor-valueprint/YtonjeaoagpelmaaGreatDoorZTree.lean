/-
  What is proved here: espalierref.PrintOf of any value that the checks take; value.Print of any value, by what its check answers.
-/
import Derived.Test.YtonjeaoagpelmaaGreatDoorZList
import Derived.Test.YtonjeaoagpelmaaGreatDoorWPrintAny
import Derived.Test.YtonjeaoagpelmaaGreatDoorWCBoth
import Derived.Lib.ItoaLen
namespace Go.Proofs.YtonjeaoagpelmaaGreatDoor
open Go.RowKit
set_option linter.unusedVariables false

/-- value.Print, of any value that lies in memory. -/
theorem print_by (B : Nat) (k n : Int) (s : ByteArray) (a : Option Addr) (l c : Nat) (L : List T) (w : World) (hB : B ≤ w.heap.size) (hT : Tabs B w) (hP : Pow10 B w) (hs : s.size ≤ 9223372036854775807) (hin : InT (.node k n s L)) (hL : LiesS w L a l) (er : Int) (hO : Own w (.agg #[.int .i64 k, .int .i64 n, .string s, .slice a l c]) 0 er) (hck : er = 0 → Ck 6 (.node k n s L)) :
    ∀ W, Below w.heap.size w W → Calls Tryz.prog 4 #[.agg #[.int .i64 k, .int .i64 n, .string s, .slice a l c]] W fun e w' => e = .returned (if er = 0 then (if (prT (.node k n s L)).length ≤ 4000 then .tuple #[.string ⟨(prT (.node k n s L)).toArray⟩, .int .i64 0] else .tuple #[.string ⟨#[]⟩, .int .i64 2]) else .tuple #[.string ⟨#[]⟩, .int .i64 er]) ∧ Below W.heap.size W w' := by
  have hC : ∀ W, Below w.heap.size w W → Calls Tryz.prog 8 #[.agg #[.int .i64 k, .int .i64 n, .string s, .slice a l c]] W fun e w' => e = .returned (.int .i64 er) ∧ Below W.heap.size W w' := fun W kW => check_of k n s a l c er W fun w2 k2 => hO w2 (below2 kW k2)
  intro W kW
  by_cases he : er = 0
  · rw [if_pos he]
    have hck' := hck he
    subst he
    have hA : ∀ W2, Below W.heap.size W W2 → Calls Tryz.prog 9 #[.slice none 0 0, .agg #[.int .i64 k, .int .i64 n, .string s, .slice a l c]] W2 fun e w' => ∃ v' L', e = .returned v' ∧ Out W2.heap.size w' v' L' ∧ AP [] (prT (.node k n s L)) L' ∧ (L'.length ≤ 12002 + 32 * 6 ∨ L' = []) ∧ Below W2.heap.size W2 w' := fun W2 k2 => by
      have kk := below2 kW k2
      exact append_tree 6 _ hck' (by decide) W2.heap.size _ [] k n s a l c L W2 w rfl hL kk.size kk (Out.nil _ _) (Nat.le_refl _) ((hP.below (kk.mono hB)).mono (Nat.le_trans hB kk.size)) (by simp)
    by_cases hlen : (prT (.node k n s L)).length ≤ 4000
    · rw [if_pos hlen]
      refine print_of k n s a l c (prT (.node k n s L)) W hlen (prT_ne hck') (fun W2 k2 => hC W2 (below2 kW k2)) (fun W2 k2 => (hA W2 k2).mono ?_)
      rintro e w' ⟨v', L', rfl, o', ap', _, b'⟩
      have e1 : L' = prT (.node k n s L) := by simpa using ap'.1 (by simpa using hlen)
      rw [e1] at o'
      exact ⟨v', rfl, o', b'⟩
    · rw [if_neg hlen]
      refine print_many k n s a l c W (fun W2 k2 => hC W2 (below2 kW k2)) (fun W2 k2 => (hA W2 k2).mono ?_)
      rintro e w' ⟨v', L', rfl, o', ap', hl', b'⟩
      have h1 : 4000 < L'.length := ap'.2 (by simp; omega)
      refine ⟨v', L', rfl, o', h1, ?_, b'⟩
      rcases hl' with h | h
      · omega
      · rw [h]; simp
  · rw [if_neg he]
    exact print_err k n s a l c er W he (fun W2 k2 => hC W2 (below2 kW k2))

theorem sumL_prs (d M : Nat) : ∀ L : List T, (∀ t ∈ L, (prT t).length ≤ M) → sumL (prs L) ≤ L.length * M
  | [], _ => by simp [prs, sumL]
  | t :: L, h => by
    have h1 := h t (List.mem_cons_self ..)
    have h2 := sumL_prs d M L fun u hu => h u (List.mem_cons_of_mem _ hu)
    have e : sumL (prs (t :: L)) = (prT t).length + sumL (prs L) := by simp [prs, sumL]
    rw [e, List.length_cons, Nat.succ_mul]
    omega

theorem digits_len20 (n : Int) (h0 : -9223372036854775808 ≤ n) (h1 : n ≤ 9223372036854775807) : (Lib.itoa n).length ≤ 8003 := Nat.le_trans (Lib.itoa_length_le n h0 h1) (by decide)

theorem prT_len : ∀ (d : Nat) (t : T), Ck d t → (prT t).length ≤ 8003 * 31 ^ d := by
  intro d
  induction d with
  | zero =>
    intro t h
    simp only [Nat.pow_zero, Nat.mul_one]
    cases h with
    | null => simp [prT]
    | bool _ n h => rcases h with rfl | rfl <;> simp [prT, boolB]
    | int _ n h0 h1 => have := digits_len20 n h0 h1; simpa [prT] using this
    | text _ s h0 h1 => have := text_len s h0; simp [prT] at this ⊢; omega
  | succ d ih =>
    intro t h
    have hM : 1 ≤ 31 ^ d := Nat.one_le_pow _ _ (by decide)
    have hp : 31 ^ (d + 1) = 31 ^ d * 31 := Nat.pow_succ ..
    have hbig : ∀ x : Nat, x ≤ 8003 → x ≤ 8003 * 31 ^ (d + 1) := fun x hx => by rw [hp]; omega
    cases h with
    | null => exact hbig _ (by simp [prT])
    | bool _ n h => exact hbig _ (by rcases h with rfl | rfl <;> simp [prT, boolB])
    | int _ n h0 h1 => exact hbig _ (by have := digits_len20 n h0 h1; simpa [prT] using this)
    | text _ s h0 h1 => exact hbig _ (by have := text_len s h0; simp [prT] at this ⊢; omega)
    | list _ L h0 h1 =>
      have hs := sumL_prs d (8003 * 31 ^ d) L fun t ht => ih t (h1 t ht)
      have hj : (joinZ (prs L)).length ≤ 30 + sumL (prs L) := by
        have hl := prs_length L
        cases hq : prs L with
        | nil => simp [joinZ]
        | cons x M =>
          have h2 : sumL (x :: M) = x.length + sumL M := by simp [sumL]
          have h3 : M.length + 1 = L.length := by rw [← hl, hq]; rfl
          simp only [joinZ, List.length_append, tailJ_len]
          omega
      have hm : L.length * (8003 * 31 ^ d) ≤ 30 * (8003 * 31 ^ d) := Nat.mul_le_mul_right _ h0
      have e : prT (.node 4 0 ⟨#[]⟩ L) = [91] ++ joinP (prs L) ++ [93] := by unfold prT; rfl
      rw [e, joinP_Z, List.length_append, List.length_append, hp]
      simp only [List.length_singleton]
      omega

set_option maxHeartbeats 2000000 in
/-- PrintOf of any value that the checks take. -/
theorem pr_tree : ∀ (d : Nat) (t : T), Ck d t → d ≤ 6 → ∀ (B : Nat) (k n : Int) (s : ByteArray) (a : Option Addr) (l c : Nat) (L : List T) (w : World), t = .node k n s L → LiesS w L a l → B ≤ w.heap.size → Pow10 B w →
    Calls Tryz.prog 7 #[.agg #[.int .i64 k, .int .i64 n, .string s, .slice a l c]] w fun e w' => e = .returned (.string ⟨(prT t).toArray⟩) ∧ Below w.heap.size w w' := by
  have flat : ∀ (d : Nat) (t : T), Ck d t → ∀ (B : Nat) (k n : Int) (s : ByteArray) (a : Option Addr) (l c : Nat) (L : List T) (w : World), t = .node k n s L → k ≠ 4 → B ≤ w.heap.size → Pow10 B w →
    Calls Tryz.prog 7 #[.agg #[.int .i64 k, .int .i64 n, .string s, .slice a l c]] w fun e w' => e = .returned (.string ⟨(prT t).toArray⟩) ∧ Below w.heap.size w w' := by
    intro d t ht B k n s a l c L w e h4 hB hP
    cases ht with
    | null =>
      injection e with e1 e2 e3 e4
      subst e1 e2 e3 e4
      exact pr_null _ _ _ _ _ _
    | bool _ n h =>
      injection e with e1 e2 e3 e4
      subst e1 e2 e3 e4
      exact pr_bool _ h _ _ _ _ _
    | int _ n h0 h1 =>
      injection e with e1 e2 e3 e4
      subst e1 e2 e3 e4
      exact pr_int B _ _ _ _ _ _ hB h0 h1 hP
    | text _ s h0 h1 =>
      injection e with e1 e2 e3 e4
      subst e1 e2 e3 e4
      exact pr_text _ _ _ _ _ _ h0
    | list _ L h0 h1 =>
      injection e with e1 e2 e3 e4
      exact absurd e1.symm h4
  intro d
  induction d with
  | zero =>
    intro t ht hd B k n s a l c L w e hL hB hP
    by_cases h4 : k = 4
    · subst h4 e
      cases ht
    · exact flat 0 t ht B k n s a l c L w e h4 hB hP
  | succ d ih =>
    intro t ht hd B k n s a l c L w e hL hB hP
    by_cases h4 : k = 4
    · subst h4 e
      cases ht with
      | list _ _ h0 h1 =>
        have e : prT (.node 4 0 ⟨#[]⟩ L) = [91] ++ joinP (prs L) ++ [93] := by unfold prT; rfl
        rw [e]
        refine pr_list 0 ⟨#[]⟩ L a l c w hL h0 ?_ ?_
        · have h2 := sumL_prs d (8003 * 31 ^ d) L fun t ht => prT_len d t (h1 t ht)
          have h3 : L.length * (8003 * 31 ^ d) ≤ 30 * (8003 * 31 ^ d) := Nat.mul_le_mul_right _ h0
          have h4 : 31 ^ d ≤ 31 ^ 5 := Nat.pow_le_pow_right (by decide) (by omega)
          have h5 : (31 : Nat) ^ 5 = 28629151 := by decide
          omega
        · intro t ht kt nt st Lt at' lt ct e hLt W k
          exact ih t (h1 t ht) (by omega) B kt nt st at' lt ct Lt W e (hLt.below k _ _ _) (Nat.le_trans hB k.size) (hP.below (k.mono hB))
    · exact flat _ t ht B k n s a l c L w e h4 hB hP
end Go.Proofs.YtonjeaoagpelmaaGreatDoor
