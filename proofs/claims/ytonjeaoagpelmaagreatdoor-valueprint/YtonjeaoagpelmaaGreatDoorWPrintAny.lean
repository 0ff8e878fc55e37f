/-
  What is proved here: see the remark of the text PrintAny (the parts of it that this seat needs).
-/
import Derived.Test.YtonjeaoagpelmaaGreatDoorWPAll3
namespace Go.Proofs.YtonjeaoagpelmaaGreatDoor
open Go.RowKit
set_option linter.unusedVariables false

set_option maxHeartbeats 2000000 in
set_option maxRecDepth 100000 in
/-- Where Check isn't content. -/
theorem print_err (k n : Int) (s : ByteArray) (a : Option Addr) (l c : Nat) (er : Int) (w : World) (he : er ≠ 0)
    (hC : ∀ W, Below w.heap.size w W → Calls Tryz.prog 8 #[.agg #[.int .i64 k, .int .i64 n, .string s, .slice a l c]] W fun e w' => e = .returned (.int .i64 er) ∧ Below W.heap.size W w') :
    Calls Tryz.prog 4 #[.agg #[.int .i64 k, .int .i64 n, .string s, .slice a l c]] w fun e w' => e = .returned (.tuple #[.string ⟨#[]⟩, .int .i64 er]) ∧ Below w.heap.size w w' := by
  have HC := toHid hC
  clear hC
  have he' : (er != 0) = true := by simp [he]
  have hb0 : ∀ o, Below w.heap.size w (w.alloc o) := fun o => (Below.refl _ _).alloc (Nat.le_refl _) _
  clear he
  go_enter Tryz.func4, Tryz.ntmps4
  go_wp2_with fail
  refine (HC.out _ (hb0 _)).mono ?_
  rintro e w1 ⟨rfl, hb1⟩
  have hw1 : Below w.heap.size w w1 := (hb0 _).trans (hb1.mono (by simp))
  go_wp2_with fail
  go_ret2
  exact ⟨rfl, hw1⟩

set_option maxHeartbeats 2000000 in
set_option maxRecDepth 100000 in
/-- Where the print is too long. -/
theorem print_many (k n : Int) (s : ByteArray) (a : Option Addr) (l c : Nat) (w : World)
    (hC : ∀ W, Below w.heap.size w W → Calls Tryz.prog 8 #[.agg #[.int .i64 k, .int .i64 n, .string s, .slice a l c]] W fun e w' => e = .returned (.int .i64 0) ∧ Below W.heap.size W w')
    (hA : ∀ W, Below w.heap.size w W → Calls Tryz.prog 9 #[.slice none 0 0, .agg #[.int .i64 k, .int .i64 n, .string s, .slice a l c]] W fun e w' => ∃ v' Q, e = .returned v' ∧ Out W.heap.size w' v' Q ∧ 4000 < Q.length ∧ Q.length ≤ 20000 ∧ Below W.heap.size W w') :
    Calls Tryz.prog 4 #[.agg #[.int .i64 k, .int .i64 n, .string s, .slice a l c]] w fun e w' => e = .returned (.tuple #[.string ⟨#[]⟩, .int .i64 2]) ∧ Below w.heap.size w w' := by
  have HC := toHid hC
  have HA := toHid hA
  clear hC hA
  have hb0 : ∀ o, Below w.heap.size w (w.alloc o) := fun o => (Below.refl _ _).alloc (Nat.le_refl _) _
  go_enter Tryz.func4, Tryz.ntmps4
  go_wp2_with fail
  refine (HC.out _ (hb0 _)).mono ?_
  rintro e w1 ⟨rfl, hb1⟩
  have hz1 : w.heap.size + 1 ≤ w1.heap.size := by have := hb1.size; simpa using this
  have hw1 : Below w.heap.size w w1 := (hb0 _).trans (hb1.mono (by simp))
  have x0 : w1.cell? ⟨w.heap.size, 0, none⟩ = some (.int .i64 k) := by rw [hb1.cell (by simp)]; simp
  have x1 : w1.cell? ⟨w.heap.size, 1, none⟩ = some (.int .i64 n) := by rw [hb1.cell (by simp)]; simp
  have x2 : w1.cell? ⟨w.heap.size, 2, none⟩ = some (.string s) := by rw [hb1.cell (by simp)]; simp
  have x3 : w1.cell? ⟨w.heap.size, 3, none⟩ = some (.slice a l c) := by rw [hb1.cell (by simp)]; simp
  clear hb1
  go_wp2_with fail
  refine (HA.out _ hw1).mono ?_
  rintro e w2 ⟨v2, Q, rfl, o2, hq, hq2, hb2⟩
  have hw2 : Below w.heap.size w w2 := hw1.trans (hb2.mono (by omega))
  obtain ⟨a2, c2, rfl⟩ := o2.len
  have hq3 : (4000 : Int) < (Q.length : Int) := by omega
  clear o2 hq
  go_wp2_with fail
  go_ret2
  exact ⟨rfl, hw2⟩

theorem digits_ne (u : Nat) : Lib.decDigits u ≠ [] := by
  unfold Lib.decDigits
  split <;> simp

theorem itoa_ne (n : Int) : Lib.itoa n ≠ [] := by
  unfold Lib.itoa
  split
  · simp
  · exact digits_ne _

theorem prT_ne {d : Nat} {t : T} (h : Ck d t) : prT t ≠ [] := by
  cases h with
  | null => unfold prT; simp
  | bool d n h => unfold prT; simp [boolB]; split <;> simp
  | int d n h0 h1 => unfold prT; simp only []; exact itoa_ne n
  | text => unfold prT; simp
  | list => unfold prT; simp

/-- value.Print, of any value that lies in memory. -/
theorem print_any (B : Nat) (k n : Int) (s : ByteArray) (a : Option Addr) (l c : Nat) (L : List T) (w : World) (hB : B ≤ w.heap.size) (hT : Tabs B w) (hP : Pow10 B w) (hs : s.size ≤ 9223372036854775807) (hin : InT (.node k n s L)) (hL : LiesS w L a l) :
    ∃ er : Int, (er = 0 → Ck 6 (.node k n s L)) ∧ ∀ W, Below w.heap.size w W → Calls Tryz.prog 4 #[.agg #[.int .i64 k, .int .i64 n, .string s, .slice a l c]] W fun e w' => e = .returned (if er = 0 then (if (prT (.node k n s L)).length ≤ 4000 then .tuple #[.string ⟨(prT (.node k n s L)).toArray⟩, .int .i64 0] else .tuple #[.string ⟨#[]⟩, .int .i64 2]) else .tuple #[.string ⟨#[]⟩, .int .i64 er]) ∧ Below W.heap.size W w' := by
  obtain ⟨er, hO, hck⟩ := ck_all B w hB hT 6 0 rfl k n s a l c L hs hin hL
  have hC : ∀ W, Below w.heap.size w W → Calls Tryz.prog 8 #[.agg #[.int .i64 k, .int .i64 n, .string s, .slice a l c]] W fun e w' => e = .returned (.int .i64 er) ∧ Below W.heap.size W w' := fun W kW => check_of k n s a l c er W fun w2 k2 => hO w2 (below2 kW k2)
  refine ⟨er, hck, fun W kW => ?_⟩
  by_cases he : er = 0
  · rw [if_pos he]
    have hck' := hck he
    subst he
    have hA : ∀ W2, Below W.heap.size W W2 → Calls Tryz.prog 9 #[.slice none 0 0, .agg #[.int .i64 k, .int .i64 n, .string s, .slice a l c]] W2 fun e w' => ∃ v' L', e = .returned v' ∧ Out W2.heap.size w' v' L' ∧ AP [] (prT (.node k n s L)) L' ∧ (L'.length ≤ 12002 + 32 * 6 ∨ L' = []) ∧ Below W2.heap.size W2 w' := fun W2 k2 => by
      have kk := below2 kW k2
      exact append_tree 6 _ hck' (by decide) W2.heap.size _ [] k n s a l c L W2 w rfl hL kk.size kk (Out.nil _ _) (Nat.le_refl _) ((hP.below (kk.mono hB)).mono (Nat.le_trans hB kk.size)) (by simp)
    by_cases hlen : (prT (.node k n s L)).length ≤ 4000
    · rw [if_pos hlen]
      refine print_of k n s a l c (prT (.node k n s L)) W hlen (prT_ne hck') (fun W2 k2 => hC W2 (below2 kW k2)) (fun W2 k2 => (hA W2 k2).mono ?_)
      rintro e w' ⟨v', L', rfl, o', ap', _, b'⟩
      have e1 : L' = prT (.node k n s L) := by simpa using ap'.1 (by simpa using hlen)
      rw [e1] at o'
      exact ⟨v', rfl, o', b'⟩
    · rw [if_neg hlen]
      refine print_many k n s a l c W (fun W2 k2 => hC W2 (below2 kW k2)) (fun W2 k2 => (hA W2 k2).mono ?_)
      rintro e w' ⟨v', L', rfl, o', ap', hl', b'⟩
      have h1 : 4000 < L'.length := ap'.2 (by simp; omega)
      refine ⟨v', L', rfl, o', h1, ?_, b'⟩
      rcases hl' with h | h
      · omega
      · rw [h]; simp
  · rw [if_neg he]
    exact print_err k n s a l c er W he (fun W2 k2 => hC W2 (below2 kW k2))

end Go.Proofs.YtonjeaoagpelmaaGreatDoor
