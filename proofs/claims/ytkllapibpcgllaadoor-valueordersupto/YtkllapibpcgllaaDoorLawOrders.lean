/-
  What is proved here: the law ValueOrders answers true of every three values that lie in memory as trees no greater than two to the twentieth, wherever the tables that Go's library reads lie as they were laid; what was there is as it was.
-/
import Derived.Test.YtkllapibpcgllaaDoorWellCheck
import Derived.Test.YtkllapibpcgllaaDoorValued
import Derived.Deep.RegionHeld3
namespace Go.Proofs.YtkllapibpcgllaaDoor
open Go.RowKit
set_option linter.unusedVariables false

/-- One of three numbers. -/
def Sgn (x : Int) : Prop := x = -1 ∨ x = 0 ∨ x = 1

theorem cmpI_sgn (a b : Int) : Sgn (cmpI a b) := by
  unfold cmpI Sgn
  split
  · exact .inl rfl
  · split
    · exact .inr (.inr rfl)
    · exact .inr (.inl rfl)

theorem lex_sgn {p q : Int} (hp : Sgn p) (hq : Sgn q) : Sgn (lex p q) := by
  unfold lex
  split
  · exact hq
  · exact hp

theorem cmpB_sgn : ∀ x y : List UInt8, Sgn (cmpB x y)
  | [], [] => .inr (.inl rfl)
  | [], _ :: _ => .inl rfl
  | _ :: _, [] => .inr (.inr rfl)
  | a :: x, b :: y => by unfold cmpB; exact lex_sgn (cmpI_sgn _ _) (cmpB_sgn x y)

mutual
theorem ordT_sgn : ∀ t u : T, Sgn (ordT t u)
  | .node k n s L, .node k' n' s' L' => by
    rw [ordT_lex, cmpP_lex]
    exact lex_sgn (lex_sgn (cmpI_sgn _ _) (lex_sgn (cmpI_sgn _ _) (cmpB_sgn _ _))) (ordL_sgn L L')
theorem ordL_sgn : ∀ x y : List T, Sgn (ordL x y)
  | [], [] => by rw [ordL_nil]; exact .inr (.inl rfl)
  | [], _ :: _ => by rw [ordL_nil_cons]; exact .inl rfl
  | _ :: _, [] => by rw [ordL_cons_nil]; exact .inr (.inr rfl)
  | t :: ts, u :: us => by rw [ordL_lex]; exact lex_sgn (ordT_sgn t u) (ordL_sgn ts us)
end

/-- What the law's last row asks. -/
theorem last_row (t u : T) (ea eb : Int) (ha : ea = 0 → Well t) (hb : eb = 0 → Well u) : ∃ sk sn : Int, sameV (sameT t u) = .agg #[.int .i64 sk, .int .i64 sn, .string ⟨#[]⟩, .slice none 0 0] ∧ (ea ≠ 0 ∨ (ea = 0 ∧ eb ≠ 0) ∨ (ea = 0 ∧ eb = 0 ∧ sk = 0) ∨ (ea = 0 ∧ eb = 0 ∧ sk = 1 ∧ sn = 1 ∧ ordT t u = 0) ∨ (ea = 0 ∧ eb = 0 ∧ sk = 1 ∧ sn = 0 ∧ ordT t u ≠ 0)) := by
  have ht := sameT_tri t u
  rcases ht with h | h | h
  · refine ⟨1, 0, by rw [h]; rfl, ?_⟩
    by_cases h1 : ea = 0
    · by_cases h2 : eb = 0
      · exact .inr (.inr (.inr (.inr ⟨h1, h2, rfl, rfl, fun e => same_of_order t u e h⟩)))
      · exact .inr (.inl ⟨h1, h2⟩)
    · exact .inl h1
  · refine ⟨1, 1, by rw [h]; rfl, ?_⟩
    by_cases h1 : ea = 0
    · by_cases h2 : eb = 0
      · exact .inr (.inr (.inr (.inl ⟨h1, h2, rfl, rfl, order_of_same t u (ha h1) (hb h2) h⟩)))
      · exact .inr (.inl ⟨h1, h2⟩)
    · exact .inl h1
  · refine ⟨0, 0, by rw [h]; rfl, ?_⟩
    by_cases h1 : ea = 0
    · by_cases h2 : eb = 0
      · exact .inr (.inr (.inl ⟨h1, h2, rfl⟩))
      · exact .inr (.inl ⟨h1, h2⟩)
    · exact .inl h1

set_option maxHeartbeats 8000000 in
set_option maxRecDepth 100000 in
theorem law_orders (B : Nat) (k n : Int) (s : ByteArray) (a : Option Addr) (l c : Nat) (k' n' : Int) (s' : ByteArray) (a' : Option Addr) (l' c' : Nat) (k9 n9 : Int) (s9 : ByteArray) (a9 : Option Addr) (l9 c9 : Nat) (L L' L9 : List T) (w : World) (hB : B ≤ w.heap.size) (hT : Tabs B w) (hP : Pow10 B w) (ha : LiesS w L a l) (hb : LiesS w L' a' l') (hc : LiesS w L9 a9 l9) (hca : l ≤ c) (hcb : l' ≤ c') (hcc : l9 ≤ c9) (hsa : s.size ≤ 9223372036854775807) (hsb : s'.size ≤ 9223372036854775807) (hwa : wtL L ≤ 2097152) (hwb : wtL L' ≤ 2097152) (hws : wtL L + 2 ≤ 2097152) :
    Calls Tryd.prog 5 #[.agg #[.int .i64 k, .int .i64 n, .string s, .slice a l c], .agg #[.int .i64 k', .int .i64 n', .string s', .slice a' l' c'], .agg #[.int .i64 k9, .int .i64 n9, .string s9, .slice a9 l9 c9]] w fun e w' => e = .returned (.bool true) ∧ Below w.heap.size w w' := by
  obtain ⟨x, hx⟩ : ∃ x, ordT (.node k n s L) (.node k' n' s' L') = x := ⟨_, rfl⟩
  obtain ⟨y, hy⟩ : ∃ y, ordT (.node k' n' s' L') (.node k9 n9 s9 L9) = y := ⟨_, rfl⟩
  obtain ⟨z, hz⟩ : ∃ z, ordT (.node k n s L) (.node k9 n9 s9 L9) = z := ⟨_, rfl⟩
  have hxr : Sgn x := by rw [← hx]; exact ordT_sgn _ _
  have hyr : Sgn y := by rw [← hy]; exact ordT_sgn _ _
  have hzr : Sgn z := by rw [← hz]; exact ordT_sgn _ _
  have htr : TR x y z := by rw [← hx, ← hy, ← hz]; exact ordT_TR _ _ _
  have hneg : ordT (.node k' n' s' L') (.node k n s L) = -x := by rw [← hx]; exact ordT_neg _ _
  have hself : ordT (.node k n s L) (.node k n s L) = 0 := ordT_self _
  obtain ⟨ea, hEa, hWa⟩ := well_all B w hB hT 6 0 rfl k n s a l c L hsa ha
  obtain ⟨eb, hEb, hWb⟩ := well_all B w hB hT 6 0 rfl k' n' s' a' l' c' L' hsb hb
  obtain ⟨sk, sn, hsv, hlast⟩ := last_row (.node k n s L) (.node k' n' s' L') ea eb hWa hWb
  rw [hx] at hlast
  have hab : Hid (∀ W, Below w.heap.size w W → Calls Tryd.prog 11 #[.agg #[.int .i64 k, .int .i64 n, .string s, .slice a l c], .agg #[.int .i64 k', .int .i64 n', .string s', .slice a' l' c']] W fun e w' => e = .returned (.int .i64 x) ∧ Below W.heap.size W w') := fun W kW => by rw [← hx]; exact order_any k n s a l c k' n' s' a' l' c' L L' W (ha.below kW _ _ _) (hb.below kW _ _ _) hca hcb hwa
  have hbc : Hid (∀ W, Below w.heap.size w W → Calls Tryd.prog 11 #[.agg #[.int .i64 k', .int .i64 n', .string s', .slice a' l' c'], .agg #[.int .i64 k9, .int .i64 n9, .string s9, .slice a9 l9 c9]] W fun e w' => e = .returned (.int .i64 y) ∧ Below W.heap.size W w') := fun W kW => by rw [← hy]; exact order_any k' n' s' a' l' c' k9 n9 s9 a9 l9 c9 L' L9 W (hb.below kW _ _ _) (hc.below kW _ _ _) hcb hcc hwb
  have hac : Hid (∀ W, Below w.heap.size w W → Calls Tryd.prog 11 #[.agg #[.int .i64 k, .int .i64 n, .string s, .slice a l c], .agg #[.int .i64 k9, .int .i64 n9, .string s9, .slice a9 l9 c9]] W fun e w' => e = .returned (.int .i64 z) ∧ Below W.heap.size W w') := fun W kW => by rw [← hz]; exact order_any k n s a l c k9 n9 s9 a9 l9 c9 L L9 W (ha.below kW _ _ _) (hc.below kW _ _ _) hca hcc hwa
  have hba : Hid (∀ W, Below w.heap.size w W → Calls Tryd.prog 11 #[.agg #[.int .i64 k', .int .i64 n', .string s', .slice a' l' c'], .agg #[.int .i64 k, .int .i64 n, .string s, .slice a l c]] W fun e w' => e = .returned (.int .i64 (-x)) ∧ Below W.heap.size W w') := fun W kW => by rw [← hneg]; exact order_any k' n' s' a' l' c' k n s a l c L' L W (hb.below kW _ _ _) (ha.below kW _ _ _) hcb hca hwb
  have haa : Hid (∀ W, Below w.heap.size w W → Calls Tryd.prog 11 #[.agg #[.int .i64 k, .int .i64 n, .string s, .slice a l c], .agg #[.int .i64 k, .int .i64 n, .string s, .slice a l c]] W fun e w' => e = .returned (.int .i64 0) ∧ Below W.heap.size W w') := fun W kW => by rw [← hself]; exact order_any k n s a l c k n s a l c L L W (ha.below kW _ _ _) (ha.below kW _ _ _) hca hca hwa
  have hS : Hid (∀ W, Below w.heap.size w W → Calls Tryd.prog 14 #[.agg #[.int .i64 k, .int .i64 n, .string s, .slice a l c], .agg #[.int .i64 k', .int .i64 n', .string s', .slice a' l' c']] W fun e w' => e = .returned (.agg #[.int .i64 sk, .int .i64 sn, .string ⟨#[]⟩, .slice none 0 0]) ∧ Below W.heap.size W w') := fun W kW => by rw [← hsv]; exact same_any k n s a l c k' n' s' a' l' c' L L' W (ha.below kW _ _ _) (hb.below kW _ _ _) hca hcb hsa hsb hws
  have hCa : Hid (∀ W, Below w.heap.size w W → Calls Tryd.prog 9 #[.agg #[.int .i64 k, .int .i64 n, .string s, .slice a l c]] W fun e w' => e = .returned (.int .i64 ea) ∧ Below W.heap.size W w') := fun W kW => check_of k n s a l c ea W fun w2 k2 => hEa w2 (below2 kW k2)
  have hCb : Hid (∀ W, Below w.heap.size w W → Calls Tryd.prog 9 #[.agg #[.int .i64 k', .int .i64 n', .string s', .slice a' l' c']] W fun e w' => e = .returned (.int .i64 eb) ∧ Below W.heap.size W w') := fun W kW => check_of k' n' s' a' l' c' eb W fun w2 k2 => hEb w2 (below2 kW k2)
  have hV : Hid (∀ W, Below w.heap.size w W → Calls Tryd.prog 8 #[] W fun e w' => e = .returned (.bool true) ∧ Below W.heap.size W w') := fun W kW => valued_true B W (by have := kW.size; omega) (hT.below (kW.mono hB)) (hP.below (kW.mono hB))
  have HXR := toHid hxr
  have HYR := toHid hyr
  have HZR := toHid hzr
  have HTR := toHid htr
  have HLAST := toHid hlast
  clear hx hy hz hxr hyr hzr htr hneg hself hEa hWa hEb hWb hsv hlast hT hP ha hb hc hca hcb hcc hsa hsb hwa hwb hws
  go_enter Tryd.func5, Tryd.ntmps5
  go_wp2_with fail
  have p0 : (((w.alloc (.cells #[.int .i64 k, .int .i64 n, .string s, .slice a l c] 24)).alloc (.cells #[.int .i64 k', .int .i64 n', .string s', .slice a' l' c'] 24)).alloc (.cells #[.int .i64 k9, .int .i64 n9, .string s9, .slice a9 l9 c9] 24)).cell? ⟨w.heap.size, 0, none⟩ = some (.int .i64 k) := (cell_past _ _ _ _ (by simp; omega)).trans ((cell_past _ _ _ _ (by simp)).trans (cell_of (alloc_new w _) 0))
  have p1 : (((w.alloc (.cells #[.int .i64 k, .int .i64 n, .string s, .slice a l c] 24)).alloc (.cells #[.int .i64 k', .int .i64 n', .string s', .slice a' l' c'] 24)).alloc (.cells #[.int .i64 k9, .int .i64 n9, .string s9, .slice a9 l9 c9] 24)).cell? ⟨w.heap.size, 1, none⟩ = some (.int .i64 n) := (cell_past _ _ _ _ (by simp; omega)).trans ((cell_past _ _ _ _ (by simp)).trans (cell_of (alloc_new w _) 1))
  have p2 : (((w.alloc (.cells #[.int .i64 k, .int .i64 n, .string s, .slice a l c] 24)).alloc (.cells #[.int .i64 k', .int .i64 n', .string s', .slice a' l' c'] 24)).alloc (.cells #[.int .i64 k9, .int .i64 n9, .string s9, .slice a9 l9 c9] 24)).cell? ⟨w.heap.size, 2, none⟩ = some (.string s) := (cell_past _ _ _ _ (by simp; omega)).trans ((cell_past _ _ _ _ (by simp)).trans (cell_of (alloc_new w _) 2))
  have p3 : (((w.alloc (.cells #[.int .i64 k, .int .i64 n, .string s, .slice a l c] 24)).alloc (.cells #[.int .i64 k', .int .i64 n', .string s', .slice a' l' c'] 24)).alloc (.cells #[.int .i64 k9, .int .i64 n9, .string s9, .slice a9 l9 c9] 24)).cell? ⟨w.heap.size, 3, none⟩ = some (.slice a l c) := (cell_past _ _ _ _ (by simp; omega)).trans ((cell_past _ _ _ _ (by simp)).trans (cell_of (alloc_new w _) 3))
  have q0 : (((w.alloc (.cells #[.int .i64 k, .int .i64 n, .string s, .slice a l c] 24)).alloc (.cells #[.int .i64 k', .int .i64 n', .string s', .slice a' l' c'] 24)).alloc (.cells #[.int .i64 k9, .int .i64 n9, .string s9, .slice a9 l9 c9] 24)).cell? ⟨w.heap.size + 1, 0, none⟩ = some (.int .i64 k') := (cell_past _ _ _ _ (by simp)).trans (cell_of (alloc_two w _ _) 0)
  have q1 : (((w.alloc (.cells #[.int .i64 k, .int .i64 n, .string s, .slice a l c] 24)).alloc (.cells #[.int .i64 k', .int .i64 n', .string s', .slice a' l' c'] 24)).alloc (.cells #[.int .i64 k9, .int .i64 n9, .string s9, .slice a9 l9 c9] 24)).cell? ⟨w.heap.size + 1, 1, none⟩ = some (.int .i64 n') := (cell_past _ _ _ _ (by simp)).trans (cell_of (alloc_two w _ _) 1)
  have q2 : (((w.alloc (.cells #[.int .i64 k, .int .i64 n, .string s, .slice a l c] 24)).alloc (.cells #[.int .i64 k', .int .i64 n', .string s', .slice a' l' c'] 24)).alloc (.cells #[.int .i64 k9, .int .i64 n9, .string s9, .slice a9 l9 c9] 24)).cell? ⟨w.heap.size + 1, 2, none⟩ = some (.string s') := (cell_past _ _ _ _ (by simp)).trans (cell_of (alloc_two w _ _) 2)
  have q3 : (((w.alloc (.cells #[.int .i64 k, .int .i64 n, .string s, .slice a l c] 24)).alloc (.cells #[.int .i64 k', .int .i64 n', .string s', .slice a' l' c'] 24)).alloc (.cells #[.int .i64 k9, .int .i64 n9, .string s9, .slice a9 l9 c9] 24)).cell? ⟨w.heap.size + 1, 3, none⟩ = some (.slice a' l' c') := (cell_past _ _ _ _ (by simp)).trans (cell_of (alloc_two w _ _) 3)
  have r0 : (((w.alloc (.cells #[.int .i64 k, .int .i64 n, .string s, .slice a l c] 24)).alloc (.cells #[.int .i64 k', .int .i64 n', .string s', .slice a' l' c'] 24)).alloc (.cells #[.int .i64 k9, .int .i64 n9, .string s9, .slice a9 l9 c9] 24)).cell? ⟨w.heap.size + 1 + 1, 0, none⟩ = some (.int .i64 k9) := cell_of (alloc_three w _ _ _) 0
  have r1 : (((w.alloc (.cells #[.int .i64 k, .int .i64 n, .string s, .slice a l c] 24)).alloc (.cells #[.int .i64 k', .int .i64 n', .string s', .slice a' l' c'] 24)).alloc (.cells #[.int .i64 k9, .int .i64 n9, .string s9, .slice a9 l9 c9] 24)).cell? ⟨w.heap.size + 1 + 1, 1, none⟩ = some (.int .i64 n9) := cell_of (alloc_three w _ _ _) 1
  have r2 : (((w.alloc (.cells #[.int .i64 k, .int .i64 n, .string s, .slice a l c] 24)).alloc (.cells #[.int .i64 k', .int .i64 n', .string s', .slice a' l' c'] 24)).alloc (.cells #[.int .i64 k9, .int .i64 n9, .string s9, .slice a9 l9 c9] 24)).cell? ⟨w.heap.size + 1 + 1, 2, none⟩ = some (.string s9) := cell_of (alloc_three w _ _ _) 2
  have r3 : (((w.alloc (.cells #[.int .i64 k, .int .i64 n, .string s, .slice a l c] 24)).alloc (.cells #[.int .i64 k', .int .i64 n', .string s', .slice a' l' c'] 24)).alloc (.cells #[.int .i64 k9, .int .i64 n9, .string s9, .slice a9 l9 c9] 24)).cell? ⟨w.heap.size + 1 + 1, 3, none⟩ = some (.slice a9 l9 c9) := cell_of (alloc_three w _ _ _) 3
  have b0 : Below w.heap.size w (((w.alloc (.cells #[.int .i64 k, .int .i64 n, .string s, .slice a l c] 24)).alloc (.cells #[.int .i64 k', .int .i64 n', .string s', .slice a' l' c'] 24)).alloc (.cells #[.int .i64 k9, .int .i64 n9, .string s9, .slice a9 l9 c9] 24)) := (((Below.refl _ _).alloc (Nat.le_refl _) _).alloc (by simp) _).alloc (by simp; omega) _
  have t0 : w.heap.size < (((w.alloc (.cells #[.int .i64 k, .int .i64 n, .string s, .slice a l c] 24)).alloc (.cells #[.int .i64 k', .int .i64 n', .string s', .slice a' l' c'] 24)).alloc (.cells #[.int .i64 k9, .int .i64 n9, .string s9, .slice a9 l9 c9] 24)).heap.size := by simp; omega
  have t1 : w.heap.size + 1 < (((w.alloc (.cells #[.int .i64 k, .int .i64 n, .string s, .slice a l c] 24)).alloc (.cells #[.int .i64 k', .int .i64 n', .string s', .slice a' l' c'] 24)).alloc (.cells #[.int .i64 k9, .int .i64 n9, .string s9, .slice a9 l9 c9] 24)).heap.size := by simp
  have t2 : w.heap.size + 1 + 1 < (((w.alloc (.cells #[.int .i64 k, .int .i64 n, .string s, .slice a l c] 24)).alloc (.cells #[.int .i64 k', .int .i64 n', .string s', .slice a' l' c'] 24)).alloc (.cells #[.int .i64 k9, .int .i64 n9, .string s9, .slice a9 l9 c9] 24)).heap.size := by simp
  generalize (((w.alloc (.cells #[.int .i64 k, .int .i64 n, .string s, .slice a l c] 24)).alloc (.cells #[.int .i64 k', .int .i64 n', .string s', .slice a' l' c'] 24)).alloc (.cells #[.int .i64 k9, .int .i64 n9, .string s9, .slice a9 l9 c9] 24)) = W at p0 p1 p2 p3 q0 q1 q2 q3 r0 r1 r2 r3 b0 t0 t1 t2 ⊢
  have D0 : Below W.heap.size W W.drew := (Below.refl _ _).drew
  go_region_held3 (fun w' => w'.cell? ⟨w.heap.size, 0, none⟩ = some (.int .i64 k) ∧ w'.cell? ⟨w.heap.size, 1, none⟩ = some (.int .i64 n) ∧ w'.cell? ⟨w.heap.size, 2, none⟩ = some (.string s) ∧ w'.cell? ⟨w.heap.size, 3, none⟩ = some (.slice a l c) ∧ w'.cell? ⟨w.heap.size + 1, 0, none⟩ = some (.int .i64 k') ∧ w'.cell? ⟨w.heap.size + 1, 1, none⟩ = some (.int .i64 n') ∧ w'.cell? ⟨w.heap.size + 1, 2, none⟩ = some (.string s') ∧ w'.cell? ⟨w.heap.size + 1, 3, none⟩ = some (.slice a' l' c') ∧ w'.cell? ⟨w.heap.size + 1 + 1, 0, none⟩ = some (.int .i64 k9) ∧ w'.cell? ⟨w.heap.size + 1 + 1, 1, none⟩ = some (.int .i64 n9) ∧ w'.cell? ⟨w.heap.size + 1 + 1, 2, none⟩ = some (.string s9) ∧ w'.cell? ⟨w.heap.size + 1 + 1, 3, none⟩ = some (.slice a9 l9 c9))
    (first
      | exact S3
      | exact S2
      | exact S1
      | exact ⟨p0, p1, p2, p3, q0, q1, q2, q3, r0, r1, r2, r3⟩
      | go_keep)
    (first
      | (go_at_call 11; go_fit (hab.out _ (below2 b0 D0)); rintro e u1 ⟨rfl, h1⟩; have k1 : Below W.heap.size W u1 := D0.trans h1; have S1 : u1.cell? ⟨w.heap.size, 0, none⟩ = some (.int .i64 k) ∧ u1.cell? ⟨w.heap.size, 1, none⟩ = some (.int .i64 n) ∧ u1.cell? ⟨w.heap.size, 2, none⟩ = some (.string s) ∧ u1.cell? ⟨w.heap.size, 3, none⟩ = some (.slice a l c) ∧ u1.cell? ⟨w.heap.size + 1, 0, none⟩ = some (.int .i64 k') ∧ u1.cell? ⟨w.heap.size + 1, 1, none⟩ = some (.int .i64 n') ∧ u1.cell? ⟨w.heap.size + 1, 2, none⟩ = some (.string s') ∧ u1.cell? ⟨w.heap.size + 1, 3, none⟩ = some (.slice a' l' c') ∧ u1.cell? ⟨w.heap.size + 1 + 1, 0, none⟩ = some (.int .i64 k9) ∧ u1.cell? ⟨w.heap.size + 1 + 1, 1, none⟩ = some (.int .i64 n9) ∧ u1.cell? ⟨w.heap.size + 1 + 1, 2, none⟩ = some (.string s9) ∧ u1.cell? ⟨w.heap.size + 1 + 1, 3, none⟩ = some (.slice a9 l9 c9) := ⟨(k1.cell (p := ⟨w.heap.size, 0, none⟩) t0).trans p0, (k1.cell (p := ⟨w.heap.size, 1, none⟩) t0).trans p1, (k1.cell (p := ⟨w.heap.size, 2, none⟩) t0).trans p2, (k1.cell (p := ⟨w.heap.size, 3, none⟩) t0).trans p3, (k1.cell (p := ⟨w.heap.size + 1, 0, none⟩) t1).trans q0, (k1.cell (p := ⟨w.heap.size + 1, 1, none⟩) t1).trans q1, (k1.cell (p := ⟨w.heap.size + 1, 2, none⟩) t1).trans q2, (k1.cell (p := ⟨w.heap.size + 1, 3, none⟩) t1).trans q3, (k1.cell (p := ⟨w.heap.size + 1 + 1, 0, none⟩) t2).trans r0, (k1.cell (p := ⟨w.heap.size + 1 + 1, 1, none⟩) t2).trans r1, (k1.cell (p := ⟨w.heap.size + 1 + 1, 2, none⟩) t2).trans r2, (k1.cell (p := ⟨w.heap.size + 1 + 1, 3, none⟩) t2).trans r3⟩)
      | (go_at_call 11; go_fit (hac.out _ (below2 b0 k2)); rintro e u3 ⟨rfl, h3⟩; have k3 : Below W.heap.size W u3 := below2 k2 h3; have S3 : u3.cell? ⟨w.heap.size, 0, none⟩ = some (.int .i64 k) ∧ u3.cell? ⟨w.heap.size, 1, none⟩ = some (.int .i64 n) ∧ u3.cell? ⟨w.heap.size, 2, none⟩ = some (.string s) ∧ u3.cell? ⟨w.heap.size, 3, none⟩ = some (.slice a l c) ∧ u3.cell? ⟨w.heap.size + 1, 0, none⟩ = some (.int .i64 k') ∧ u3.cell? ⟨w.heap.size + 1, 1, none⟩ = some (.int .i64 n') ∧ u3.cell? ⟨w.heap.size + 1, 2, none⟩ = some (.string s') ∧ u3.cell? ⟨w.heap.size + 1, 3, none⟩ = some (.slice a' l' c') ∧ u3.cell? ⟨w.heap.size + 1 + 1, 0, none⟩ = some (.int .i64 k9) ∧ u3.cell? ⟨w.heap.size + 1 + 1, 1, none⟩ = some (.int .i64 n9) ∧ u3.cell? ⟨w.heap.size + 1 + 1, 2, none⟩ = some (.string s9) ∧ u3.cell? ⟨w.heap.size + 1 + 1, 3, none⟩ = some (.slice a9 l9 c9) := ⟨(k3.cell (p := ⟨w.heap.size, 0, none⟩) t0).trans p0, (k3.cell (p := ⟨w.heap.size, 1, none⟩) t0).trans p1, (k3.cell (p := ⟨w.heap.size, 2, none⟩) t0).trans p2, (k3.cell (p := ⟨w.heap.size, 3, none⟩) t0).trans p3, (k3.cell (p := ⟨w.heap.size + 1, 0, none⟩) t1).trans q0, (k3.cell (p := ⟨w.heap.size + 1, 1, none⟩) t1).trans q1, (k3.cell (p := ⟨w.heap.size + 1, 2, none⟩) t1).trans q2, (k3.cell (p := ⟨w.heap.size + 1, 3, none⟩) t1).trans q3, (k3.cell (p := ⟨w.heap.size + 1 + 1, 0, none⟩) t2).trans r0, (k3.cell (p := ⟨w.heap.size + 1 + 1, 1, none⟩) t2).trans r1, (k3.cell (p := ⟨w.heap.size + 1 + 1, 2, none⟩) t2).trans r2, (k3.cell (p := ⟨w.heap.size + 1 + 1, 3, none⟩) t2).trans r3⟩)
      | (go_at_call 11; go_fit (hbc.out _ (below2 b0 k1)); rintro e u2 ⟨rfl, h2⟩; have k2 : Below W.heap.size W u2 := below2 k1 h2; have S2 : u2.cell? ⟨w.heap.size, 0, none⟩ = some (.int .i64 k) ∧ u2.cell? ⟨w.heap.size, 1, none⟩ = some (.int .i64 n) ∧ u2.cell? ⟨w.heap.size, 2, none⟩ = some (.string s) ∧ u2.cell? ⟨w.heap.size, 3, none⟩ = some (.slice a l c) ∧ u2.cell? ⟨w.heap.size + 1, 0, none⟩ = some (.int .i64 k') ∧ u2.cell? ⟨w.heap.size + 1, 1, none⟩ = some (.int .i64 n') ∧ u2.cell? ⟨w.heap.size + 1, 2, none⟩ = some (.string s') ∧ u2.cell? ⟨w.heap.size + 1, 3, none⟩ = some (.slice a' l' c') ∧ u2.cell? ⟨w.heap.size + 1 + 1, 0, none⟩ = some (.int .i64 k9) ∧ u2.cell? ⟨w.heap.size + 1 + 1, 1, none⟩ = some (.int .i64 n9) ∧ u2.cell? ⟨w.heap.size + 1 + 1, 2, none⟩ = some (.string s9) ∧ u2.cell? ⟨w.heap.size + 1 + 1, 3, none⟩ = some (.slice a9 l9 c9) := ⟨(k2.cell (p := ⟨w.heap.size, 0, none⟩) t0).trans p0, (k2.cell (p := ⟨w.heap.size, 1, none⟩) t0).trans p1, (k2.cell (p := ⟨w.heap.size, 2, none⟩) t0).trans p2, (k2.cell (p := ⟨w.heap.size, 3, none⟩) t0).trans p3, (k2.cell (p := ⟨w.heap.size + 1, 0, none⟩) t1).trans q0, (k2.cell (p := ⟨w.heap.size + 1, 1, none⟩) t1).trans q1, (k2.cell (p := ⟨w.heap.size + 1, 2, none⟩) t1).trans q2, (k2.cell (p := ⟨w.heap.size + 1, 3, none⟩) t1).trans q3, (k2.cell (p := ⟨w.heap.size + 1 + 1, 0, none⟩) t2).trans r0, (k2.cell (p := ⟨w.heap.size + 1 + 1, 1, none⟩) t2).trans r1, (k2.cell (p := ⟨w.heap.size + 1 + 1, 2, none⟩) t2).trans r2, (k2.cell (p := ⟨w.heap.size + 1 + 1, 3, none⟩) t2).trans r3⟩))
  have T0 := toHid t0
  have T1 := toHid t1
  have T2 := toHid t2
  clear p0 p1 p2 p3 q0 q1 q2 q3 r0 r1 r2 r3
  obtain ⟨p0, p1, p2, p3, q0, q1, q2, q3, r0, r1, r2, r3⟩ := S3
  clear S1 S2 h1 h2 h3 k1 k2
  have c3 := below2 b0 k3
  have s3 := k3.size
  go_wp2_with fail
  refine (hV.out _ c3).mono ?_
  rintro e u4 ⟨rfl, h4⟩
  have c4 := below2 c3 h4
  have s4 := h4.size
  replace p0 := (h4.cell (p := ⟨w.heap.size, 0, none⟩) (by show w.heap.size < _; omega)).trans p0
  replace p1 := (h4.cell (p := ⟨w.heap.size, 1, none⟩) (by show w.heap.size < _; omega)).trans p1
  replace p2 := (h4.cell (p := ⟨w.heap.size, 2, none⟩) (by show w.heap.size < _; omega)).trans p2
  replace p3 := (h4.cell (p := ⟨w.heap.size, 3, none⟩) (by show w.heap.size < _; omega)).trans p3
  replace q0 := (h4.cell (p := ⟨w.heap.size + 1, 0, none⟩) (by show w.heap.size + 1 < _; omega)).trans q0
  replace q1 := (h4.cell (p := ⟨w.heap.size + 1, 1, none⟩) (by show w.heap.size + 1 < _; omega)).trans q1
  replace q2 := (h4.cell (p := ⟨w.heap.size + 1, 2, none⟩) (by show w.heap.size + 1 < _; omega)).trans q2
  replace q3 := (h4.cell (p := ⟨w.heap.size + 1, 3, none⟩) (by show w.heap.size + 1 < _; omega)).trans q3
  go_wp2_with fail
  refine (hba.out _ c4).mono ?_
  rintro e u5 ⟨rfl, h5⟩
  have c5 := below2 c4 h5
  have s5 := h5.size
  replace p0 := (h5.cell (p := ⟨w.heap.size, 0, none⟩) (by show w.heap.size < _; omega)).trans p0
  replace p1 := (h5.cell (p := ⟨w.heap.size, 1, none⟩) (by show w.heap.size < _; omega)).trans p1
  replace p2 := (h5.cell (p := ⟨w.heap.size, 2, none⟩) (by show w.heap.size < _; omega)).trans p2
  replace p3 := (h5.cell (p := ⟨w.heap.size, 3, none⟩) (by show w.heap.size < _; omega)).trans p3
  replace q0 := (h5.cell (p := ⟨w.heap.size + 1, 0, none⟩) (by show w.heap.size + 1 < _; omega)).trans q0
  replace q1 := (h5.cell (p := ⟨w.heap.size + 1, 1, none⟩) (by show w.heap.size + 1 < _; omega)).trans q1
  replace q2 := (h5.cell (p := ⟨w.heap.size + 1, 2, none⟩) (by show w.heap.size + 1 < _; omega)).trans q2
  replace q3 := (h5.cell (p := ⟨w.heap.size + 1, 3, none⟩) (by show w.heap.size + 1 < _; omega)).trans q3
  have hx1 : -1 ≤ x := by rcases HXR.out with h | h | h <;> omega
  have hx2 : x ≤ 1 := by rcases HXR.out with h | h | h <;> omega
  go_wp2_with fail
  refine (haa.out _ c5).mono ?_
  rintro e u6 ⟨rfl, h6⟩
  have c6 := below2 c5 h6
  have s6 := h6.size
  replace p0 := (h6.cell (p := ⟨w.heap.size, 0, none⟩) (by show w.heap.size < _; omega)).trans p0
  replace p1 := (h6.cell (p := ⟨w.heap.size, 1, none⟩) (by show w.heap.size < _; omega)).trans p1
  replace p2 := (h6.cell (p := ⟨w.heap.size, 2, none⟩) (by show w.heap.size < _; omega)).trans p2
  replace p3 := (h6.cell (p := ⟨w.heap.size, 3, none⟩) (by show w.heap.size < _; omega)).trans p3
  replace q0 := (h6.cell (p := ⟨w.heap.size + 1, 0, none⟩) (by show w.heap.size + 1 < _; omega)).trans q0
  replace q1 := (h6.cell (p := ⟨w.heap.size + 1, 1, none⟩) (by show w.heap.size + 1 < _; omega)).trans q1
  replace q2 := (h6.cell (p := ⟨w.heap.size + 1, 2, none⟩) (by show w.heap.size + 1 < _; omega)).trans q2
  replace q3 := (h6.cell (p := ⟨w.heap.size + 1, 3, none⟩) (by show w.heap.size + 1 < _; omega)).trans q3
  clear hx1 hx2
  go_upto_region 4 with fail
  go_cut [69] (fun s69 wx => s69 = .bool false ∧ wx = u6)
  case first =>
    obtain ⟨r1, r2, r3, _⟩ := HTR.out
    rcases HXR.out with hx | hx | hx <;> rcases HYR.out with hy | hy | hy <;> rcases HZR.out with hz | hz | hz <;> first
      | (exfalso; omega)
      | (subst hx; subst hy; subst hz; clear r1 r2 r3; go_wp2_with fail; go_meet; exact ⟨rfl, rfl⟩)
  case rest =>
    obtain ⟨rfl, hwc⟩ := hcut
    subst hwc
    go_wp2_with fail
    refine (hS.out _ c6).mono ?_
    rintro e u7 ⟨rfl, h7⟩
    have c7 := below2 c6 h7
    have s7 := h7.size
    replace p0 := (h7.cell (p := ⟨w.heap.size, 0, none⟩) (by show w.heap.size < _; omega)).trans p0
    replace p1 := (h7.cell (p := ⟨w.heap.size, 1, none⟩) (by show w.heap.size < _; omega)).trans p1
    replace p2 := (h7.cell (p := ⟨w.heap.size, 2, none⟩) (by show w.heap.size < _; omega)).trans p2
    replace p3 := (h7.cell (p := ⟨w.heap.size, 3, none⟩) (by show w.heap.size < _; omega)).trans p3
    replace q0 := (h7.cell (p := ⟨w.heap.size + 1, 0, none⟩) (by show w.heap.size + 1 < _; omega)).trans q0
    replace q1 := (h7.cell (p := ⟨w.heap.size + 1, 1, none⟩) (by show w.heap.size + 1 < _; omega)).trans q1
    replace q2 := (h7.cell (p := ⟨w.heap.size + 1, 2, none⟩) (by show w.heap.size + 1 < _; omega)).trans q2
    replace q3 := (h7.cell (p := ⟨w.heap.size + 1, 3, none⟩) (by show w.heap.size + 1 < _; omega)).trans q3
    have v0 : (u7.alloc (.cells #[.int .i64 sk, .int .i64 sn, .string ⟨#[]⟩, .slice none 0 0] 24)).cell? ⟨u7.heap.size, 0, none⟩ = some (.int .i64 sk) := cell_of (alloc_new u7 _) 0
    have v1 : (u7.alloc (.cells #[.int .i64 sk, .int .i64 sn, .string ⟨#[]⟩, .slice none 0 0] 24)).cell? ⟨u7.heap.size, 1, none⟩ = some (.int .i64 sn) := cell_of (alloc_new u7 _) 1
    have hv : u7.heap.size < (u7.alloc (.cells #[.int .i64 sk, .int .i64 sn, .string ⟨#[]⟩, .slice none 0 0] 24)).heap.size := by simp
    have h8 : Below u7.heap.size u7 (u7.alloc (.cells #[.int .i64 sk, .int .i64 sn, .string ⟨#[]⟩, .slice none 0 0] 24)) := (Below.refl _ _).alloc (Nat.le_refl _) _
    have s8 := h8.size
    have l0 : w.heap.size < u7.heap.size := by omega
    have l1 : w.heap.size + 1 < u7.heap.size := by omega
    go_wp2_with fail
    replace p0 := (h8.cell (p := ⟨w.heap.size, 0, none⟩) (by show w.heap.size < _; omega)).trans p0
    replace p1 := (h8.cell (p := ⟨w.heap.size, 1, none⟩) (by show w.heap.size < _; omega)).trans p1
    replace p2 := (h8.cell (p := ⟨w.heap.size, 2, none⟩) (by show w.heap.size < _; omega)).trans p2
    replace p3 := (h8.cell (p := ⟨w.heap.size, 3, none⟩) (by show w.heap.size < _; omega)).trans p3
    replace q0 := (h8.cell (p := ⟨w.heap.size + 1, 0, none⟩) (by show w.heap.size + 1 < _; omega)).trans q0
    replace q1 := (h8.cell (p := ⟨w.heap.size + 1, 1, none⟩) (by show w.heap.size + 1 < _; omega)).trans q1
    replace q2 := (h8.cell (p := ⟨w.heap.size + 1, 2, none⟩) (by show w.heap.size + 1 < _; omega)).trans q2
    replace q3 := (h8.cell (p := ⟨w.heap.size + 1, 3, none⟩) (by show w.heap.size + 1 < _; omega)).trans q3
    have c8 := below2 c7 h8
    generalize u7.alloc (.cells #[.int .i64 sk, .int .i64 sn, .string ⟨#[]⟩, .slice none 0 0] 24) = u8 at v0 v1 hv h8 s8 c8 p0 p1 p2 p3 q0 q1 q2 q3 ⊢
    refine (hCa.out _ c8).mono ?_
    rintro e u9 ⟨rfl, h9⟩
    have c9 := below2 c8 h9
    have s9 := h9.size
    replace p0 := (h9.cell (p := ⟨w.heap.size, 0, none⟩) (by show w.heap.size < _; omega)).trans p0
    replace p1 := (h9.cell (p := ⟨w.heap.size, 1, none⟩) (by show w.heap.size < _; omega)).trans p1
    replace p2 := (h9.cell (p := ⟨w.heap.size, 2, none⟩) (by show w.heap.size < _; omega)).trans p2
    replace p3 := (h9.cell (p := ⟨w.heap.size, 3, none⟩) (by show w.heap.size < _; omega)).trans p3
    replace q0 := (h9.cell (p := ⟨w.heap.size + 1, 0, none⟩) (by show w.heap.size + 1 < _; omega)).trans q0
    replace q1 := (h9.cell (p := ⟨w.heap.size + 1, 1, none⟩) (by show w.heap.size + 1 < _; omega)).trans q1
    replace q2 := (h9.cell (p := ⟨w.heap.size + 1, 2, none⟩) (by show w.heap.size + 1 < _; omega)).trans q2
    replace q3 := (h9.cell (p := ⟨w.heap.size + 1, 3, none⟩) (by show w.heap.size + 1 < _; omega)).trans q3
    replace v0 := (h9.cell (p := ⟨u7.heap.size, 0, none⟩) hv).trans v0
    replace v1 := (h9.cell (p := ⟨u7.heap.size, 1, none⟩) hv).trans v1
    rcases HLAST.out with h | ⟨rfl, h⟩ | ⟨rfl, rfl, rfl⟩ | ⟨rfl, rfl, rfl, rfl, rfl⟩ | ⟨rfl, rfl, rfl, rfl, h⟩
    · have h' : (ea != 0) = true := by simp [h]
      clear h HLAST HXR HYR HZR HTR
      go_wp2_with fail
      go_ret
      exact ⟨rfl, c9⟩
    · have h' : (eb != 0) = true := by simp [h]
      clear h HLAST HXR HYR HZR HTR
      go_wp2_with fail
      refine (hCb.out _ c9).mono ?_
      rintro e w2 ⟨rfl, h10⟩
      have c10 := below2 c9 h10
      go_wp2_with fail
      go_ret
      exact ⟨rfl, c10⟩
    · clear HLAST HXR HYR HZR HTR
      go_wp2_with fail
      refine (hCb.out _ c9).mono ?_
      rintro e w2 ⟨rfl, h10⟩
      have c10 := below2 c9 h10
      replace v0 := (h10.cell (p := ⟨u7.heap.size, 0, none⟩) (by show u7.heap.size < _; omega)).trans v0
      replace v1 := (h10.cell (p := ⟨u7.heap.size, 1, none⟩) (by show u7.heap.size < _; omega)).trans v1
      go_wp2_with fail
      go_ret
      exact ⟨rfl, c10⟩
    · clear HLAST HXR HYR HZR HTR
      go_wp2_with fail
      refine (hCb.out _ c9).mono ?_
      rintro e w2 ⟨rfl, h10⟩
      have c10 := below2 c9 h10
      replace v0 := (h10.cell (p := ⟨u7.heap.size, 0, none⟩) (by show u7.heap.size < _; omega)).trans v0
      replace v1 := (h10.cell (p := ⟨u7.heap.size, 1, none⟩) (by show u7.heap.size < _; omega)).trans v1
      go_wp2_with fail
      go_ret
      exact ⟨rfl, c10⟩
    · have h' : (x == 0) = false := by simp [h]
      clear h HLAST HXR HYR HZR HTR
      go_wp2_with fail
      refine (hCb.out _ c9).mono ?_
      rintro e w2 ⟨rfl, h10⟩
      have c10 := below2 c9 h10
      replace v0 := (h10.cell (p := ⟨u7.heap.size, 0, none⟩) (by show u7.heap.size < _; omega)).trans v0
      replace v1 := (h10.cell (p := ⟨u7.heap.size, 1, none⟩) (by show u7.heap.size < _; omega)).trans v1
      go_wp2_with fail
      go_ret
      exact ⟨rfl, c10⟩
end Go.Proofs.YtkllapibpcgllaaDoor
