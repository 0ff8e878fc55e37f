/-
  What is proved here: what the texts JLesser, JSameW prove, in one text.
-/
import Derived.Test.YtbfhapmnnckkaaaGreatDoorQNAG
namespace Go.Proofs.YtbfhapmnnckkaaaGreatDoor
open Go.RowKit
set_option linter.unusedVariables false

set_option maxHeartbeats 1000000 in
theorem truth_any (h : Bool) (w : World) : Calls Tryz.prog 55 #[.bool h] w fun e w' => e = .returned (.agg #[.int .i64 1, .int .i64 (if h then 1 else 0), .string ⟨#[]⟩, .slice none 0 0]) ∧ Below w.heap.size w w' := by
  cases h with
  | true =>
    go_enter Tryz.func55, Tryz.ntmps55
    go_wp2_with fail
    exact bodyPost_ret (v := .agg #[.int .i64 1, .int .i64 1, .string ⟨#[]⟩, .slice none 0 0]) (by simp [results, Tryz.results55, go_sem]) rfl ⟨rfl, (Below.refl _ _).alloc (Nat.le_refl _) _⟩
  | false =>
    go_enter Tryz.func55, Tryz.ntmps55
    go_wp2_with fail
    exact bodyPost_ret (v := .agg #[.int .i64 1, .int .i64 0, .string ⟨#[]⟩, .slice none 0 0]) (by simp [results, Tryz.results55, go_sem]) rfl ⟨rfl, (Below.refl _ _).alloc (Nat.le_refl _) _⟩

set_option maxHeartbeats 2000000 in
set_option maxRecDepth 100000 in
theorem less_null (k n : Int) (s : ByteArray) (a : Option Addr) (l c : Nat) (k' n' : Int) (s' : ByteArray) (a' : Option Addr) (l' c' : Nat) (w : World) (h : k ≠ k' ∨ (k ≠ 2 ∧ k ≠ 3)) :
    Calls Tryz.prog 48 #[.agg #[.int .i64 k, .int .i64 n, .string s, .slice a l c], .agg #[.int .i64 k', .int .i64 n', .string s', .slice a' l' c']] w fun e w' => e = .returned (.agg #[.int .i64 0, .int .i64 0, .string ⟨#[]⟩, .slice none 0 0]) ∧ Below w.heap.size w w' := by
  go_enter Tryz.func48, Tryz.ntmps48
  go_upto_region 1 with fail
  go_cut [19] (fun s19 wx => s19 = .bool true ∧ wx = ((w.alloc (.cells #[.int .i64 k, .int .i64 n, .string s, .slice a l c] 24)).alloc (.cells #[.int .i64 k', .int .i64 n', .string s', .slice a' l' c'] 24)).alloc (.cells #[.int .i64 0, .int .i64 0, .string ⟨#[]⟩, .slice none 0 0] 24))
  case first =>
    by_cases e1 : k = k'
    · subst e1
      have h2 : (k != 2) = true := by simp; omega
      have h3 : (k != 3) = true := by simp; omega
      clear h
      go_wp2_with fail
      go_meet
      exact ⟨rfl, rfl⟩
    · have h2 : (k != k') = true := by simp [e1]
      clear h
      go_wp2_with fail
      go_meet
      exact ⟨rfl, rfl⟩
  case rest =>
    obtain ⟨rfl, rfl⟩ := hcut
    go_wp2_with fail
    exact bodyPost_ret (v := .agg #[.int .i64 0, .int .i64 0, .string ⟨#[]⟩, .slice none 0 0]) (by simp [results, Tryz.results48, go_sem]) rfl ⟨rfl, (((Below.refl _ _).alloc (Nat.le_refl _) _).alloc (by simp) _).alloc (by simp; omega) _⟩

/-- Three boxes, the third of them. -/
theorem alloc_three (w : World) (o1 o2 o3 : Obj) : (((w.alloc o1).alloc o2).alloc o3).heap[w.heap.size + 1 + 1]? = some o3 := by
  have := alloc_new ((w.alloc o1).alloc o2) o3
  rw [show ((w.alloc o1).alloc o2).heap.size = w.heap.size + 1 + 1 from by simp] at this
  exact this

set_option maxHeartbeats 4000000 in
set_option maxRecDepth 100000 in
theorem less_ord (k n : Int) (s : ByteArray) (a : Option Addr) (l c : Nat) (n' : Int) (s' : ByteArray) (a' : Option Addr) (l' c' : Nat) (z : Int) (w : World) (h : k = 2 ∨ k = 3)
    (hO : ∀ W, Below w.heap.size w W → Calls Tryz.prog 95 #[.agg #[.int .i64 k, .int .i64 n, .string s, .slice a l c], .agg #[.int .i64 k, .int .i64 n', .string s', .slice a' l' c']] W fun e w' => e = .returned (.int .i64 z) ∧ Below W.heap.size W w') :
    Calls Tryz.prog 48 #[.agg #[.int .i64 k, .int .i64 n, .string s, .slice a l c], .agg #[.int .i64 k, .int .i64 n', .string s', .slice a' l' c']] w fun e w' => e = .returned (.agg #[.int .i64 1, .int .i64 (if z < 0 then 1 else 0), .string ⟨#[]⟩, .slice none 0 0]) ∧ Below w.heap.size w w' := by
  have HO := toHid hO
  obtain ⟨y, hy⟩ : ∃ y : Int, y = (if z < 0 then 1 else 0) := ⟨_, rfl⟩
  rw [← hy]
  have cT : Hid (∀ W, Calls Tryz.prog 55 #[.bool (decide (z < 0))] W fun e w' => e = .returned (.agg #[.int .i64 1, .int .i64 y, .string ⟨#[]⟩, .slice none 0 0]) ∧ Below W.heap.size W w') := fun W => by
    have := truth_any (decide (z < 0)) W
    simp only [decide_eq_true_eq, ← hy] at this
    exact this
  clear hO hy
  go_enter Tryz.func48, Tryz.ntmps48
  go_upto_region 1 with fail
  go_cut [19] (fun s19 wx => s19 = .bool false ∧ wx = ((w.alloc (.cells #[.int .i64 k, .int .i64 n, .string s, .slice a l c] 24)).alloc (.cells #[.int .i64 k, .int .i64 n', .string s', .slice a' l' c'] 24)).alloc (.cells #[.int .i64 0, .int .i64 0, .string ⟨#[]⟩, .slice none 0 0] 24))
  case first =>
    rcases h with rfl | rfl
    · go_wp2_with fail
      go_meet
      exact ⟨rfl, rfl⟩
    · go_wp2_with fail
      go_meet
      exact ⟨rfl, rfl⟩
  case rest =>
    obtain ⟨rfl, rfl⟩ := hcut
    have b0 : Below w.heap.size w (((w.alloc (.cells #[.int .i64 k, .int .i64 n, .string s, .slice a l c] 24)).alloc (.cells #[.int .i64 k, .int .i64 n', .string s', .slice a' l' c'] 24)).alloc (.cells #[.int .i64 0, .int .i64 0, .string ⟨#[]⟩, .slice none 0 0] 24)) := (((Below.refl _ _).alloc (Nat.le_refl _) _).alloc (by simp) _).alloc (by simp; omega) _
    have hbox := alloc_three w (.cells #[.int .i64 k, .int .i64 n, .string s, .slice a l c] 24) (.cells #[.int .i64 k, .int .i64 n', .string s', .slice a' l' c'] 24) (.cells #[.int .i64 0, .int .i64 0, .string ⟨#[]⟩, .slice none 0 0] 24)
    have hsz : (((w.alloc (.cells #[.int .i64 k, .int .i64 n, .string s, .slice a l c] 24)).alloc (.cells #[.int .i64 k, .int .i64 n', .string s', .slice a' l' c'] 24)).alloc (.cells #[.int .i64 0, .int .i64 0, .string ⟨#[]⟩, .slice none 0 0] 24)).heap.size = w.heap.size + 1 + 1 + 1 := by simp
    go_wp2_with fail
    refine (HO.out _ b0).mono ?_
    rintro e w1 ⟨rfl, k1⟩
    have c1 := (below2 b0 k1)
    have hb1 := (k1.block (w.heap.size + 1 + 1) (by omega)).trans hbox
    have hs1 := k1.size
    go_wp2_with fail
    refine (cT.out _).mono ?_
    rintro e w2 ⟨rfl, k2⟩
    have c2 := (below2 c1 k2)
    have hb2 := (k2.block (w.heap.size + 1 + 1) (by omega)).trans hb1
    have x0 := cell_of hb2 0
    have x1 := cell_of hb2 1
    have x2 := cell_of hb2 2
    have x3 := cell_of hb2 3
    have y0 := free_of hb2 0
    have y1 := free_of hb2 1
    have y2 := free_of hb2 2
    have y3 := free_of hb2 3
    simp at x0 x1 x2 x3
    have HB := toHid hb2
    clear hb2 hb1 hbox hsz
    go_wp2_with fail
    have zz := put4_here HB.out (.int .i64 1) (.int .i64 y) (.string ⟨#[]⟩) (.slice none 0 0)
    have zb := put4_below w2 (w.heap.size + 1 + 1) (.int .i64 1) (.int .i64 y) (.string ⟨#[]⟩) (.slice none 0 0)
    have t0 := cell_of zz 0
    have t1 := cell_of zz 1
    have t2 := cell_of zz 2
    have t3 := cell_of zz 3
    have eP : (((w2.setCell ⟨w.heap.size + 1 + 1, 0, none⟩ (.int .i64 1)).setCell ⟨w.heap.size + 1 + 1, 1, none⟩ (.int .i64 y)).setCell ⟨w.heap.size + 1 + 1, 2, none⟩ (.string ⟨#[]⟩)).setCell ⟨w.heap.size + 1 + 1, 3, none⟩ (.slice none 0 0) = put4 w2 (w.heap.size + 1 + 1) (.int .i64 1) (.int .i64 y) (.string ⟨#[]⟩) (.slice none 0 0) := rfl
    rw [eP]
    clear eP
    generalize put4 w2 (w.heap.size + 1 + 1) (.int .i64 1) (.int .i64 y) (.string ⟨#[]⟩) (.slice none 0 0) = W9 at zz zb t0 t1 t2 t3 ⊢
    simp at t0 t1 t2 t3
    exact bodyPost_ret (v := .agg #[.int .i64 1, .int .i64 y, .string ⟨#[]⟩, .slice none 0 0]) (by simp [results, Tryz.results48, go_sem, t0, t1, t2, t3]) rfl ⟨rfl, c2.trans (zb.mono (by omega))⟩

/-- What the open pairs come to. -/
def samE : List Ent → Int
  | [] => 1
  | e :: l => meet (sameL e.x e.y) (samE l)

theorem samE_tri (l : List Ent) : Tri (samE l) := by
  induction l with
  | nil => exact .inr (.inl rfl)
  | cons e l ih => exact (sameL_tri _ _).meet ih

theorem samE_snoc (l : List Ent) (e : Ent) : samE (l ++ [e]) = meet (sameL e.x e.y) (samE l) := by
  induction l with
  | nil => rfl
  | cons x l ih =>
    show meet (sameL x.x x.y) (samE (l ++ [e])) = meet _ (meet _ _)
    rw [ih, ← meet_assoc (sameL_tri _ _) (sameL_tri _ _) (samE_tri _), meet_comm (sameL_tri x.x x.y) (sameL_tri e.x e.y), meet_assoc (sameL_tri _ _) (sameL_tri _ _) (samE_tri _)]

/-- What is known, as an answer. -/
def kv (kn : Bool) : Int := if kn then 1 else 2

theorem kv_tri (kn : Bool) : Tri (kv kn) := by
  cases kn
  · exact .inr (.inr rfl)
  · exact .inr (.inl rfl)

theorem m_null {kn : Bool} {S E : Int} (hS : Tri S) (hE : Tri E) : meet (kv kn) (meet (meet 2 S) E) = meet (kv false) (meet S E) := by
  cases kn <;> rcases hS with rfl | rfl | rfl <;> rcases hE with rfl | rfl | rfl <;> simp [meet, kv]

theorem m_push {K P S E : Int} (hK : Tri K) (hP : Tri P) (hS : Tri S) (hE : Tri E) : meet K (meet (meet P S) E) = meet K (meet S (meet P E)) := by
  rcases hK with rfl | rfl | rfl <;> rcases hP with rfl | rfl | rfl <;> rcases hS with rfl | rfl | rfl <;> rcases hE with rfl | rfl | rfl <;> simp [meet]

theorem m_one {K S E : Int} (hS : Tri S) : meet K (meet (meet 1 S) E) = meet K (meet S E) := by rw [meet_one hS]

theorem m_zero (K S E : Int) : meet K (meet (meet 0 S) E) = 0 := by rw [meet_zero, meet_zero, meet_zero']

/-- What Same hands back. -/
def sameV (x : Int) : Value := if x = 2 then .agg #[.int .i64 0, .int .i64 0, .string ⟨#[]⟩, .slice none 0 0] else .agg #[.int .i64 1, .int .i64 x, .string ⟨#[]⟩, .slice none 0 0]

set_option maxHeartbeats 4000000 in
set_option maxRecDepth 100000 in
theorem same_any (k n : Int) (s : ByteArray) (a : Option Addr) (l c : Nat) (k' n' : Int) (s' : ByteArray) (a' : Option Addr) (l' c' : Nat) (L L' : List T) (w : World) (hL : LiesS w L a l) (hL' : LiesS w L' a' l') (hc : l ≤ c) (hc' : l' ≤ c') (hs : s.size ≤ 9223372036854775807) (hs' : s'.size ≤ 9223372036854775807) (hw : wtL L + 2 ≤ 1099511627776) :
    Calls Tryz.prog 46 #[.agg #[.int .i64 k, .int .i64 n, .string s, .slice a l c], .agg #[.int .i64 k', .int .i64 n', .string s', .slice a' l' c']] w fun e w' => e = .returned (sameV (sameT (.node k n s L) (.node k' n' s' L'))) ∧ Below w.heap.size w w' := by
  obtain ⟨R, hR⟩ : ∃ R, R = sameT (.node k n s L) (.node k' n' s' L') := ⟨_, rfl⟩
  rw [← hR]
  have HR := toHid hR
  have cT : Hid (∀ W, Calls Tryz.prog 55 #[.bool true] W fun e w' => e = .returned (.agg #[.int .i64 1, .int .i64 1, .string ⟨#[]⟩, .slice none 0 0]) ∧ Below W.heap.size W w') := fun W => truth_any true W
  have cF : Hid (∀ W, Calls Tryz.prog 55 #[.bool false] W fun e w' => e = .returned (.agg #[.int .i64 1, .int .i64 0, .string ⟨#[]⟩, .slice none 0 0]) ∧ Below W.heap.size W w') := fun W => truth_any false W
  have HL := toHid hL
  have HL' := toHid hL'
  clear hR hL hL'
  go_enter Tryz.func46, Tryz.ntmps46
  go_wp2_with fail
  have e0 : (((((w.alloc (.cells #[.int .i64 k, .int .i64 n, .string s, .slice a l c] 24)).alloc (.cells #[.int .i64 k', .int .i64 n', .string s', .slice a' l' c'] 24)).alloc (.cells #[.int .i64 0, .int .i64 0, .string ⟨#[]⟩, .slice none 0 0] 24)).alloc (.cells #[.int .i64 k, .int .i64 n, .string s, .slice a l c] 24)).alloc (.cells #[.int .i64 k', .int .i64 n', .string s', .slice a' l' c'] 24)).heap[w.heap.size + 1 + 1]? = some (.cells #[.int .i64 0, .int .i64 0, .string ⟨#[]⟩, .slice none 0 0] 24) := by
    rw [Below.heap_alloc _ _ _ (by simp), Below.heap_alloc _ _ _ (by simp)]
    exact alloc_three w _ _ _
  have e1 : (((((w.alloc (.cells #[.int .i64 k, .int .i64 n, .string s, .slice a l c] 24)).alloc (.cells #[.int .i64 k', .int .i64 n', .string s', .slice a' l' c'] 24)).alloc (.cells #[.int .i64 0, .int .i64 0, .string ⟨#[]⟩, .slice none 0 0] 24)).alloc (.cells #[.int .i64 k, .int .i64 n, .string s, .slice a l c] 24)).alloc (.cells #[.int .i64 k', .int .i64 n', .string s', .slice a' l' c'] 24)).heap[w.heap.size + 1 + 1 + 1]? = some (.cells #[.int .i64 k, .int .i64 n, .string s, .slice a l c] 24) := by
    rw [Below.heap_alloc _ _ _ (by simp)]
    have := alloc_new (((w.alloc (.cells #[.int .i64 k, .int .i64 n, .string s, .slice a l c] 24)).alloc (.cells #[.int .i64 k', .int .i64 n', .string s', .slice a' l' c'] 24)).alloc (.cells #[.int .i64 0, .int .i64 0, .string ⟨#[]⟩, .slice none 0 0] 24)) (.cells #[.int .i64 k, .int .i64 n, .string s, .slice a l c] 24)
    rw [show (((w.alloc (.cells #[.int .i64 k, .int .i64 n, .string s, .slice a l c] 24)).alloc (.cells #[.int .i64 k', .int .i64 n', .string s', .slice a' l' c'] 24)).alloc (.cells #[.int .i64 0, .int .i64 0, .string ⟨#[]⟩, .slice none 0 0] 24)).heap.size = w.heap.size + 1 + 1 + 1 from by simp] at this
    exact this
  have e2 : (((((w.alloc (.cells #[.int .i64 k, .int .i64 n, .string s, .slice a l c] 24)).alloc (.cells #[.int .i64 k', .int .i64 n', .string s', .slice a' l' c'] 24)).alloc (.cells #[.int .i64 0, .int .i64 0, .string ⟨#[]⟩, .slice none 0 0] 24)).alloc (.cells #[.int .i64 k, .int .i64 n, .string s, .slice a l c] 24)).alloc (.cells #[.int .i64 k', .int .i64 n', .string s', .slice a' l' c'] 24)).heap[w.heap.size + 1 + 1 + 1 + 1]? = some (.cells #[.int .i64 k', .int .i64 n', .string s', .slice a' l' c'] 24) := by
    have := alloc_new ((((w.alloc (.cells #[.int .i64 k, .int .i64 n, .string s, .slice a l c] 24)).alloc (.cells #[.int .i64 k', .int .i64 n', .string s', .slice a' l' c'] 24)).alloc (.cells #[.int .i64 0, .int .i64 0, .string ⟨#[]⟩, .slice none 0 0] 24)).alloc (.cells #[.int .i64 k, .int .i64 n, .string s, .slice a l c] 24)) (.cells #[.int .i64 k', .int .i64 n', .string s', .slice a' l' c'] 24)
    rw [show ((((w.alloc (.cells #[.int .i64 k, .int .i64 n, .string s, .slice a l c] 24)).alloc (.cells #[.int .i64 k', .int .i64 n', .string s', .slice a' l' c'] 24)).alloc (.cells #[.int .i64 0, .int .i64 0, .string ⟨#[]⟩, .slice none 0 0] 24)).alloc (.cells #[.int .i64 k, .int .i64 n, .string s, .slice a l c] 24)).heap.size = w.heap.size + 1 + 1 + 1 + 1 from by simp] at this
    exact this
  have b0 : Below w.heap.size w (((((w.alloc (.cells #[.int .i64 k, .int .i64 n, .string s, .slice a l c] 24)).alloc (.cells #[.int .i64 k', .int .i64 n', .string s', .slice a' l' c'] 24)).alloc (.cells #[.int .i64 0, .int .i64 0, .string ⟨#[]⟩, .slice none 0 0] 24)).alloc (.cells #[.int .i64 k, .int .i64 n, .string s, .slice a l c] 24)).alloc (.cells #[.int .i64 k', .int .i64 n', .string s', .slice a' l' c'] 24)) := (((((Below.refl _ _).alloc (Nat.le_refl _) _).alloc (by simp) _).alloc (by simp; omega) _).alloc (by simp; omega) _).alloc (by simp; omega) _
  have s0 : (((((w.alloc (.cells #[.int .i64 k, .int .i64 n, .string s, .slice a l c] 24)).alloc (.cells #[.int .i64 k', .int .i64 n', .string s', .slice a' l' c'] 24)).alloc (.cells #[.int .i64 0, .int .i64 0, .string ⟨#[]⟩, .slice none 0 0] 24)).alloc (.cells #[.int .i64 k, .int .i64 n, .string s, .slice a l c] 24)).alloc (.cells #[.int .i64 k', .int .i64 n', .string s', .slice a' l' c'] 24)).heap.size = w.heap.size + 1 + 1 + 1 + 1 + 1 := by simp
  generalize (((((w.alloc (.cells #[.int .i64 k, .int .i64 n, .string s, .slice a l c] 24)).alloc (.cells #[.int .i64 k', .int .i64 n', .string s', .slice a' l' c'] 24)).alloc (.cells #[.int .i64 0, .int .i64 0, .string ⟨#[]⟩, .slice none 0 0] 24)).alloc (.cells #[.int .i64 k, .int .i64 n, .string s, .slice a l c] 24)).alloc (.cells #[.int .i64 k', .int .i64 n', .string s', .slice a' l' c'] 24)) = W0 at e0 e1 e2 b0 s0 ⊢
  have o1 : Ent.ok W0 ⟨[.node k n s L], [.node k' n' s' L'], some ⟨w.heap.size + 1 + 1 + 1, 0, none⟩, 1, 1, some ⟨w.heap.size + 1 + 1 + 1 + 1, 0, none⟩, 1, 1⟩ := by
    refine ⟨?_, ?_, Nat.le_refl _, Nat.le_refl _⟩
    · unfold LiesS
      refine ⟨_, _, rfl, rfl, by show 1 ≤ _; decide, by omega, ?_, by unfold LiesS; rfl⟩
      unfold LiesT
      exact ⟨hs, a, l, c, cell_of e1 0, cell_of e1 1, cell_of e1 2, cell_of e1 3, hc, HL.out.below b0 _ _ _⟩
    · unfold LiesS
      refine ⟨_, _, rfl, rfl, by show 1 ≤ _; decide, by omega, ?_, by unfold LiesS; rfl⟩
      unfold LiesT
      exact ⟨hs', a', l', c', cell_of e2 0, cell_of e2 1, cell_of e2 2, cell_of e2 3, hc', HL'.out.below b0 _ _ _⟩
  have O1 := toHid o1
  have E0 := toHid e0
  have S0 := toHid s0
  clear e0 e1 e2 o1 s0 HL HL' hs hs' hc hc'
  go_loopg [5, 6] (wtL L + 2) (fun g s5 s6 wr => ∃ (kn : Bool) (es : List Ent) (r cap : Nat), s5 = .bool kn ∧ s6 = .slice (some ⟨r, 0, none⟩) es.length cap ∧ RowAt wr W0.heap.size r cap es ∧ Below W0.heap.size W0 wr ∧ (∀ e ∈ es, e.ok W0) ∧ wtE es ≤ g ∧ wtE es ≤ 1099511627776 ∧ R = meet (kv kn) (samE es))
  case atStart =>
    refine ⟨true, [⟨[.node k n s L], [.node k' n' s' L'], some ⟨w.heap.size + 1 + 1 + 1, 0, none⟩, 1, 1, some ⟨w.heap.size + 1 + 1 + 1 + 1, 0, none⟩, 1, 1⟩], W0.heap.size, 1, rfl, by rw [S0.out]; rfl, RowAt.mk' (Nat.le_refl _) (alloc_new _ _) (Nat.le_refl _) (by unfold maxLen; decide) rfl rfl, (Below.refl _ _).alloc (Nat.le_refl _) _, ?_, ?_, ?_, ?_⟩
    · intro e he
      obtain rfl := List.mem_singleton.1 he
      exact O1.out
    · simp [wtE, wtL, wtT]
    · simp [wtE, wtL, wtT]; omega
    · rw [HR.out]
      simp only [samE, sameL_cons, sameL_nil]
      rw [meet_one' (sameT_tri _ _), meet_one' (sameT_tri _ _)]
      exact (meet_one (sameT_tri _ _)).symm
  case round =>
    clear HR O1 hw
    obtain ⟨kn, es, r, cap, rfl, rfl, hrow, hb, hok, hg, hwt, hR⟩ := hrel
    have HOK := toHid hok
    have HR := toHid hR
    have HROW := toHid hrow
    clear hok hR hrow
    have hbx := (hb.block (w.heap.size + 1 + 1) (by have := S0.out; omega)).trans E0.out
    have cw := below2 b0 hb
    rcases Classical.em (es = []) with he | he
    · subst he
      cases kn with
      | true =>
        have hRv : R = 1 := HR.out
        have HRV := toHid hRv
        clear HR HROW HOK hRv
        go_wp2_with fail
        refine (cT.out _).mono ?_
        rintro e w2 ⟨rfl, k2⟩
        have hb2 := (k2.block (w.heap.size + 1 + 1) (by have := hb.size; have := S0.out; omega)).trans hbx
        have c2 := below2 cw k2
        clear hbx
        have x0 := cell_of hb2 0
        have x1 := cell_of hb2 1
        have x2 := cell_of hb2 2
        have x3 := cell_of hb2 3
        have y0 := free_of hb2 0
        have y1 := free_of hb2 1
        have y2 := free_of hb2 2
        have y3 := free_of hb2 3
        simp at x0 x1 x2 x3
        have HBX := toHid hb2
        clear hb2
        go_wp2_with fail
        have zz := put4_here HBX.out (.int .i64 1) (.int .i64 1) (.string ⟨#[]⟩) (.slice none 0 0)
        have zb := put4_below w2 (w.heap.size + 1 + 1) (.int .i64 1) (.int .i64 1) (.string ⟨#[]⟩) (.slice none 0 0)
        have t0 := cell_of zz 0
        have t1 := cell_of zz 1
        have t2 := cell_of zz 2
        have t3 := cell_of zz 3
        have eP : (((w2.setCell ⟨w.heap.size + 1 + 1, 0, none⟩ (.int .i64 1)).setCell ⟨w.heap.size + 1 + 1, 1, none⟩ (.int .i64 1)).setCell ⟨w.heap.size + 1 + 1, 2, none⟩ (.string ⟨#[]⟩)).setCell ⟨w.heap.size + 1 + 1, 3, none⟩ (.slice none 0 0) = put4 w2 (w.heap.size + 1 + 1) (.int .i64 1) (.int .i64 1) (.string ⟨#[]⟩) (.slice none 0 0) := rfl
        rw [eP]
        clear eP
        generalize put4 w2 (w.heap.size + 1 + 1) (.int .i64 1) (.int .i64 1) (.string ⟨#[]⟩) (.slice none 0 0) = W9 at zz zb t0 t1 t2 t3 ⊢
        simp at t0 t1 t2 t3
        exact bodyPost_ret (v := .agg #[.int .i64 1, .int .i64 1, .string ⟨#[]⟩, .slice none 0 0]) (by simp [results, Tryz.results46, go_sem, t0, t1, t2, t3]) rfl ⟨by rw [HRV.out]; rfl, c2.trans (zb.mono (by omega))⟩
      | false =>
        have hRv : R = 2 := HR.out
        have HRV := toHid hRv
        clear HR HROW HOK hRv
        have x0 := cell_of hbx 0
        have x1 := cell_of hbx 1
        have x2 := cell_of hbx 2
        have x3 := cell_of hbx 3
        have y0 := free_of hbx 0
        have y1 := free_of hbx 1
        have y2 := free_of hbx 2
        have y3 := free_of hbx 3
        simp at x0 x1 x2 x3
        have HBX := toHid hbx
        clear hbx
        go_wp2_with fail
        have zz := put4_here HBX.out (.int .i64 0) (.int .i64 0) (.string ⟨#[]⟩) (.slice none 0 0)
        have zb := put4_below wr (w.heap.size + 1 + 1) (.int .i64 0) (.int .i64 0) (.string ⟨#[]⟩) (.slice none 0 0)
        have t0 := cell_of zz 0
        have t1 := cell_of zz 1
        have t2 := cell_of zz 2
        have t3 := cell_of zz 3
        have eP : (((wr.setCell ⟨w.heap.size + 1 + 1, 0, none⟩ (.int .i64 0)).setCell ⟨w.heap.size + 1 + 1, 1, none⟩ (.int .i64 0)).setCell ⟨w.heap.size + 1 + 1, 2, none⟩ (.string ⟨#[]⟩)).setCell ⟨w.heap.size + 1 + 1, 3, none⟩ (.slice none 0 0) = put4 wr (w.heap.size + 1 + 1) (.int .i64 0) (.int .i64 0) (.string ⟨#[]⟩) (.slice none 0 0) := rfl
        rw [eP]
        clear eP
        generalize put4 wr (w.heap.size + 1 + 1) (.int .i64 0) (.int .i64 0) (.string ⟨#[]⟩) (.slice none 0 0) = W9 at zz zb t0 t1 t2 t3 ⊢
        simp at t0 t1 t2 t3
        exact bodyPost_ret (v := .agg #[.int .i64 0, .int .i64 0, .string ⟨#[]⟩, .slice none 0 0]) (by simp [results, Tryz.results46, go_sem, t0, t1, t2, t3]) rfl ⟨by rw [HRV.out]; rfl, cw.trans (zb.mono (by omega))⟩
    · obtain ⟨es0, e, rfl⟩ := snoc_of es he
      clear he
      obtain ⟨q0, q1, f0, f1⟩ := HROW.out.last
      have hle : es0.length + 1 ≤ wtE (es0 ++ [e]) := by have := wtE_length (es0 ++ [e]); simpa using this
      have hlen : (es0 ++ [e]).length = es0.length + 1 := by simp
      rw [hlen]
      have HE : Hid (e.ok W0) := HOK.out e (by simp)
      obtain ⟨x, y, a2, la, ca, b2, lb, cb⟩ := e
      obtain ⟨n0, hn0⟩ : ∃ n0, es0.length = n0 := ⟨_, rfl⟩
      rw [hn0] at q0 q1 f0 f1 hle ⊢
      have HN := toHid hn0
      have ⟨hla, hla2⟩ := HE.out.1.length
      have ⟨hlb, hlb2⟩ := HE.out.2.1.length
      have hcap : n0 + 1 ≤ cap ∧ cap ≤ 9223372036854775807 := by
        obtain ⟨_, _, _, _, h1, h2, _⟩ := HROW.out.open'
        rw [List.length_append, HN.out] at h1
        have hm : maxLen ≤ 9223372036854775807 := by unfold maxLen; decide
        exact ⟨h1, by omega⟩
      have ⟨hcap1, hcap2⟩ := hcap
      have hr0 : r < wr.heap.size := by obtain ⟨_, _, h, _⟩ := HROW.out.open'; exact h
      have HLA := toHid hla
      have HLB := toHid hlb
      clear hlen hn0 hcap hla hlb
      change la ≤ _ at hla2
      change lb ≤ _ at hlb2
      by_cases hll : la = lb
      · subst hll
        have zr0 : RowAt (wr.alloc (.cells #[.slice a2 la ca, .slice b2 la cb] 129)) W0.heap.size r cap es0 := HROW.out.pop.kept ((Below.refl _ _).alloc (Nat.le_refl _) _)
        have z1 : (wr.alloc (.cells #[.slice a2 la ca, .slice b2 la cb] 129)).cell? ⟨wr.heap.size, 1, none⟩ = some (.slice b2 la cb) := cell_of (alloc_new wr _) 1
        have zs : wr.heap.size < (wr.alloc (.cells #[.slice a2 la ca, .slice b2 la cb] 129)).heap.size := by simp
        have zb : Below W0.heap.size W0 (wr.alloc (.cells #[.slice a2 la ca, .slice b2 la cb] 129)) := hb.alloc hb.size _
        have ZR := toHid zr0
        have Z1 := toHid z1
        have hxy : wtE es0 + wtL x ≤ wtE (es0 ++ [⟨x, y, a2, la, ca, b2, la, cb⟩]) := by rw [wtE_snoc]; exact Nat.le_refl _
        have HXY := toHid hxy
        clear zr0 z1 HROW hxy hbx
        go_wp2_with fail
        clear q0 q1 f0 f1
        generalize wr.alloc (.cells #[.slice a2 la ca, .slice b2 la cb] 129) = W6 at zb zs ZR Z1 ⊢
        obtain ⟨tp, htp⟩ : ∃ tp, wr.heap.size = tp := ⟨_, rfl⟩
        rw [htp] at zs Z1 ⊢
        have HTP := toHid htp
        clear htp
        go_loopg [5, 6, 42] la (fun g s5 s6 s42 wq => ∃ (kn' : Bool) (es' : List Ent) (r' cap' i : Nat), s42 = .int .i64 i ∧ i ≤ la ∧ la - i ≤ g ∧ s5 = .bool kn' ∧ s6 = .slice (some ⟨r', 0, none⟩) es'.length cap' ∧ RowAt wq W0.heap.size r' cap' es' ∧ Below W0.heap.size W0 wq ∧ tp < wq.heap.size ∧ r' ≠ tp ∧ wq.cell? ⟨tp, 1, none⟩ = some (.slice b2 la cb) ∧ (∀ e ∈ es', e.ok W0) ∧ wtE es' + wtL (x.drop i) ≤ wtE (es0 ++ [⟨x, y, a2, la, ca, b2, la, cb⟩]) ∧ R = meet (kv kn') (meet (sameL (x.drop i) (y.drop i)) (samE es')))
        case atStart =>
          refine ⟨kn, es0, r, cap, 0, rfl, Nat.zero_le _, by omega, rfl, by rw [HN.out], ZR.out, zb, zs, by have := HTP.out; omega, Z1.out, fun e he => HOK.out e (by simp [he]), by simpa using HXY.out, ?_⟩
          rw [HR.out, samE_snoc]
          rfl
        case round =>
          clear HOK HR ZR Z1 zb zs HXY hb cw hcap1 hcap2 hr0 hle
          obtain ⟨kn', es', r', cap', i, rfl, hi, hgi, rfl, rfl, hrow, hbq, htq, hrt, hcq, hokq, hwq, hRq⟩ := hrel
          have HROW := toHid hrow
          have HOK := toHid hokq
          have HR := toHid hRq
          have hsq := hbq.size
          clear hrow hokq hRq
          by_cases hlt : i < la
          · obtain ⟨bt, ot, t, rfl, hbt, hdx, hT⟩ := HE.out.1.get hlt
            obtain ⟨bu, ou, u, rfl, hbu, hdy, hU⟩ := HE.out.2.1.get hlt
            obtain ⟨kt, nt, st, Lt⟩ := t
            obtain ⟨ku, nu, su, Lu⟩ := u
            unfold LiesT at hT hU
            obtain ⟨hst, at', lt, ct, p0, p1, p2, p3, hltc, hLt⟩ := hT
            obtain ⟨hsu, au', lu, cu, p4, p5, p6, p7, hluc, hLu⟩ := hU
            have t0 := (hbq.cell hbt).trans p0
            have t1 := (hbq.cell hbt).trans p1
            have t2 := (hbq.cell hbt).trans p2
            have t3 := (hbq.cell hbt).trans p3
            have t4 := (hbq.cell hbu).trans p4
            have t5 := (hbq.cell hbu).trans p5
            have t6 := (hbq.cell hbu).trans p6
            have t7 := (hbq.cell hbu).trans p7
            have hbt2 : bt < wr.heap.size := by omega
            have hbu2 : bu < wr.heap.size := by omega
            have hRd : R = meet (kv kn') (meet (meet (sameT (.node kt nt st Lt) (.node ku nu su Lu)) (sameL (x.drop (i + 1)) (y.drop (i + 1)))) (samE es')) := by
              have h1 := HR.out
              have h2 : x.drop i = .node kt nt st Lt :: x.drop (i + 1) := hdx
              have h3 : y.drop i = .node ku nu su Lu :: y.drop (i + 1) := hdy
              rw [h2, h3, sameL_cons] at h1
              exact h1
            have hwd : wtE es' + (wtL Lt + 1 + wtL (x.drop (i + 1))) ≤ wtE (es0 ++ [⟨x, y, some ⟨bt, ot, none⟩, la, ca, some ⟨bu, ou, none⟩, la, cb⟩]) := by
              have h2 : x.drop i = .node kt nt st Lt :: x.drop (i + 1) := hdx
              have h1 := hwq
              rw [h2] at h1
              simpa [wtL, wtT] using h1
            have HRd := toHid hRd
            have HLt := toHid hLt
            have HLu := toHid hLu
            have HDX := toHid hdx
            have HDY := toHid hdy
            clear p0 p1 p2 p3 p4 p5 p6 p7 hRd hLt hLu hdx hdy hst hsu HR
            go_upto_region 12 with fail
            have v0 : ((wr.alloc (.cells #[.int .i64 kt, .int .i64 nt, .string st, .slice at' lt ct] 24)).alloc (.cells #[.int .i64 ku, .int .i64 nu, .string su, .slice au' lu cu] 24)).cell? ⟨wr.heap.size, 0, none⟩ = some (.int .i64 kt) := (cell_past _ _ _ _ (by simp)).trans (cell_of (alloc_new wr _) 0)
            have v1 : ((wr.alloc (.cells #[.int .i64 kt, .int .i64 nt, .string st, .slice at' lt ct] 24)).alloc (.cells #[.int .i64 ku, .int .i64 nu, .string su, .slice au' lu cu] 24)).cell? ⟨wr.heap.size, 1, none⟩ = some (.int .i64 nt) := (cell_past _ _ _ _ (by simp)).trans (cell_of (alloc_new wr _) 1)
            have v2 : ((wr.alloc (.cells #[.int .i64 kt, .int .i64 nt, .string st, .slice at' lt ct] 24)).alloc (.cells #[.int .i64 ku, .int .i64 nu, .string su, .slice au' lu cu] 24)).cell? ⟨wr.heap.size, 2, none⟩ = some (.string st) := (cell_past _ _ _ _ (by simp)).trans (cell_of (alloc_new wr _) 2)
            have v3 : ((wr.alloc (.cells #[.int .i64 kt, .int .i64 nt, .string st, .slice at' lt ct] 24)).alloc (.cells #[.int .i64 ku, .int .i64 nu, .string su, .slice au' lu cu] 24)).cell? ⟨wr.heap.size, 3, none⟩ = some (.slice at' lt ct) := (cell_past _ _ _ _ (by simp)).trans (cell_of (alloc_new wr _) 3)
            have v4 : ((wr.alloc (.cells #[.int .i64 kt, .int .i64 nt, .string st, .slice at' lt ct] 24)).alloc (.cells #[.int .i64 ku, .int .i64 nu, .string su, .slice au' lu cu] 24)).cell? ⟨wr.heap.size + 1, 0, none⟩ = some (.int .i64 ku) := cell_of (alloc_two wr _ _) 0
            have v5 : ((wr.alloc (.cells #[.int .i64 kt, .int .i64 nt, .string st, .slice at' lt ct] 24)).alloc (.cells #[.int .i64 ku, .int .i64 nu, .string su, .slice au' lu cu] 24)).cell? ⟨wr.heap.size + 1, 1, none⟩ = some (.int .i64 nu) := cell_of (alloc_two wr _ _) 1
            have v6 : ((wr.alloc (.cells #[.int .i64 kt, .int .i64 nt, .string st, .slice at' lt ct] 24)).alloc (.cells #[.int .i64 ku, .int .i64 nu, .string su, .slice au' lu cu] 24)).cell? ⟨wr.heap.size + 1, 2, none⟩ = some (.string su) := cell_of (alloc_two wr _ _) 2
            have v7 : ((wr.alloc (.cells #[.int .i64 kt, .int .i64 nt, .string st, .slice at' lt ct] 24)).alloc (.cells #[.int .i64 ku, .int .i64 nu, .string su, .slice au' lu cu] 24)).cell? ⟨wr.heap.size + 1, 3, none⟩ = some (.slice au' lu cu) := cell_of (alloc_two wr _ _) 3
            have k7 : Below wr.heap.size wr ((wr.alloc (.cells #[.int .i64 kt, .int .i64 nt, .string st, .slice at' lt ct] 24)).alloc (.cells #[.int .i64 ku, .int .i64 nu, .string su, .slice au' lu cu] 24)) := ((Below.refl _ _).alloc (Nat.le_refl _) _).alloc (by simp) _
            have s7 : ((wr.alloc (.cells #[.int .i64 kt, .int .i64 nt, .string st, .slice at' lt ct] 24)).alloc (.cells #[.int .i64 ku, .int .i64 nu, .string su, .slice au' lu cu] 24)).heap.size = wr.heap.size + 1 + 1 := by simp
            generalize ((wr.alloc (.cells #[.int .i64 kt, .int .i64 nt, .string st, .slice at' lt ct] 24)).alloc (.cells #[.int .i64 ku, .int .i64 nu, .string su, .slice au' lu cu] 24)) = W7 at v0 v1 v2 v3 v4 v5 v6 v7 k7 s7 ⊢
            have c7 := (k7.cell (p := ⟨tp, 1, none⟩) htq).trans hcq
            have b7 : Below W0.heap.size W0 W7 := hbq.trans (k7.mono hsq)
            have R7 := toHid (HROW.out.kept k7)
            have S7 := toHid s7
            have hx7 : wr.heap.size < W7.heap.size := by omega
            have hy7 : wr.heap.size + 1 < W7.heap.size := by omega
            have ht7 : tp < W7.heap.size := by omega
            clear t0 t1 t2 t3 t4 t5 t6 t7 s7 hcq HROW
            have hcase : (kt == 0) = true ∨ ((kt == 0) = false ∧ (ku == 0) = true) ∨ ((kt == 0) = false ∧ (ku == 0) = false) := by
              cases kt == 0 <;> cases ku == 0 <;> simp
            rcases hcase with hA | hA | hA
            case' inl =>
              have hS : sameT (.node kt nt st Lt) (.node ku nu su Lu) = 2 := by
                have : kt = 0 := by simpa using hA
                unfold sameT
                simp [this]
            case' inr.inl =>
              have hS : sameT (.node kt nt st Lt) (.node ku nu su Lu) = 2 := by
                have : ku = 0 := by simpa using hA.2
                unfold sameT
                simp [this]
              have ⟨hA1, hA2⟩ := hA
              clear hA
            case inr.inr =>
              have ⟨hA1, hA2⟩ := hA
              have hk0 : ¬ (kt = 0 ∨ ku = 0) := by
                have h1 : kt ≠ 0 := by simpa using hA1
                have h2 : ku ≠ 0 := by simpa using hA2
                omega
              have HK0 := toHid hk0
              clear hA hk0
              have hcase : ((kt == 4) = true ∧ (ku == 4) = true) ∨ ((kt == 4) = true ∧ (ku == 4) = false) ∨ (kt == 4) = false := by
                cases kt == 4 <;> cases ku == 4 <;> simp
              rcases hcase with hB | hB | hB
              case inl =>
                have ⟨hB1, hB2⟩ := hB
                have hS : sameT (.node kt nt st Lt) (.node ku nu su Lu) = sameL Lt Lu := by
                  have h1 : kt = 4 := by simpa using hB1
                  have h2 : ku = 4 := by simpa using hB2
                  unfold sameT
                  rw [if_neg HK0.out, if_pos ⟨h1, h2⟩]
                have HS := toHid hS
                clear hB hS
                obtain ⟨i0, hi0, hiz, his, hib⟩ := info_pair
                have HI0 := toHid hi0
                have HIZ := toHid hiz
                have HIS := toHid his
                have HIB := toHid hib
                have hel : es'.length ≤ wtE es' := wtE_length es'
                obtain ⟨m0, hm0⟩ : ∃ m0, es'.length = m0 := ⟨_, rfl⟩
                rw [hm0] at hel ⊢
                have HM0 := toHid hm0
                have hbig : (m0 + 1) * 48 ≤ 140737488355328 := by omega
                have hbig2 : m0 + 1 ≤ maxLen := by unfold maxLen; omega
                have zr7 : (W7.alloc (.cells #[.slice at' lt ct, .slice au' lu cu] 129)).ownsRow W0.heap.size 129 2 (.slice (some ⟨r', 0, none⟩) m0 cap') m0 (rowE es') := by
                  have := RowAt.kept R7.out ((Below.refl _ _).alloc (Nat.le_refl _) (.cells #[.slice at' lt ct, .slice au' lu cu] 129))
                  unfold RowAt at this
                  rw [HM0.out] at this
                  exact this
                have ZR7 := toHid zr7
                have hb7 : W0.heap.size ≤ W7.heap.size + 1 := by omega
                clear hi0 hiz his hib zr7 hm0
                go_wp2_with (at_builtin; refine wpList_append_lies _ rfl _ _ 130 rfl W0.heap.size 129 i0 _ 2 48 Tryz.underlying130 HI0.out HIZ.out HIS.out HIB.out rfl (by decide) _ m0 _ rfl ZR7.out ⟨W7.heap.size, 0, none⟩ 1 1 [.slice at' lt ct, .slice au' lu cu] rfl rfl (World.news_of_block (cs := #[.slice at' lt ct, .slice au' lu cu]) (alloc_new W7 _)) (by simp [Value.oneCell']) (by decide) hbig2 hbig (by simp; omega) (W7.heap.size + 1) (by simp) ?_)
                intro gg cap2 w8 hown hgrow hat hglt
                go_wp2_with fail
                have hrw : RowAt w8 W0.heap.size gg cap2 (es' ++ [⟨Lt, Lu, at', lt, ct, au', lu, cu⟩]) := by
                  unfold RowAt
                  rw [rowE_snoc]
                  simp only [List.length_append, List.length_singleton, HM0.out]
                  exact hown
                have hrB : W0.heap.size ≤ r' := by obtain ⟨_, h, _⟩ := R7.out.open'; exact h
                have hb8 : Below W0.heap.size W0 w8 := (b7.alloc b7.size _).grown hgrow (by simp; omega) (fun k hk => by simp [Value.ownBlock] at hk; omega)
                have hs8 := hgrow.size
                simp at hs8
                have hc8 : w8.cell? ⟨tp, 1, none⟩ = some (.slice (some ⟨bu, ou, none⟩) la cb) := by
                  rw [hgrow.cell_far ⟨tp, 1, none⟩ (by simp; omega) (by simp [Value.ownBlock]; omega), cell_past _ _ _ _ ht7]
                  exact c7
                go_roundg (la - (i + 1))
                case measure => omega
                case rel =>
                  refine ⟨kn', es' ++ [⟨Lt, Lu, at', lt, ct, au', lu, cu⟩], gg, cap2, i + 1, by go_num, by omega, by omega, rfl, by simp [HM0.out], hrw, hb8, by omega, ?_, hc8, ?_, ?_, ?_⟩
                  · rcases hat with h | h
                    · simp [Value.ownBlock] at h; omega
                    · omega
                  · intro e he
                    rcases List.mem_append.1 he with he | he
                    · exact HOK.out e he
                    · obtain rfl := List.mem_singleton.1 he
                      exact ⟨HLt.out, HLu.out, hltc, hluc⟩
                  · rw [wtE_snoc]
                    show wtE es' + wtL Lt + wtL (x.drop (i + 1)) ≤ _
                    omega
                  · rw [HRd.out, HS.out, samE_snoc]
                    exact m_push (kv_tri _) (sameL_tri _ _) (sameL_tri _ _) (samE_tri _)
              case' inr.inl =>
                have ⟨hB1, hB2⟩ := hB
                have h4 : ¬ (kt = 4 ∧ ku = 4) := by
                  have h2 : ku ≠ 4 := by simpa using hB2
                  omega
                clear hB
              case' inr.inr =>
                have h4 : ¬ (kt = 4 ∧ ku = 4) := by
                  have h2 : kt ≠ 4 := by simpa using hB
                  omega
              all_goals
                have hS : sameT (.node kt nt st Lt) (.node ku nu su Lu) = if ordT (.node kt nt st Lt) (.node ku nu su Lu) = 0 then 1 else 0 := by
                  unfold sameT
                  rw [if_neg HK0.out, if_neg h4]
                obtain ⟨z, hz⟩ : ∃ z, ordT (.node kt nt st Lt) (.node ku nu su Lu) = z := ⟨_, rfl⟩
                have cO : Hid (Calls Tryz.prog 95 #[.agg #[.int .i64 kt, .int .i64 nt, .string st, .slice at' lt ct], .agg #[.int .i64 ku, .int .i64 nu, .string su, .slice au' lu cu]] W7 fun e w' => e = .returned (.int .i64 z) ∧ Below W7.heap.size W7 w') := by
                  rw [← hz]
                  exact order_any kt nt st at' lt ct ku nu su au' lu cu Lt Lu W7 (HLt.out.below b7 _ _ _) (HLu.out.below b7 _ _ _) hltc hluc (by omega)
                rw [hz] at hS
                have HS := toHid hS
                have H4 := toHid h4
                clear hS h4 hz
                go_wp2_with fail
                refine cO.out.mono ?_
                rintro e w8 ⟨rfl, k8⟩
                by_cases hz0 : z = 0
                · have hz1 : (z != 0) = false := by simp [hz0]
                  have HZ := toHid hz0
                  have c8 := (k8.cell (p := ⟨tp, 1, none⟩) ht7).trans c7
                  have b8 : Below W0.heap.size W0 w8 := b7.trans (k8.mono (by omega))
                  have s8 := k8.size
                  clear hz0
                  go_wp2_with fail
                  go_roundg (la - (i + 1))
                  case measure => omega
                  case rel =>
                    refine ⟨kn', es', r', cap', i + 1, by go_num, by omega, by omega, rfl, rfl, R7.out.kept k8, b8, by omega, hrt, c8, HOK.out, by omega, ?_⟩
                    rw [HRd.out, HS.out, if_pos HZ.out]
                    exact m_one (sameL_tri _ _)
                · have hz1 : (z != 0) = true := by simp [hz0]
                  have hRv : R = 0 := by
                    rw [HRd.out, HS.out, if_neg hz0]
                    exact m_zero _ _ _
                  have HRV := toHid hRv
                  clear hRv hz0
                  go_wp2_with fail
                  refine (cF.out _).mono ?_
                  rintro e w2 ⟨rfl, k2⟩
                  have hb2 : w2.heap[w.heap.size + 1 + 1]? = some (.cells #[.int .i64 0, .int .i64 0, .string ⟨#[]⟩, .slice none 0 0] 24) := by
                    have := S0.out
                    have := k8.size
                    rw [k2.block _ (by omega), k8.block _ (by omega), b7.block _ (by omega)]
                    exact E0.out
                  have c2 := below2 (below2 (below2 b0 b7) k8) k2
                  clear R7 HRd HOK
                  have x0 := cell_of hb2 0
                  have x1 := cell_of hb2 1
                  have x2 := cell_of hb2 2
                  have x3 := cell_of hb2 3
                  have y0 := free_of hb2 0
                  have y1 := free_of hb2 1
                  have y2 := free_of hb2 2
                  have y3 := free_of hb2 3
                  simp at x0 x1 x2 x3
                  have HBX := toHid hb2
                  clear hb2
                  go_wp2_with fail
                  have zz := put4_here HBX.out (.int .i64 1) (.int .i64 0) (.string ⟨#[]⟩) (.slice none 0 0)
                  have zb := put4_below w2 (w.heap.size + 1 + 1) (.int .i64 1) (.int .i64 0) (.string ⟨#[]⟩) (.slice none 0 0)
                  have t0 := cell_of zz 0
                  have t1 := cell_of zz 1
                  have t2 := cell_of zz 2
                  have t3 := cell_of zz 3
                  have eP : (((w2.setCell ⟨w.heap.size + 1 + 1, 0, none⟩ (.int .i64 1)).setCell ⟨w.heap.size + 1 + 1, 1, none⟩ (.int .i64 0)).setCell ⟨w.heap.size + 1 + 1, 2, none⟩ (.string ⟨#[]⟩)).setCell ⟨w.heap.size + 1 + 1, 3, none⟩ (.slice none 0 0) = put4 w2 (w.heap.size + 1 + 1) (.int .i64 1) (.int .i64 0) (.string ⟨#[]⟩) (.slice none 0 0) := rfl
                  rw [eP]
                  clear eP
                  generalize put4 w2 (w.heap.size + 1 + 1) (.int .i64 1) (.int .i64 0) (.string ⟨#[]⟩) (.slice none 0 0) = W9 at zz zb t0 t1 t2 t3 ⊢
                  simp at t0 t1 t2 t3
                  exact bodyPost_ret (v := .agg #[.int .i64 1, .int .i64 0, .string ⟨#[]⟩, .slice none 0 0]) (by simp [results, Tryz.results46, go_sem, t0, t1, t2, t3]) rfl ⟨by rw [HRV.out]; rfl, c2.trans (zb.mono (by omega))⟩
            all_goals
              have HS := toHid hS
              clear hS
              go_wp2_with fail
              go_roundg (la - (i + 1))
              case measure => omega
              case rel =>
                refine ⟨false, es', r', cap', i + 1, by go_num, by omega, by omega, rfl, rfl, R7.out, b7, by omega, hrt, c7, HOK.out, by omega, ?_⟩
                rw [HRd.out, HS.out]
                exact m_null (sameL_tri _ _) (samE_tri _)
          · have hil : i = la := by omega
            have HIL := toHid hil
            clear hil
            go_wp2_with fail
            have hxd : x.drop i = [] := by
              have h1 : la = x.length := HLA.out
              rw [HIL.out, h1]
              exact List.drop_length
            have hyd : y.drop i = [] := by
              have h1 : la = y.length := HLB.out
              rw [HIL.out, h1]
              exact List.drop_length
            rw [hxd] at hwq
            simp only [wtL] at hwq
            go_roundg (wtE es')
            case measure => omega
            case rel =>
              refine ⟨kn', es', r', cap', rfl, rfl, HROW.out, hbq, HOK.out, Nat.le_refl _, by omega, ?_⟩
              rw [HR.out, hxd, hyd, sameL_nil, meet_one (samE_tri _)]
      · have hll' : ((la : Int) != (lb : Int)) = true := by simp; omega
        have hRv : R = 0 := by
          rw [HR.out, samE_snoc, sameL_length (fun e => hll (by have h1 := HLA.out; have h2 := HLB.out; exact h1.trans (e.trans h2.symm))), meet_zero, meet_zero']
        have HRV := toHid hRv
        clear HR HROW HOK HE hRv hll HLA HLB
        go_wp2_with fail
        refine (cF.out _).mono ?_
        rintro e w2 ⟨rfl, k2⟩
        have hb2 : w2.heap[w.heap.size + 1 + 1]? = some (.cells #[.int .i64 0, .int .i64 0, .string ⟨#[]⟩, .slice none 0 0] 24) := by
          rw [k2.block _ (by simp; have := hb.size; have := S0.out; omega), Below.heap_alloc _ _ _ (by have := hb.size; have := S0.out; omega)]
          exact hbx
        have c2 := below2 (cw.alloc cw.size _) k2
        clear hbx
        have x0 := cell_of hb2 0
        have x1 := cell_of hb2 1
        have x2 := cell_of hb2 2
        have x3 := cell_of hb2 3
        have y0 := free_of hb2 0
        have y1 := free_of hb2 1
        have y2 := free_of hb2 2
        have y3 := free_of hb2 3
        simp at x0 x1 x2 x3
        have HBX := toHid hb2
        clear hb2
        go_wp2_with fail
        have zz := put4_here HBX.out (.int .i64 1) (.int .i64 0) (.string ⟨#[]⟩) (.slice none 0 0)
        have zb := put4_below w2 (w.heap.size + 1 + 1) (.int .i64 1) (.int .i64 0) (.string ⟨#[]⟩) (.slice none 0 0)
        have t0 := cell_of zz 0
        have t1 := cell_of zz 1
        have t2 := cell_of zz 2
        have t3 := cell_of zz 3
        have eP : (((w2.setCell ⟨w.heap.size + 1 + 1, 0, none⟩ (.int .i64 1)).setCell ⟨w.heap.size + 1 + 1, 1, none⟩ (.int .i64 0)).setCell ⟨w.heap.size + 1 + 1, 2, none⟩ (.string ⟨#[]⟩)).setCell ⟨w.heap.size + 1 + 1, 3, none⟩ (.slice none 0 0) = put4 w2 (w.heap.size + 1 + 1) (.int .i64 1) (.int .i64 0) (.string ⟨#[]⟩) (.slice none 0 0) := rfl
        rw [eP]
        clear eP
        generalize put4 w2 (w.heap.size + 1 + 1) (.int .i64 1) (.int .i64 0) (.string ⟨#[]⟩) (.slice none 0 0) = W9 at zz zb t0 t1 t2 t3 ⊢
        simp at t0 t1 t2 t3
        exact bodyPost_ret (v := .agg #[.int .i64 1, .int .i64 0, .string ⟨#[]⟩, .slice none 0 0]) (by simp [results, Tryz.results46, go_sem, t0, t1, t2, t3]) rfl ⟨by rw [HRV.out]; rfl, c2.trans (zb.mono (by omega))⟩
end Go.Proofs.YtbfhapmnnckkaaaGreatDoor
