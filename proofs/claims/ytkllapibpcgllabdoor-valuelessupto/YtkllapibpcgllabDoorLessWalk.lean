/-
  What is proved here: the law ValueLess answers true, given what value.Less and value.Same answer.
-/
import Derived.Test.YtkllapibpcgllabDoorInv
import Derived.Test.YtkllapibpcgllabDoorValued
namespace Go.Proofs.YtkllapibpcgllabDoor
open Go.RowKit
set_option linter.unusedVariables false

/-- What the three boxes hold: nothing yet, or an answer. -/
def boxOf (b : Bool) (v : Obj) : Obj := if b then v else .cells #[.int .i64 0, .int .i64 0, .string ⟨#[]⟩, .slice none 0 0] 24 (0, 0)

/-- The frame of the law's first row. -/
def lessAct (A B : Value) (m : Nat) (f5 f6 f7 f8 f9 f10 f11 f12 f13 f14 f15 f16 : Value) : Act := ⟨#[A, B, .pointer (some ⟨m, 0, none⟩), .pointer (some ⟨m + 1, 0, none⟩), .bool false, f5, f6, f7, f8, f9, f10, f11, f12, f13, f14, f15, f16, undef, undef, undef, undef, undef, undef, undef, undef, undef, undef, undef, undef, undef, undef, undef, undef, undef, undef, undef, undef, undef, undef, undef, undef, undef], []⟩

/-- What holds while the first row's operations come up, in whatever order. -/
def LessInv (A B X Y Z : Value) (oX oY oZ : Obj) (m : Nat) (W : World) (d : Array Bool) (a : Act) (u : World) : Prop :=
  ∃ (f5 f6 f7 f8 f9 f10 f11 f12 f13 f14 f15 f16 : Value) (p5 p6 p7 : Nat), a = lessAct A B m f5 f6 f7 f8 f9 f10 f11 f12 f13 f14 f15 f16 ∧ d.size = 15 ∧ Below W.heap.size W u ∧
    (d.getD 0 false = true → f8 = A) ∧ (d.getD 1 false = true → f9 = B) ∧ (d.getD 2 false = true → f10 = X) ∧ (d.getD 3 false = true → f11 = B) ∧ (d.getD 4 false = true → f12 = A) ∧ (d.getD 5 false = true → f13 = Y) ∧ (d.getD 6 false = true → f14 = A) ∧ (d.getD 7 false = true → f15 = B) ∧ (d.getD 8 false = true → f16 = Z) ∧
    (d.getD 9 false = true → f5 = .pointer (some ⟨p5, 0, none⟩) ∧ W.heap.size ≤ p5 ∧ u.heap[p5]? = some (boxOf (d.getD 12 false) oX)) ∧ (d.getD 10 false = true → f6 = .pointer (some ⟨p6, 0, none⟩) ∧ W.heap.size ≤ p6 ∧ u.heap[p6]? = some (boxOf (d.getD 13 false) oY)) ∧ (d.getD 11 false = true → f7 = .pointer (some ⟨p7, 0, none⟩) ∧ W.heap.size ≤ p7 ∧ u.heap[p7]? = some (boxOf (d.getD 14 false) oZ)) ∧
    (d.getD 9 false = true → d.getD 10 false = true → p5 ≠ p6) ∧ (d.getD 9 false = true → d.getD 11 false = true → p5 ≠ p7) ∧ (d.getD 10 false = true → d.getD 11 false = true → p6 ≠ p7) ∧
    (d.getD 12 false = true → d.getD 9 false = true) ∧ (d.getD 13 false = true → d.getD 10 false = true) ∧ (d.getD 14 false = true → d.getD 11 false = true)

theorem getD_set {d : Array Bool} {i j : Nat} (hi : i < d.size) : (d.setIfInBounds i true).getD j false = (decide (i = j) || d.getD j false) := by
  by_cases h : i = j
  · subst h
    simp [hi]
  · rw [getD_set_ne false h]
    simp [h]

theorem getD_un {d : Array Bool} {i : Nat} (h : d.getD i true = false) : d.getD i false = false := by
  rcases Nat.lt_or_ge i d.size with h' | h'
  · simp [h'] at h ⊢
    exact h
  · simp [Array.getElem?_eq_none h'] at h

theorem getD_new {d : Array Bool} {i : Nat} (h : i < d.size) : (d.setIfInBounds i true).getD i false = true := by simp [h]

theorem put4_far {u : World} {b p : Nat} {v0 v1 v2 v3 : Value} (hb : b ≠ p) : ((((u.setCell ⟨p, 0, none⟩ v0).setCell ⟨p, 1, none⟩ v1).setCell ⟨p, 2, none⟩ v2).setCell ⟨p, 3, none⟩ v3).heap[b]? = u.heap[b]? := by
  simp [World.setCell, Array.getElem?_modify, Ne.symm hb]

set_option maxHeartbeats 8000000 in
set_option maxRecDepth 100000 in
theorem less_walk (k n : Int) (s : ByteArray) (a : Option Addr) (l c : Nat) (k' n' : Int) (s' : ByteArray) (a' : Option Addr) (l' c' : Nat) (xk xn yk yn zk zn : Int) (w : World)
    (hX : ∀ W, Below w.heap.size w W → Calls Tryd.prog 4 #[.agg #[.int .i64 k, .int .i64 n, .string s, .slice a l c], .agg #[.int .i64 k', .int .i64 n', .string s', .slice a' l' c']] W fun e w' => e = .returned (.agg #[.int .i64 xk, .int .i64 xn, .string ⟨#[]⟩, .slice none 0 0]) ∧ Below W.heap.size W w')
    (hY : ∀ W, Below w.heap.size w W → Calls Tryd.prog 4 #[.agg #[.int .i64 k', .int .i64 n', .string s', .slice a' l' c'], .agg #[.int .i64 k, .int .i64 n, .string s, .slice a l c]] W fun e w' => e = .returned (.agg #[.int .i64 yk, .int .i64 yn, .string ⟨#[]⟩, .slice none 0 0]) ∧ Below W.heap.size W w')
    (hZ : ∀ W, Below w.heap.size w W → Calls Tryd.prog 5 #[.agg #[.int .i64 k, .int .i64 n, .string s, .slice a l c], .agg #[.int .i64 k', .int .i64 n', .string s', .slice a' l' c']] W fun e w' => e = .returned (.agg #[.int .i64 zk, .int .i64 zn, .string ⟨#[]⟩, .slice none 0 0]) ∧ Below W.heap.size W w')
    (hV : ∀ W, Below w.heap.size w W → Calls Tryd.prog 6 #[] W fun e w' => e = .returned (.bool true) ∧ Below W.heap.size W w')
    (hlast : (xk = 0 ∧ yk = 0) ∨ (xk = 1 ∧ yk = 1 ∧ 0 ≤ xn ∧ xn ≤ 1 ∧ 0 ≤ yn ∧ yn ≤ 1 ∧ 0 ≤ zn ∧ zn ≤ 1 ∧ xn + yn + zn = 1)) :
    Calls Tryd.prog 3 #[.agg #[.int .i64 k, .int .i64 n, .string s, .slice a l c], .agg #[.int .i64 k', .int .i64 n', .string s', .slice a' l' c']] w fun e w' => e = .returned (.bool true) ∧ Below w.heap.size w w' := by
  have HX := toHid hX
  have HY := toHid hY
  have HZ := toHid hZ
  have HV := toHid hV
  have HLAST := toHid hlast
  clear hX hY hZ hV hlast
  go_enter Tryd.func3, Tryd.ntmps3
  go_upto_region 1 with fail
  have x0 : ((w.alloc (.cells #[.int .i64 k, .int .i64 n, .string s, .slice a l c] 24)).alloc (.cells #[.int .i64 k', .int .i64 n', .string s', .slice a' l' c'] 24)).cell? ⟨w.heap.size, 0, none⟩ = some (.int .i64 k) := (cell_past _ _ _ _ (by simp)).trans (cell_of (alloc_new w _) 0)
  have x1 : ((w.alloc (.cells #[.int .i64 k, .int .i64 n, .string s, .slice a l c] 24)).alloc (.cells #[.int .i64 k', .int .i64 n', .string s', .slice a' l' c'] 24)).cell? ⟨w.heap.size, 1, none⟩ = some (.int .i64 n) := (cell_past _ _ _ _ (by simp)).trans (cell_of (alloc_new w _) 1)
  have x2 : ((w.alloc (.cells #[.int .i64 k, .int .i64 n, .string s, .slice a l c] 24)).alloc (.cells #[.int .i64 k', .int .i64 n', .string s', .slice a' l' c'] 24)).cell? ⟨w.heap.size, 2, none⟩ = some (.string s) := (cell_past _ _ _ _ (by simp)).trans (cell_of (alloc_new w _) 2)
  have x3 : ((w.alloc (.cells #[.int .i64 k, .int .i64 n, .string s, .slice a l c] 24)).alloc (.cells #[.int .i64 k', .int .i64 n', .string s', .slice a' l' c'] 24)).cell? ⟨w.heap.size, 3, none⟩ = some (.slice a l c) := (cell_past _ _ _ _ (by simp)).trans (cell_of (alloc_new w _) 3)
  have y0 : ((w.alloc (.cells #[.int .i64 k, .int .i64 n, .string s, .slice a l c] 24)).alloc (.cells #[.int .i64 k', .int .i64 n', .string s', .slice a' l' c'] 24)).cell? ⟨w.heap.size + 1, 0, none⟩ = some (.int .i64 k') := cell_of (alloc_two w _ _) 0
  have y1 : ((w.alloc (.cells #[.int .i64 k, .int .i64 n, .string s, .slice a l c] 24)).alloc (.cells #[.int .i64 k', .int .i64 n', .string s', .slice a' l' c'] 24)).cell? ⟨w.heap.size + 1, 1, none⟩ = some (.int .i64 n') := cell_of (alloc_two w _ _) 1
  have y2 : ((w.alloc (.cells #[.int .i64 k, .int .i64 n, .string s, .slice a l c] 24)).alloc (.cells #[.int .i64 k', .int .i64 n', .string s', .slice a' l' c'] 24)).cell? ⟨w.heap.size + 1, 2, none⟩ = some (.string s') := cell_of (alloc_two w _ _) 2
  have y3 : ((w.alloc (.cells #[.int .i64 k, .int .i64 n, .string s, .slice a l c] 24)).alloc (.cells #[.int .i64 k', .int .i64 n', .string s', .slice a' l' c'] 24)).cell? ⟨w.heap.size + 1, 3, none⟩ = some (.slice a' l' c') := cell_of (alloc_two w _ _) 3
  have b0 : Below w.heap.size w ((w.alloc (.cells #[.int .i64 k, .int .i64 n, .string s, .slice a l c] 24)).alloc (.cells #[.int .i64 k', .int .i64 n', .string s', .slice a' l' c'] 24)) := ((Below.refl _ _).alloc (Nat.le_refl _) _).alloc (by simp) _
  have t0 : w.heap.size < ((w.alloc (.cells #[.int .i64 k, .int .i64 n, .string s, .slice a l c] 24)).alloc (.cells #[.int .i64 k', .int .i64 n', .string s', .slice a' l' c'] 24)).heap.size := by simp; omega
  have t1 : w.heap.size + 1 < ((w.alloc (.cells #[.int .i64 k, .int .i64 n, .string s, .slice a l c] 24)).alloc (.cells #[.int .i64 k', .int .i64 n', .string s', .slice a' l' c'] 24)).heap.size := by simp
  generalize ((w.alloc (.cells #[.int .i64 k, .int .i64 n, .string s, .slice a l c] 24)).alloc (.cells #[.int .i64 k', .int .i64 n', .string s', .slice a' l' c'] 24)) = W at x0 x1 x2 x3 y0 y1 y2 y3 b0 t0 t1 ⊢
  go_cut [5, 6, 7] (fun s5 s6 s7 wx => ∃ p5 p6 p7, s5 = .pointer (some ⟨p5, 0, none⟩) ∧ s6 = .pointer (some ⟨p6, 0, none⟩) ∧ s7 = .pointer (some ⟨p7, 0, none⟩) ∧ wx.heap[p5]? = some (.cells #[.int .i64 xk, .int .i64 xn, .string ⟨#[]⟩, .slice none 0 0] 24 (0, 0)) ∧ wx.heap[p6]? = some (.cells #[.int .i64 yk, .int .i64 yn, .string ⟨#[]⟩, .slice none 0 0] 24 (0, 0)) ∧ wx.heap[p7]? = some (.cells #[.int .i64 zk, .int .i64 zn, .string ⟨#[]⟩, .slice none 0 0] 24 (0, 0)) ∧ Below W.heap.size W wx)
  case first =>
    refine wp_region_any (by kernel_rfl) ?_
    refine wpAny_inv (LessInv (.agg #[.int .i64 k, .int .i64 n, .string s, .slice a l c]) (.agg #[.int .i64 k', .int .i64 n', .string s', .slice a' l' c']) (.agg #[.int .i64 xk, .int .i64 xn, .string ⟨#[]⟩, .slice none 0 0]) (.agg #[.int .i64 yk, .int .i64 yn, .string ⟨#[]⟩, .slice none 0 0]) (.agg #[.int .i64 zk, .int .i64 zn, .string ⟨#[]⟩, .slice none 0 0]) (.cells #[.int .i64 xk, .int .i64 xn, .string ⟨#[]⟩, .slice none 0 0] 24 (0, 0)) (.cells #[.int .i64 yk, .int .i64 yn, .string ⟨#[]⟩, .slice none 0 0] 24 (0, 0)) (.cells #[.int .i64 zk, .int .i64 zn, .string ⟨#[]⟩, .slice none 0 0] 24 (0, 0)) w.heap.size W) ?step ?fin (ready_all (by kernel_rfl)) _ _ _ _ (Nat.le_of_eq (by kernel_rfl)) ?beg
    case beg =>
      refine ⟨undef, undef, undef, undef, undef, undef, undef, undef, undef, undef, undef, undef, 0, 0, 0, rfl, rfl, (Below.refl _ _).drew, ?_⟩
      simp
    case fin =>
      intro d act u hI hall
      obtain ⟨f5, f6, f7, f8, f9, f10, f11, f12, f13, f14, f15, f16, p5, p6, p7, rfl, hsz, hb, g0, g1, g2, g3, g4, g5, g6, g7, g8, g9, g10, g11, n1, n2, n3, w12, w13, w14⟩ := hI
      have fl : ∀ j, j < 15 → d.getD j false = true := fun j hj => by
        have h1 := hall j hj
        have h2 : j < d.size := by omega
        simp [h2] at h1 ⊢
        exact h1
      obtain ⟨e5, m5, h5⟩ := g9 (fl 9 (by decide))
      obtain ⟨e6, m6, h6⟩ := g10 (fl 10 (by decide))
      obtain ⟨e7, m7, h7⟩ := g11 (fl 11 (by decide))
      rw [fl 12 (by decide)] at h5
      rw [fl 13 (by decide)] at h6
      rw [fl 14 (by decide)] at h7
      subst e5
      subst e6
      subst e7
      have H5 := toHid h5
      have H6 := toHid h6
      have H7 := toHid h7
      clear g0 g1 g2 g3 g4 g5 g6 g7 g8 g9 g10 g11 n1 n2 n3 w12 w13 w14 hall fl h5 h6 h7 m5 m6 m7 hsz
      unfold lessAct
      go_wp2_with fail
      go_meet
      exact ⟨p5, p6, p7, rfl, rfl, rfl, H5.out, H6.out, H7.out, hb⟩
    case step =>
      intro d act u hI i o ho hun hall
      obtain ⟨f5, f6, f7, f8, f9, f10, f11, f12, f13, f14, f15, f16, p5, p6, p7, rfl, hsz, hb, g0, g1, g2, g3, g4, g5, g6, g7, g8, g9, g10, g11, n1, n2, n3, w12, w13, w14⟩ := hI
      have hi : i < 15 := (Array.getElem?_eq_some_iff.1 ho).1
      have hcases : i = 0 ∨ i = 1 ∨ i = 2 ∨ i = 3 ∨ i = 4 ∨ i = 5 ∨ i = 6 ∨ i = 7 ∨ i = 8 ∨ i = 9 ∨ i = 10 ∨ i = 11 ∨ i = 12 ∨ i = 13 ∨ i = 14 := by omega
      rcases hcases with rfl | rfl | rfl | rfl | rfl | rfl | rfl | rfl | rfl | rfl | rfl | rfl | rfl | rfl | rfl
      all_goals
        refine wpOp_plain ho (by obtain rfl := Option.some.inj ho; rfl) (fun K' hK => ?_)
        obtain rfl := Option.some.inj ho
        clear ho
        simp only [List.getElem_toArray, List.getElem_cons_zero, List.getElem_cons_succ] at hall ⊢
        unfold lessAct
      · have c0 := (hb.cell (p := ⟨w.heap.size, 0, none⟩) t0).trans x0
        have c1 := (hb.cell (p := ⟨w.heap.size, 1, none⟩) t0).trans x1
        have c2 := (hb.cell (p := ⟨w.heap.size, 2, none⟩) t0).trans x2
        have c3 := (hb.cell (p := ⟨w.heap.size, 3, none⟩) t0).trans x3
        go_simp
        have hlt : 0 < d.size := by omega
        have kf : ∀ j, 0 ≠ j → (d.setIfInBounds 0 true).getD j false = d.getD j false := fun j hj => getD_set_ne false hj
        refine hK _ _ ⟨f5, f6, f7, (.agg #[.int .i64 k, .int .i64 n, .string s, .slice a l c]), f9, f10, f11, f12, f13, f14, f15, f16, p5, p6, p7, rfl, by simp [hsz], hb, ?_⟩
        simp only [kf 1 (by decide), kf 2 (by decide), kf 3 (by decide), kf 4 (by decide), kf 5 (by decide), kf 6 (by decide), kf 7 (by decide), kf 8 (by decide), kf 9 (by decide), kf 10 (by decide), kf 11 (by decide), kf 12 (by decide), kf 13 (by decide), kf 14 (by decide)]
        exact ⟨fun _ => trivial, g1, g2, g3, g4, g5, g6, g7, g8, g9, g10, g11, n1, n2, n3, w12, w13, w14⟩
      · have c0 := (hb.cell (p := ⟨w.heap.size + 1, 0, none⟩) t1).trans y0
        have c1 := (hb.cell (p := ⟨w.heap.size + 1, 1, none⟩) t1).trans y1
        have c2 := (hb.cell (p := ⟨w.heap.size + 1, 2, none⟩) t1).trans y2
        have c3 := (hb.cell (p := ⟨w.heap.size + 1, 3, none⟩) t1).trans y3
        go_simp
        have hlt : 1 < d.size := by omega
        have kf : ∀ j, 1 ≠ j → (d.setIfInBounds 1 true).getD j false = d.getD j false := fun j hj => getD_set_ne false hj
        refine hK _ _ ⟨f5, f6, f7, f8, (.agg #[.int .i64 k', .int .i64 n', .string s', .slice a' l' c']), f10, f11, f12, f13, f14, f15, f16, p5, p6, p7, rfl, by simp [hsz], hb, ?_⟩
        simp only [kf 0 (by decide), kf 2 (by decide), kf 3 (by decide), kf 4 (by decide), kf 5 (by decide), kf 6 (by decide), kf 7 (by decide), kf 8 (by decide), kf 9 (by decide), kf 10 (by decide), kf 11 (by decide), kf 12 (by decide), kf 13 (by decide), kf 14 (by decide)]
        exact ⟨g0, fun _ => trivial, g2, g3, g4, g5, g6, g7, g8, g9, g10, g11, n1, n2, n3, w12, w13, w14⟩
      · simp [Region.binds] at hall
        have e1 := g0 (by simpa using hall.1)
        have e2 := g1 (by simpa using hall.2)
        subst e1
        subst e2
        go_simp
        refine (HX.out _ (below2 b0 hb)).mono ?_
        rintro e v ⟨rfl, h1⟩
        have hlt : 2 < d.size := by omega
        have kf : ∀ j, 2 ≠ j → (d.setIfInBounds 2 true).getD j false = d.getD j false := fun j hj => getD_set_ne false hj
        refine hK _ _ ⟨f5, f6, f7, (.agg #[.int .i64 k, .int .i64 n, .string s, .slice a l c]), (.agg #[.int .i64 k', .int .i64 n', .string s', .slice a' l' c']), (.agg #[.int .i64 xk, .int .i64 xn, .string ⟨#[]⟩, .slice none 0 0]), f11, f12, f13, f14, f15, f16, p5, p6, p7, rfl, by simp [hsz], below2 hb h1, ?_⟩
        simp only [kf 0 (by decide), kf 1 (by decide), kf 3 (by decide), kf 4 (by decide), kf 5 (by decide), kf 6 (by decide), kf 7 (by decide), kf 8 (by decide), kf 9 (by decide), kf 10 (by decide), kf 11 (by decide), kf 12 (by decide), kf 13 (by decide), kf 14 (by decide)]
        exact ⟨fun _ => trivial, fun _ => trivial, fun _ => trivial, g3, g4, g5, g6, g7, g8, fun q => ⟨(g9 q).1, (g9 q).2.1, (h1.block p5 (Array.getElem?_eq_some_iff.1 (g9 q).2.2).1).trans (g9 q).2.2⟩, fun q => ⟨(g10 q).1, (g10 q).2.1, (h1.block p6 (Array.getElem?_eq_some_iff.1 (g10 q).2.2).1).trans (g10 q).2.2⟩, fun q => ⟨(g11 q).1, (g11 q).2.1, (h1.block p7 (Array.getElem?_eq_some_iff.1 (g11 q).2.2).1).trans (g11 q).2.2⟩, n1, n2, n3, w12, w13, w14⟩
      · have c0 := (hb.cell (p := ⟨w.heap.size + 1, 0, none⟩) t1).trans y0
        have c1 := (hb.cell (p := ⟨w.heap.size + 1, 1, none⟩) t1).trans y1
        have c2 := (hb.cell (p := ⟨w.heap.size + 1, 2, none⟩) t1).trans y2
        have c3 := (hb.cell (p := ⟨w.heap.size + 1, 3, none⟩) t1).trans y3
        go_simp
        have hlt : 3 < d.size := by omega
        have kf : ∀ j, 3 ≠ j → (d.setIfInBounds 3 true).getD j false = d.getD j false := fun j hj => getD_set_ne false hj
        refine hK _ _ ⟨f5, f6, f7, f8, f9, f10, (.agg #[.int .i64 k', .int .i64 n', .string s', .slice a' l' c']), f12, f13, f14, f15, f16, p5, p6, p7, rfl, by simp [hsz], hb, ?_⟩
        simp only [kf 0 (by decide), kf 1 (by decide), kf 2 (by decide), kf 4 (by decide), kf 5 (by decide), kf 6 (by decide), kf 7 (by decide), kf 8 (by decide), kf 9 (by decide), kf 10 (by decide), kf 11 (by decide), kf 12 (by decide), kf 13 (by decide), kf 14 (by decide)]
        exact ⟨g0, g1, g2, fun _ => trivial, g4, g5, g6, g7, g8, g9, g10, g11, n1, n2, n3, w12, w13, w14⟩
      · have c0 := (hb.cell (p := ⟨w.heap.size, 0, none⟩) t0).trans x0
        have c1 := (hb.cell (p := ⟨w.heap.size, 1, none⟩) t0).trans x1
        have c2 := (hb.cell (p := ⟨w.heap.size, 2, none⟩) t0).trans x2
        have c3 := (hb.cell (p := ⟨w.heap.size, 3, none⟩) t0).trans x3
        go_simp
        have hlt : 4 < d.size := by omega
        have kf : ∀ j, 4 ≠ j → (d.setIfInBounds 4 true).getD j false = d.getD j false := fun j hj => getD_set_ne false hj
        refine hK _ _ ⟨f5, f6, f7, f8, f9, f10, f11, (.agg #[.int .i64 k, .int .i64 n, .string s, .slice a l c]), f13, f14, f15, f16, p5, p6, p7, rfl, by simp [hsz], hb, ?_⟩
        simp only [kf 0 (by decide), kf 1 (by decide), kf 2 (by decide), kf 3 (by decide), kf 5 (by decide), kf 6 (by decide), kf 7 (by decide), kf 8 (by decide), kf 9 (by decide), kf 10 (by decide), kf 11 (by decide), kf 12 (by decide), kf 13 (by decide), kf 14 (by decide)]
        exact ⟨g0, g1, g2, g3, fun _ => trivial, g5, g6, g7, g8, g9, g10, g11, n1, n2, n3, w12, w13, w14⟩
      · simp [Region.binds] at hall
        have e1 := g3 (by simpa using hall.1)
        have e2 := g4 (by simpa using hall.2.1)
        subst e1
        subst e2
        go_simp
        refine (HY.out _ (below2 b0 hb)).mono ?_
        rintro e v ⟨rfl, h1⟩
        have hlt : 5 < d.size := by omega
        have kf : ∀ j, 5 ≠ j → (d.setIfInBounds 5 true).getD j false = d.getD j false := fun j hj => getD_set_ne false hj
        refine hK _ _ ⟨f5, f6, f7, f8, f9, f10, (.agg #[.int .i64 k', .int .i64 n', .string s', .slice a' l' c']), (.agg #[.int .i64 k, .int .i64 n, .string s, .slice a l c]), (.agg #[.int .i64 yk, .int .i64 yn, .string ⟨#[]⟩, .slice none 0 0]), f14, f15, f16, p5, p6, p7, rfl, by simp [hsz], below2 hb h1, ?_⟩
        simp only [kf 0 (by decide), kf 1 (by decide), kf 2 (by decide), kf 3 (by decide), kf 4 (by decide), kf 6 (by decide), kf 7 (by decide), kf 8 (by decide), kf 9 (by decide), kf 10 (by decide), kf 11 (by decide), kf 12 (by decide), kf 13 (by decide), kf 14 (by decide)]
        exact ⟨g0, g1, g2, fun _ => trivial, fun _ => trivial, fun _ => trivial, g6, g7, g8, fun q => ⟨(g9 q).1, (g9 q).2.1, (h1.block p5 (Array.getElem?_eq_some_iff.1 (g9 q).2.2).1).trans (g9 q).2.2⟩, fun q => ⟨(g10 q).1, (g10 q).2.1, (h1.block p6 (Array.getElem?_eq_some_iff.1 (g10 q).2.2).1).trans (g10 q).2.2⟩, fun q => ⟨(g11 q).1, (g11 q).2.1, (h1.block p7 (Array.getElem?_eq_some_iff.1 (g11 q).2.2).1).trans (g11 q).2.2⟩, n1, n2, n3, w12, w13, w14⟩
      · have c0 := (hb.cell (p := ⟨w.heap.size, 0, none⟩) t0).trans x0
        have c1 := (hb.cell (p := ⟨w.heap.size, 1, none⟩) t0).trans x1
        have c2 := (hb.cell (p := ⟨w.heap.size, 2, none⟩) t0).trans x2
        have c3 := (hb.cell (p := ⟨w.heap.size, 3, none⟩) t0).trans x3
        go_simp
        have hlt : 6 < d.size := by omega
        have kf : ∀ j, 6 ≠ j → (d.setIfInBounds 6 true).getD j false = d.getD j false := fun j hj => getD_set_ne false hj
        refine hK _ _ ⟨f5, f6, f7, f8, f9, f10, f11, f12, f13, (.agg #[.int .i64 k, .int .i64 n, .string s, .slice a l c]), f15, f16, p5, p6, p7, rfl, by simp [hsz], hb, ?_⟩
        simp only [kf 0 (by decide), kf 1 (by decide), kf 2 (by decide), kf 3 (by decide), kf 4 (by decide), kf 5 (by decide), kf 7 (by decide), kf 8 (by decide), kf 9 (by decide), kf 10 (by decide), kf 11 (by decide), kf 12 (by decide), kf 13 (by decide), kf 14 (by decide)]
        exact ⟨g0, g1, g2, g3, g4, g5, fun _ => trivial, g7, g8, g9, g10, g11, n1, n2, n3, w12, w13, w14⟩
      · have c0 := (hb.cell (p := ⟨w.heap.size + 1, 0, none⟩) t1).trans y0
        have c1 := (hb.cell (p := ⟨w.heap.size + 1, 1, none⟩) t1).trans y1
        have c2 := (hb.cell (p := ⟨w.heap.size + 1, 2, none⟩) t1).trans y2
        have c3 := (hb.cell (p := ⟨w.heap.size + 1, 3, none⟩) t1).trans y3
        go_simp
        have hlt : 7 < d.size := by omega
        have kf : ∀ j, 7 ≠ j → (d.setIfInBounds 7 true).getD j false = d.getD j false := fun j hj => getD_set_ne false hj
        refine hK _ _ ⟨f5, f6, f7, f8, f9, f10, f11, f12, f13, f14, (.agg #[.int .i64 k', .int .i64 n', .string s', .slice a' l' c']), f16, p5, p6, p7, rfl, by simp [hsz], hb, ?_⟩
        simp only [kf 0 (by decide), kf 1 (by decide), kf 2 (by decide), kf 3 (by decide), kf 4 (by decide), kf 5 (by decide), kf 6 (by decide), kf 8 (by decide), kf 9 (by decide), kf 10 (by decide), kf 11 (by decide), kf 12 (by decide), kf 13 (by decide), kf 14 (by decide)]
        exact ⟨g0, g1, g2, g3, g4, g5, g6, fun _ => trivial, g8, g9, g10, g11, n1, n2, n3, w12, w13, w14⟩
      · simp [Region.binds] at hall
        have e1 := g6 (by simpa using hall.1)
        have e2 := g7 (by simpa using hall.2.1)
        subst e1
        subst e2
        go_simp
        refine (HZ.out _ (below2 b0 hb)).mono ?_
        rintro e v ⟨rfl, h1⟩
        have hlt : 8 < d.size := by omega
        have kf : ∀ j, 8 ≠ j → (d.setIfInBounds 8 true).getD j false = d.getD j false := fun j hj => getD_set_ne false hj
        refine hK _ _ ⟨f5, f6, f7, f8, f9, f10, f11, f12, f13, (.agg #[.int .i64 k, .int .i64 n, .string s, .slice a l c]), (.agg #[.int .i64 k', .int .i64 n', .string s', .slice a' l' c']), (.agg #[.int .i64 zk, .int .i64 zn, .string ⟨#[]⟩, .slice none 0 0]), p5, p6, p7, rfl, by simp [hsz], below2 hb h1, ?_⟩
        simp only [kf 0 (by decide), kf 1 (by decide), kf 2 (by decide), kf 3 (by decide), kf 4 (by decide), kf 5 (by decide), kf 6 (by decide), kf 7 (by decide), kf 9 (by decide), kf 10 (by decide), kf 11 (by decide), kf 12 (by decide), kf 13 (by decide), kf 14 (by decide)]
        exact ⟨g0, g1, g2, g3, g4, g5, fun _ => trivial, fun _ => trivial, fun _ => trivial, fun q => ⟨(g9 q).1, (g9 q).2.1, (h1.block p5 (Array.getElem?_eq_some_iff.1 (g9 q).2.2).1).trans (g9 q).2.2⟩, fun q => ⟨(g10 q).1, (g10 q).2.1, (h1.block p6 (Array.getElem?_eq_some_iff.1 (g10 q).2.2).1).trans (g10 q).2.2⟩, fun q => ⟨(g11 q).1, (g11 q).2.1, (h1.block p7 (Array.getElem?_eq_some_iff.1 (g11 q).2.2).1).trans (g11 q).2.2⟩, n1, n2, n3, w12, w13, w14⟩
      · have hst : d.getD 12 false = false := by
          cases hq : d.getD 12 false with
          | false => rfl
          | true =>
            have := w12 hq
            rw [getD_un hun] at this
            cases this
        go_simp
        have hlt : 9 < d.size := by omega
        have kf : ∀ j, 9 ≠ j → (d.setIfInBounds 9 true).getD j false = d.getD j false := fun j hj => getD_set_ne false hj
        refine hK _ _ ⟨.pointer (some ⟨u.heap.size, 0, none⟩), f6, f7, f8, f9, f10, f11, f12, f13, f14, f15, f16, u.heap.size, p6, p7, rfl, by simp [hsz], hb.alloc hb.size _, ?_⟩
        simp only [kf 0 (by decide), kf 1 (by decide), kf 2 (by decide), kf 3 (by decide), kf 4 (by decide), kf 5 (by decide), kf 6 (by decide), kf 7 (by decide), kf 8 (by decide), kf 10 (by decide), kf 11 (by decide), kf 12 (by decide), kf 13 (by decide), kf 14 (by decide)]
        exact ⟨g0, g1, g2, g3, g4, g5, g6, g7, g8, fun _ => ⟨trivial, hb.size, (alloc_new u _).trans (by rw [hst]; rfl)⟩, fun q => ⟨(g10 q).1, (g10 q).2.1, (Below.heap_alloc _ _ p6 (Array.getElem?_eq_some_iff.1 (g10 q).2.2).1).trans (g10 q).2.2⟩, fun q => ⟨(g11 q).1, (g11 q).2.1, (Below.heap_alloc _ _ p7 (Array.getElem?_eq_some_iff.1 (g11 q).2.2).1).trans (g11 q).2.2⟩, fun _ q => Nat.ne_of_gt (Array.getElem?_eq_some_iff.1 (g10 q).2.2).1, fun _ q => Nat.ne_of_gt (Array.getElem?_eq_some_iff.1 (g11 q).2.2).1, n3, fun _ => getD_new hlt, w13, w14⟩
      · have hst : d.getD 13 false = false := by
          cases hq : d.getD 13 false with
          | false => rfl
          | true =>
            have := w13 hq
            rw [getD_un hun] at this
            cases this
        go_simp
        have hlt : 10 < d.size := by omega
        have kf : ∀ j, 10 ≠ j → (d.setIfInBounds 10 true).getD j false = d.getD j false := fun j hj => getD_set_ne false hj
        refine hK _ _ ⟨f5, .pointer (some ⟨u.heap.size, 0, none⟩), f7, f8, f9, f10, f11, f12, f13, f14, f15, f16, p5, u.heap.size, p7, rfl, by simp [hsz], hb.alloc hb.size _, ?_⟩
        simp only [kf 0 (by decide), kf 1 (by decide), kf 2 (by decide), kf 3 (by decide), kf 4 (by decide), kf 5 (by decide), kf 6 (by decide), kf 7 (by decide), kf 8 (by decide), kf 9 (by decide), kf 11 (by decide), kf 12 (by decide), kf 13 (by decide), kf 14 (by decide)]
        exact ⟨g0, g1, g2, g3, g4, g5, g6, g7, g8, fun q => ⟨(g9 q).1, (g9 q).2.1, (Below.heap_alloc _ _ p5 (Array.getElem?_eq_some_iff.1 (g9 q).2.2).1).trans (g9 q).2.2⟩, fun _ => ⟨trivial, hb.size, (alloc_new u _).trans (by rw [hst]; rfl)⟩, fun q => ⟨(g11 q).1, (g11 q).2.1, (Below.heap_alloc _ _ p7 (Array.getElem?_eq_some_iff.1 (g11 q).2.2).1).trans (g11 q).2.2⟩, fun q _ => Nat.ne_of_lt (Array.getElem?_eq_some_iff.1 (g9 q).2.2).1, n2, fun _ q => Nat.ne_of_gt (Array.getElem?_eq_some_iff.1 (g11 q).2.2).1, w12, fun _ => getD_new hlt, w14⟩
      · have hst : d.getD 14 false = false := by
          cases hq : d.getD 14 false with
          | false => rfl
          | true =>
            have := w14 hq
            rw [getD_un hun] at this
            cases this
        go_simp
        have hlt : 11 < d.size := by omega
        have kf : ∀ j, 11 ≠ j → (d.setIfInBounds 11 true).getD j false = d.getD j false := fun j hj => getD_set_ne false hj
        refine hK _ _ ⟨f5, f6, .pointer (some ⟨u.heap.size, 0, none⟩), f8, f9, f10, f11, f12, f13, f14, f15, f16, p5, p6, u.heap.size, rfl, by simp [hsz], hb.alloc hb.size _, ?_⟩
        simp only [kf 0 (by decide), kf 1 (by decide), kf 2 (by decide), kf 3 (by decide), kf 4 (by decide), kf 5 (by decide), kf 6 (by decide), kf 7 (by decide), kf 8 (by decide), kf 9 (by decide), kf 10 (by decide), kf 12 (by decide), kf 13 (by decide), kf 14 (by decide)]
        exact ⟨g0, g1, g2, g3, g4, g5, g6, g7, g8, fun q => ⟨(g9 q).1, (g9 q).2.1, (Below.heap_alloc _ _ p5 (Array.getElem?_eq_some_iff.1 (g9 q).2.2).1).trans (g9 q).2.2⟩, fun q => ⟨(g10 q).1, (g10 q).2.1, (Below.heap_alloc _ _ p6 (Array.getElem?_eq_some_iff.1 (g10 q).2.2).1).trans (g10 q).2.2⟩, fun _ => ⟨trivial, hb.size, (alloc_new u _).trans (by rw [hst]; rfl)⟩, n1, fun q _ => Nat.ne_of_lt (Array.getElem?_eq_some_iff.1 (g9 q).2.2).1, fun q _ => Nat.ne_of_lt (Array.getElem?_eq_some_iff.1 (g10 q).2.2).1, w12, w13, fun _ => getD_new hlt⟩
      · have hfl : d.getD 9 false = true := hall _ (List.mem_toArray.2 (List.mem_cons_self ..)) rfl
        have hfv : d.getD 2 false = true := hall _ (List.mem_toArray.2 (List.mem_cons_of_mem _ (List.mem_cons_self ..))) rfl
        have e1 := (g9 hfl).1
        have e2 := g2 hfv
        have hz : u.heap[p5]? = some (.cells #[.int .i64 0, .int .i64 0, .string ⟨#[]⟩, .slice none 0 0] 24 (0, 0)) := by
          have := (g9 hfl).2.2
          rw [getD_un hun] at this
          exact this
        have c0 := cell_of hz 0
        have c1 := cell_of hz 1
        have c2 := cell_of hz 2
        have c3 := cell_of hz 3
        have q0 := free_of hz 0
        have q1 := free_of hz 1
        have q2 := free_of hz 2
        have q3 := free_of hz 3
        simp at c0 c1 c2 c3
        subst e1
        subst e2
        go_simp
        have hlt : 12 < d.size := by omega
        have kf : ∀ j, 12 ≠ j → (d.setIfInBounds 12 true).getD j false = d.getD j false := fun j hj => getD_set_ne false hj
        refine hK _ _ ⟨.pointer (some ⟨p5, 0, none⟩), f6, f7, f8, f9, (.agg #[.int .i64 xk, .int .i64 xn, .string ⟨#[]⟩, .slice none 0 0]), f11, f12, f13, f14, f15, f16, p5, p6, p7, rfl, by simp [hsz], (((hb.setCell (p := ⟨p5, 0, none⟩) (g9 hfl).2.1 _).setCell (p := ⟨p5, 1, none⟩) (g9 hfl).2.1 _).setCell (p := ⟨p5, 2, none⟩) (g9 hfl).2.1 _).setCell (p := ⟨p5, 3, none⟩) (g9 hfl).2.1 _, ?_⟩
        simp only [kf 0 (by decide), kf 1 (by decide), kf 2 (by decide), kf 3 (by decide), kf 4 (by decide), kf 5 (by decide), kf 6 (by decide), kf 7 (by decide), kf 8 (by decide), kf 9 (by decide), kf 10 (by decide), kf 11 (by decide), kf 13 (by decide), kf 14 (by decide)]
        exact ⟨g0, g1, fun _ => trivial, g3, g4, g5, g6, g7, g8, fun q => ⟨trivial, (g9 q).2.1, by rw [getD_new hlt]; exact put4_here hz _ _ _ _⟩, fun q => ⟨(g10 q).1, (g10 q).2.1, (put4_far (fun e => n1 hfl q e.symm)).trans (g10 q).2.2⟩, fun q => ⟨(g11 q).1, (g11 q).2.1, (put4_far (fun e => n2 hfl q e.symm)).trans (g11 q).2.2⟩, n1, n2, n3, fun _ => hfl, w13, w14⟩
      · have hfl : d.getD 10 false = true := hall _ (List.mem_toArray.2 (List.mem_cons_self ..)) rfl
        have hfv : d.getD 5 false = true := hall _ (List.mem_toArray.2 (List.mem_cons_of_mem _ (List.mem_cons_self ..))) rfl
        have e1 := (g10 hfl).1
        have e2 := g5 hfv
        have hz : u.heap[p6]? = some (.cells #[.int .i64 0, .int .i64 0, .string ⟨#[]⟩, .slice none 0 0] 24 (0, 0)) := by
          have := (g10 hfl).2.2
          rw [getD_un hun] at this
          exact this
        have c0 := cell_of hz 0
        have c1 := cell_of hz 1
        have c2 := cell_of hz 2
        have c3 := cell_of hz 3
        have q0 := free_of hz 0
        have q1 := free_of hz 1
        have q2 := free_of hz 2
        have q3 := free_of hz 3
        simp at c0 c1 c2 c3
        subst e1
        subst e2
        go_simp
        have hlt : 13 < d.size := by omega
        have kf : ∀ j, 13 ≠ j → (d.setIfInBounds 13 true).getD j false = d.getD j false := fun j hj => getD_set_ne false hj
        refine hK _ _ ⟨f5, .pointer (some ⟨p6, 0, none⟩), f7, f8, f9, f10, f11, f12, (.agg #[.int .i64 yk, .int .i64 yn, .string ⟨#[]⟩, .slice none 0 0]), f14, f15, f16, p5, p6, p7, rfl, by simp [hsz], (((hb.setCell (p := ⟨p6, 0, none⟩) (g10 hfl).2.1 _).setCell (p := ⟨p6, 1, none⟩) (g10 hfl).2.1 _).setCell (p := ⟨p6, 2, none⟩) (g10 hfl).2.1 _).setCell (p := ⟨p6, 3, none⟩) (g10 hfl).2.1 _, ?_⟩
        simp only [kf 0 (by decide), kf 1 (by decide), kf 2 (by decide), kf 3 (by decide), kf 4 (by decide), kf 5 (by decide), kf 6 (by decide), kf 7 (by decide), kf 8 (by decide), kf 9 (by decide), kf 10 (by decide), kf 11 (by decide), kf 12 (by decide), kf 14 (by decide)]
        exact ⟨g0, g1, g2, g3, g4, fun _ => trivial, g6, g7, g8, fun q => ⟨(g9 q).1, (g9 q).2.1, (put4_far (n1 q hfl)).trans (g9 q).2.2⟩, fun q => ⟨trivial, (g10 q).2.1, by rw [getD_new hlt]; exact put4_here hz _ _ _ _⟩, fun q => ⟨(g11 q).1, (g11 q).2.1, (put4_far (fun e => n3 hfl q e.symm)).trans (g11 q).2.2⟩, n1, n2, n3, w12, fun _ => hfl, w14⟩
      · have hfl : d.getD 11 false = true := hall _ (List.mem_toArray.2 (List.mem_cons_self ..)) rfl
        have hfv : d.getD 8 false = true := hall _ (List.mem_toArray.2 (List.mem_cons_of_mem _ (List.mem_cons_self ..))) rfl
        have e1 := (g11 hfl).1
        have e2 := g8 hfv
        have hz : u.heap[p7]? = some (.cells #[.int .i64 0, .int .i64 0, .string ⟨#[]⟩, .slice none 0 0] 24 (0, 0)) := by
          have := (g11 hfl).2.2
          rw [getD_un hun] at this
          exact this
        have c0 := cell_of hz 0
        have c1 := cell_of hz 1
        have c2 := cell_of hz 2
        have c3 := cell_of hz 3
        have q0 := free_of hz 0
        have q1 := free_of hz 1
        have q2 := free_of hz 2
        have q3 := free_of hz 3
        simp at c0 c1 c2 c3
        subst e1
        subst e2
        go_simp
        have hlt : 14 < d.size := by omega
        have kf : ∀ j, 14 ≠ j → (d.setIfInBounds 14 true).getD j false = d.getD j false := fun j hj => getD_set_ne false hj
        refine hK _ _ ⟨f5, f6, .pointer (some ⟨p7, 0, none⟩), f8, f9, f10, f11, f12, f13, f14, f15, (.agg #[.int .i64 zk, .int .i64 zn, .string ⟨#[]⟩, .slice none 0 0]), p5, p6, p7, rfl, by simp [hsz], (((hb.setCell (p := ⟨p7, 0, none⟩) (g11 hfl).2.1 _).setCell (p := ⟨p7, 1, none⟩) (g11 hfl).2.1 _).setCell (p := ⟨p7, 2, none⟩) (g11 hfl).2.1 _).setCell (p := ⟨p7, 3, none⟩) (g11 hfl).2.1 _, ?_⟩
        simp only [kf 0 (by decide), kf 1 (by decide), kf 2 (by decide), kf 3 (by decide), kf 4 (by decide), kf 5 (by decide), kf 6 (by decide), kf 7 (by decide), kf 8 (by decide), kf 9 (by decide), kf 10 (by decide), kf 11 (by decide), kf 12 (by decide), kf 13 (by decide)]
        exact ⟨g0, g1, g2, g3, g4, g5, g6, g7, fun _ => trivial, fun q => ⟨(g9 q).1, (g9 q).2.1, (put4_far (n2 q hfl)).trans (g9 q).2.2⟩, fun q => ⟨(g10 q).1, (g10 q).2.1, (put4_far (n3 q hfl)).trans (g10 q).2.2⟩, fun q => ⟨trivial, (g11 q).2.1, by rw [getD_new hlt]; exact put4_here hz _ _ _ _⟩, n1, n2, n3, w12, w13, fun _ => hfl⟩
  case rest =>
    obtain ⟨p5, p6, p7, rfl, rfl, rfl, h5, h6, h7, k2⟩ := hcut
    have l5 := (Array.getElem?_eq_some_iff.1 h5).1
    have l6 := (Array.getElem?_eq_some_iff.1 h6).1
    have l7 := (Array.getElem?_eq_some_iff.1 h7).1
    have c2 := below2 b0 k2
    clear x0 x1 x2 x3 y0 y1 y2 y3
    go_wp2_with fail
    refine (HV.out _ c2).mono ?_
    rintro e w3 ⟨rfl, k3⟩
    have c3 := below2 c2 k3
    have a0 : w3.cell? ⟨p5, 0, none⟩ = some (.int .i64 xk) := (k3.cell l5).trans (cell_of h5 0)
    have a1 : w3.cell? ⟨p5, 1, none⟩ = some (.int .i64 xn) := (k3.cell l5).trans (cell_of h5 1)
    have a2 : w3.cell? ⟨p6, 0, none⟩ = some (.int .i64 yk) := (k3.cell l6).trans (cell_of h6 0)
    have a3 : w3.cell? ⟨p6, 1, none⟩ = some (.int .i64 yn) := (k3.cell l6).trans (cell_of h6 1)
    have a4 : w3.cell? ⟨p7, 1, none⟩ = some (.int .i64 zn) := (k3.cell l7).trans (cell_of h7 1)
    clear h5 h6 h7
    rcases HLAST.out with ⟨rfl, rfl⟩ | ⟨rfl, rfl, b1, b2, b3, b4, b5, b6, b7⟩
    · clear HLAST
      go_wp2_with fail
      go_ret
      exact ⟨rfl, c3⟩
    · clear HLAST
      go_wp2_with fail
      go_ret
      refine ⟨?_, c3⟩
      simp
end Go.Proofs.YtkllapibpcgllabDoor
