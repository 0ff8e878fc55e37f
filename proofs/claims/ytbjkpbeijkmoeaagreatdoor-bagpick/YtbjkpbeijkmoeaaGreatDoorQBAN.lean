/-
  What is proved here: what the texts BJoin2, BJoin3, BMeetB prove, in one text.
-/
import Derived.Test.YtbjkpbeijkmoeaaGreatDoorQBAM
namespace Go.Proofs.YtbjkpbeijkmoeaaGreatDoor
open Go.RowKit
set_option linter.unusedVariables false

set_option linter.unusedSimpArgs false

/-- What is counted: x's row, and y's behind its first values. -/
def joinC (k : Nat) (x y : Ct) (M : Ct) : Prop := M.L = x.L ++ y.L.drop k ∧ M.n = x.n * y.n

theorem lie_drop {A : Nat → Prop} {w : World} {L : List T} {b off l : Nat} (h : LieA A w L (some ⟨b, off, none⟩) l) {k : Nat} (hk : k < l) : LieA A w (L.drop k) (some ⟨b, off + k * 4, none⟩) (l - k) := by
  induction L generalizing off l k with
  | nil => unfold LieA at h; omega
  | cons t ts ih =>
    cases k with
    | zero => simpa using h
    | succ k =>
      unfold LieA at h
      obtain ⟨b', off', e, hl, hm, hA, hb, hT, hS⟩ := h
      simp only [Option.some.injEq, Addr.mk.injEq, and_true] at e
      obtain ⟨rfl, rfl⟩ := e
      have h1 := ih hS (k := k) (by omega)
      rw [List.drop_succ_cons, show off + (k + 1) * 4 = off + 4 + k * 4 by omega, show l - (k + 1) = ts.length - k by omega]
      exact h1

/-- What Concat leaves is a row. -/
theorem conc_row (A : Nat → Prop) {w : World} {B l : Nat} {v : Value} {cs : List Value} {L : List T} (h : w.ownsRow B 45 4 v l cs) (hs : Sh A w L cs) (hl : L.length = l) (hA : ∀ g, B ≤ g → A g) : ∃ a c, v = .slice a l c ∧ LieA A w L a l := by
  rcases h.2 with ⟨h0, h1⟩ | ⟨g, cap, cur, h0, h1, h2, h3, h4, h5, h6⟩
  · subst h1
    have : L = [] := List.length_eq_zero_iff.1 hl
    subst this
    exact ⟨none, 0, h0, by unfold LieA; rfl⟩
  · refine ⟨some ⟨g, 0, none⟩, cap, h0, ?_⟩
    have hm : maxLen ≤ 9223372036854775807 := by unfold maxLen; decide
    have h7 := Sh.lie (off := 0) (hA g h1) (blkB_lt h2) hs (by omega) fun t u hu => by
      rw [Nat.zero_add, cell_of h2, ← Array.getElem?_toList]
      have ht : t < cs.length := (List.getElem?_eq_some_iff.1 hu).1
      rw [← h6, List.getElem?_take] at hu
      split at hu
      · exact hu
      · cases hu
    rw [hl] at h7
    exact h7

theorem lie_end {A : Nat → Prop} {w : World} {L : List T} {a a' : Option Addr} {l k : Nat} (h : LieA A w L a l) (hk : l ≤ k) : LieA A w (L.drop k) a' (l - k) := by
  have h1 := (LieA.lies _ _ _ h).length.1
  rw [List.drop_eq_nil_of_le (by omega)]
  unfold LieA
  omega

set_option maxHeartbeats 8000000 in
set_option maxRecDepth 100000 in
theorem join21_s (T0 bo bc bk : Nat) (k : Nat) (M : List Ct) (x : Ct) (yn : Int) (yl yc : Nat) (yL : List T) (A : Addr) (v : Value) (w : World) (hT : T0 ≤ w.heap.size) (h : TInv T0 bo M w v) (hl : M.length ≤ 900000) (hc : w.heap[bc]? = some (.cells #[.func (.func 53) #[] #[.pointer (some ⟨bo, 0, none⟩)]] 55 (0, 0))) (hk : w.heap[bk]? = some (.cells #[.int .i64 k] 3 (0, 0))) (hbc : bc ≠ bo ∧ v.ownBlock ≠ some bc) (hbk : bk ≠ bo ∧ v.ownBlock ≠ some bk)
    (hx : LieA (fun i => i ≠ bo ∧ v.ownBlock ≠ some i) w x.L x.a x.l) (hy : LieA (fun i => i ≠ bo ∧ v.ownBlock ≠ some i) w (yL.drop k) (some (A.add (k * 4))) (yl - k)) (hky : k ≤ yl) (hyc : yl ≤ yc) (hlen : x.l + yl ≤ 1000) (hp : -4611686018427387904 ≤ x.n * yn ∧ x.n * yn ≤ 4611686018427387904) (hxl : x.l = x.L.length) (hyl : yl = yL.length) (hck : ¬ (yc = k)) :
    Calls Tryz.prog 44 #[.agg #[.slice x.a x.l x.c, .int .i64 x.n], .agg #[.slice (some A) yl yc, .int .i64 yn], .pointer (some ⟨bc, 0, none⟩), .pointer (some ⟨bk, 0, none⟩)] w fun e w' => e = .returned (.tuple #[]) ∧ ∃ q v', joinC k x ⟨yn, (some A), yl, yc, yL⟩ q ∧ TInv T0 bo (M ++ [q]) w' v' ∧ TStep bo v v' w w' := by
  have HX2 := toHid ((Below.heap_alloc (w.alloc (cObj x)) (cObj ⟨yn, (some A), yl, yc, yL⟩) w.heap.size (by simp)).trans (alloc_new w (cObj x)))
  have HY2 := toHid (alloc_two w (cObj x) (cObj ⟨yn, (some A), yl, yc, yL⟩))
  have b2 : Below w.heap.size w ((w.alloc (cObj x)).alloc (cObj ⟨yn, (some A), yl, yc, yL⟩)) := ((Below.refl _ _).alloc (Nat.le_refl _) _).alloc (by simp) _
  have HB2 := toHid b2
  have HZ2 : Hid (((w.alloc (cObj x)).alloc (cObj ⟨yn, (some A), yl, yc, yL⟩)).heap.size = w.heap.size + 2) := by show _ = _; simp
  have HI2 := toHid (h.below b2)
  have HBC := toHid ((b2.block bc (blkB_lt hc)).trans hc)
  have HBK := toHid ((b2.block bk (blkB_lt hk)).trans hk)
  have HLXY : Hid (LieA (fun i => i ≠ bo ∧ v.ownBlock ≠ some i) ((w.alloc (cObj x)).alloc (cObj ⟨yn, (some A), yl, yc, yL⟩)) x.L x.a x.l ∧ LieA (fun i => i ≠ bo ∧ v.ownBlock ≠ some i) ((w.alloc (cObj x)).alloc (cObj ⟨yn, (some A), yl, yc, yL⟩)) (yL.drop k) (some (A.add (k * 4))) (yl - k)) := ⟨LieA.kept b2.size (fun i hi hl => ⟨hi, b2.block i hl⟩) _ _ _ hx, LieA.kept b2.size (fun i hi hl => ⟨hi, b2.block i hl⟩) _ _ _ hy⟩
  have HNO := toHid (show (bc ≠ bo ∧ v.ownBlock ≠ some bc) ∧ (bk ≠ bo ∧ v.ownBlock ≠ some bk) from ⟨hbc, hbk⟩)
  have HML := toHid hl
  have HT0 := toHid hT
  have HXL := toHid (show x.l = x.L.length ∧ yl = yL.length from ⟨hxl, hyl⟩)
  have hkc : k ≤ yc := Nat.le_trans hky hyc
  have hky' : (k : Int) ≤ yl := by omega
  have hk0 : (0 : Int) ≤ k := by omega
  have hwm : IntKind.i64.wrap (x.n * yn) = x.n * yn := by rw [IntKind.wrap_i64]; omega
  have hwm2 : wrap64 (x.n * yn) = x.n * yn := by unfold wrap64; omega
  have HH := toHid h
  have HOW : Hid (∀ g, v.ownBlock = some g → g < w.heap.size) := fun g hg => (rowLt h.row hg).2
  have hbo : bo < w.heap.size := blkB_lt h.box
  have HLEN := toHid hlen
  clear h hc hk b2 hx hy hl hT hbc hbk hxl hyl hp hlen
  go_enter Tryz.func44, Tryz.ntmps44
  go_upto_region 1 with fail
  generalize (w.alloc (cObj x)).alloc (cObj ⟨yn, (some A), yl, yc, yL⟩) = W2 at HX2 HY2 HB2 HI2 HBC HBK HLXY HZ2 ⊢
  have x0 := cell_of HX2.out 0
  have x1 := cell_of HX2.out 1
  have y0 := cell_of HY2.out 0
  have y1 := cell_of HY2.out 1
  have p0 := cell_of HBC.out 0
  have p1 := cell_of HBK.out 0
  simp at x0 x1 y0 y1 p0 p1
  have g1 := blkB_lt HX2.out
  have g2 := blkB_lt HY2.out
  have g3 := blkB_lt HBC.out
  have g4 := blkB_lt HBK.out
  have D0 : Below W2.heap.size W2 W2.drew := (Below.refl _ _).drew
  have HCC : Hid (∀ W bs, Below W2.heap.size W2 W → W.heap[bs]? = some (.cells #[.slice x.a x.l x.c, .slice (some (A.add (k * 4))) (yl - k) (yc - k)] 30 (0, 0)) → Calls Tryz.prog 21 #[.slice (some ⟨bs, 0, none⟩) 2 2] W fun e w' => (∃ v1 cs, e = .returned v1 ∧ w'.ownsRow W.heap.size 45 4 v1 (x.l + (yl - k)) cs ∧ Sh (fun i => i ≠ bo ∧ v.ownBlock ≠ some i) w' (x.L ++ yL.drop k) cs) ∧ Below W.heap.size W w') := fun W bs k1 hb => by
    have hP := concat_any (fun i => i ≠ bo ∧ v.ownBlock ≠ some i) [x, ⟨yn, (some (A.add (k * 4))), yl - k, yc - k, yL.drop k⟩] bs 2 W rfl (by decide) (blkB_lt hb) (fun i z hz => by
      match i, hz with
      | 0, hz => simp at hz; subst hz; exact (cell_of hb 0).trans rfl
      | 1, hz => simp at hz; subst hz; exact (cell_of hb 1).trans rfl
      | i + 2, hz => simp at hz) (fun z hz => by
      simp at hz
      rcases hz with rfl | rfl
      · exact LieA.kept k1.size (fun i hi hl => ⟨hi, k1.block i hl⟩) _ _ _ HLXY.out.1
      · exact LieA.kept k1.size (fun i hi hl => ⟨hi, k1.block i hl⟩) _ _ _ HLXY.out.2) (by have := HLEN.out; simp [lenS]; omega)
    refine hP.mono ?_
    rintro e w' ⟨⟨v1, cs, rfl, h1, h2⟩, h3⟩
    refine ⟨⟨v1, cs, rfl, ?_, ?_⟩, h3⟩
    · have e1 : lenS [x, ⟨yn, (some (A.add (k * 4))), yl - k, yc - k, yL.drop k⟩] = x.l + (yl - k) := by simp [lenS]
      rw [e1] at h1
      exact h1
    · have e1 : [x, ⟨yn, (some (A.add (k * 4))), yl - k, yc - k, yL.drop k⟩].flatMap (·.L) = x.L ++ yL.drop k := by simp
      rw [e1] at h2
      exact h2
  have KA : Below W2.heap.size W2 (W2.alloc (.cells #[.slice x.a x.l x.c, .slice (some (A.add (k * 4))) (yl - k) (yc - k)] 30)).drew := ((Below.refl _ _).alloc (Nat.le_refl _) _).drew
  have HA : Hid ((W2.alloc (.cells #[.slice x.a x.l x.c, .slice (some (A.add (k * 4))) (yl - k) (yc - k)] 30)).drew.heap[W2.heap.size]? = some (.cells #[.slice x.a x.l x.c, .slice (some (A.add (k * 4))) (yl - k) (yc - k)] 30 (0, 0))) := alloc_new W2 _
  have HCD := toHid (HCC.out _ _ KA HA.out)
  have n1 : w.heap.size ≠ bo ∧ v.ownBlock ≠ some w.heap.size := ⟨by omega, fun e => by have := HOW.out _ e; omega⟩
  have n2 : w.heap.size + 1 ≠ bo ∧ v.ownBlock ≠ some (w.heap.size + 1) := ⟨by omega, fun e => by have := HOW.out _ e; omega⟩
  have HN12 := toHid (And.intro n1 n2)
  clear n1 n2
  go_region_held3 (fun W' => (W'.cell? ⟨bc, 0, none⟩ = some (.func (.func 53) #[] #[.pointer (some ⟨bo, 0, none⟩)]) ∧ W'.cell? ⟨bk, 0, none⟩ = some (.int .i64 k) ∧ W'.cell? ⟨w.heap.size, 0, none⟩ = some (.slice x.a x.l x.c) ∧ W'.cell? ⟨w.heap.size, 1, none⟩ = some (.int .i64 x.n) ∧ W'.cell? ⟨w.heap.size + 1, 0, none⟩ = some (.slice (some A) yl yc) ∧ W'.cell? ⟨w.heap.size + 1, 1, none⟩ = some (.int .i64 yn)))
    (first
      | exact ⟨p0, p1, x0, x1, y0, y1⟩
      | exact ⟨(World.cell?_of_block (kd bc g3 HNO.out.1.1 HNO.out.1.2)).trans p0, (World.cell?_of_block (kd bk g4 HNO.out.2.1 HNO.out.2.2)).trans p1, (World.cell?_of_block (kd _ g1 HN12.out.1.1 HN12.out.1.2)).trans x0, (World.cell?_of_block (kd _ g1 HN12.out.1.1 HN12.out.1.2)).trans x1, (World.cell?_of_block (kd _ g2 HN12.out.2.1 HN12.out.2.2)).trans y0, (World.cell?_of_block (kd _ g2 HN12.out.2.1 HN12.out.2.2)).trans y1⟩
      | exact ⟨(kc.cell (p := ⟨bc, 0, none⟩) g3).trans p0, (kc.cell (p := ⟨bk, 0, none⟩) g4).trans p1, (kc.cell (p := ⟨w.heap.size, 0, none⟩) g1).trans x0, (kc.cell (p := ⟨w.heap.size, 1, none⟩) g1).trans x1, (kc.cell (p := ⟨w.heap.size + 1, 0, none⟩) g2).trans y0, (kc.cell (p := ⟨w.heap.size + 1, 1, none⟩) g2).trans y1⟩
      | go_keep)
    (first
      | (go_at_call 21; go_fit HCD.out; rintro e uc ⟨⟨v1, cs, rfl, hr1, hs1⟩, kk⟩; have kc : Below W2.heap.size W2 uc := KA.trans (kk.mono KA.size); obtain ⟨a1, c1, hv1, hq1⟩ := conc_row (fun i => i ≠ bo ∧ v.ownBlock ≠ some i) (l := x.l + (yl - k)) hr1 hs1 (by have h1 := HXL.out; simp only [List.length_append, List.length_drop]; omega) (fun g hg => by have h1 := KA.size; have h2 := HZ2.out; exact ⟨by omega, fun e => by have := HOW.out _ e; omega⟩); subst hv1; have hi1 := HI2.out.below kc; have HQ1 := toHid (tally1_any T0 bo M ⟨x.n * yn, a1, x.l + (yl - k), c1, x.L ++ yL.drop k⟩ uc v (Nat.le_trans HT0.out (Nat.le_trans HB2.out.size kc.size)) hi1 HML.out hq1); clear hr1 hs1 kk hi1 hq1)
      | (go_at_call 53; go_fit HQ1.out; rintro e u2 ⟨rfl, v2, hi2, hs2⟩; have kd : ∀ j, j < W2.heap.size → j ≠ bo → v.ownBlock ≠ some j → u2.heap[j]? = W2.heap[j]? := fun j hj h1 h2 => (hs2.block j (Nat.lt_of_lt_of_le hj kc.size) h1 h2).trans (kc.block j hj)))
  all_goals
    go_end0
    exact ⟨rfl, _, v2, ⟨rfl, rfl⟩, hi2, (TStep.below HB2.out).trans ((TStep.below kc).trans hs2)⟩

set_option maxHeartbeats 8000000 in
set_option maxRecDepth 100000 in
theorem join21_n (T0 bo bc bk : Nat) (k : Nat) (M : List Ct) (x : Ct) (yn : Int) (yl yc : Nat) (yL : List T)  (v : Value) (w : World) (hT : T0 ≤ w.heap.size) (h : TInv T0 bo M w v) (hl : M.length ≤ 900000) (hc : w.heap[bc]? = some (.cells #[.func (.func 53) #[] #[.pointer (some ⟨bo, 0, none⟩)]] 55 (0, 0))) (hk : w.heap[bk]? = some (.cells #[.int .i64 k] 3 (0, 0))) (hbc : bc ≠ bo ∧ v.ownBlock ≠ some bc) (hbk : bk ≠ bo ∧ v.ownBlock ≠ some bk)
    (hx : LieA (fun i => i ≠ bo ∧ v.ownBlock ≠ some i) w x.L x.a x.l) (hy : LieA (fun i => i ≠ bo ∧ v.ownBlock ≠ some i) w (yL.drop k) none (yl - k)) (hky : k ≤ yl) (hyc : yl ≤ yc) (hlen : x.l + yl ≤ 1000) (hp : -4611686018427387904 ≤ x.n * yn ∧ x.n * yn ≤ 4611686018427387904) (hxl : x.l = x.L.length) (hyl : yl = yL.length)  :
    Calls Tryz.prog 44 #[.agg #[.slice x.a x.l x.c, .int .i64 x.n], .agg #[.slice none yl yc, .int .i64 yn], .pointer (some ⟨bc, 0, none⟩), .pointer (some ⟨bk, 0, none⟩)] w fun e w' => e = .returned (.tuple #[]) ∧ ∃ q v', joinC k x ⟨yn, none, yl, yc, yL⟩ q ∧ TInv T0 bo (M ++ [q]) w' v' ∧ TStep bo v v' w w' := by
  have HX2 := toHid ((Below.heap_alloc (w.alloc (cObj x)) (cObj ⟨yn, none, yl, yc, yL⟩) w.heap.size (by simp)).trans (alloc_new w (cObj x)))
  have HY2 := toHid (alloc_two w (cObj x) (cObj ⟨yn, none, yl, yc, yL⟩))
  have b2 : Below w.heap.size w ((w.alloc (cObj x)).alloc (cObj ⟨yn, none, yl, yc, yL⟩)) := ((Below.refl _ _).alloc (Nat.le_refl _) _).alloc (by simp) _
  have HB2 := toHid b2
  have HZ2 : Hid (((w.alloc (cObj x)).alloc (cObj ⟨yn, none, yl, yc, yL⟩)).heap.size = w.heap.size + 2) := by show _ = _; simp
  have HI2 := toHid (h.below b2)
  have HBC := toHid ((b2.block bc (blkB_lt hc)).trans hc)
  have HBK := toHid ((b2.block bk (blkB_lt hk)).trans hk)
  have HLXY : Hid (LieA (fun i => i ≠ bo ∧ v.ownBlock ≠ some i) ((w.alloc (cObj x)).alloc (cObj ⟨yn, none, yl, yc, yL⟩)) x.L x.a x.l ∧ LieA (fun i => i ≠ bo ∧ v.ownBlock ≠ some i) ((w.alloc (cObj x)).alloc (cObj ⟨yn, none, yl, yc, yL⟩)) (yL.drop k) none (yl - k)) := ⟨LieA.kept b2.size (fun i hi hl => ⟨hi, b2.block i hl⟩) _ _ _ hx, LieA.kept b2.size (fun i hi hl => ⟨hi, b2.block i hl⟩) _ _ _ hy⟩
  have HNO := toHid (show (bc ≠ bo ∧ v.ownBlock ≠ some bc) ∧ (bk ≠ bo ∧ v.ownBlock ≠ some bk) from ⟨hbc, hbk⟩)
  have HML := toHid hl
  have HT0 := toHid hT
  have HXL := toHid (show x.l = x.L.length ∧ yl = yL.length from ⟨hxl, hyl⟩)
  have hkc : k ≤ yc := Nat.le_trans hky hyc
  have hky' : (k : Int) ≤ yl := by omega
  have hk0 : (0 : Int) ≤ k := by omega
  have hwm : IntKind.i64.wrap (x.n * yn) = x.n * yn := by rw [IntKind.wrap_i64]; omega
  have hwm2 : wrap64 (x.n * yn) = x.n * yn := by unfold wrap64; omega
  have HH := toHid h
  have HOW : Hid (∀ g, v.ownBlock = some g → g < w.heap.size) := fun g hg => (rowLt h.row hg).2
  have hbo : bo < w.heap.size := blkB_lt h.box
  have HLEN := toHid hlen
  clear h hc hk b2 hx hy hl hT hbc hbk hxl hyl hp hlen
  go_enter Tryz.func44, Tryz.ntmps44
  go_upto_region 1 with fail
  generalize (w.alloc (cObj x)).alloc (cObj ⟨yn, none, yl, yc, yL⟩) = W2 at HX2 HY2 HB2 HI2 HBC HBK HLXY HZ2 ⊢
  have x0 := cell_of HX2.out 0
  have x1 := cell_of HX2.out 1
  have y0 := cell_of HY2.out 0
  have y1 := cell_of HY2.out 1
  have p0 := cell_of HBC.out 0
  have p1 := cell_of HBK.out 0
  simp at x0 x1 y0 y1 p0 p1
  have g1 := blkB_lt HX2.out
  have g2 := blkB_lt HY2.out
  have g3 := blkB_lt HBC.out
  have g4 := blkB_lt HBK.out
  have D0 : Below W2.heap.size W2 W2.drew := (Below.refl _ _).drew
  have HCC : Hid (∀ W bs, Below W2.heap.size W2 W → W.heap[bs]? = some (.cells #[.slice x.a x.l x.c, .slice none (yl - k) (yc - k)] 30 (0, 0)) → Calls Tryz.prog 21 #[.slice (some ⟨bs, 0, none⟩) 2 2] W fun e w' => (∃ v1 cs, e = .returned v1 ∧ w'.ownsRow W.heap.size 45 4 v1 (x.l + (yl - k)) cs ∧ Sh (fun i => i ≠ bo ∧ v.ownBlock ≠ some i) w' (x.L ++ yL.drop k) cs) ∧ Below W.heap.size W w') := fun W bs k1 hb => by
    have hP := concat_any (fun i => i ≠ bo ∧ v.ownBlock ≠ some i) [x, ⟨yn, none, yl - k, yc - k, yL.drop k⟩] bs 2 W rfl (by decide) (blkB_lt hb) (fun i z hz => by
      match i, hz with
      | 0, hz => simp at hz; subst hz; exact (cell_of hb 0).trans rfl
      | 1, hz => simp at hz; subst hz; exact (cell_of hb 1).trans rfl
      | i + 2, hz => simp at hz) (fun z hz => by
      simp at hz
      rcases hz with rfl | rfl
      · exact LieA.kept k1.size (fun i hi hl => ⟨hi, k1.block i hl⟩) _ _ _ HLXY.out.1
      · exact LieA.kept k1.size (fun i hi hl => ⟨hi, k1.block i hl⟩) _ _ _ HLXY.out.2) (by have := HLEN.out; simp [lenS]; omega)
    refine hP.mono ?_
    rintro e w' ⟨⟨v1, cs, rfl, h1, h2⟩, h3⟩
    refine ⟨⟨v1, cs, rfl, ?_, ?_⟩, h3⟩
    · have e1 : lenS [x, ⟨yn, none, yl - k, yc - k, yL.drop k⟩] = x.l + (yl - k) := by simp [lenS]
      rw [e1] at h1
      exact h1
    · have e1 : [x, ⟨yn, none, yl - k, yc - k, yL.drop k⟩].flatMap (·.L) = x.L ++ yL.drop k := by simp
      rw [e1] at h2
      exact h2
  have KA : Below W2.heap.size W2 (W2.alloc (.cells #[.slice x.a x.l x.c, .slice none (yl - k) (yc - k)] 30)).drew := ((Below.refl _ _).alloc (Nat.le_refl _) _).drew
  have HA : Hid ((W2.alloc (.cells #[.slice x.a x.l x.c, .slice none (yl - k) (yc - k)] 30)).drew.heap[W2.heap.size]? = some (.cells #[.slice x.a x.l x.c, .slice none (yl - k) (yc - k)] 30 (0, 0))) := alloc_new W2 _
  have HCD := toHid (HCC.out _ _ KA HA.out)
  have n1 : w.heap.size ≠ bo ∧ v.ownBlock ≠ some w.heap.size := ⟨by omega, fun e => by have := HOW.out _ e; omega⟩
  have n2 : w.heap.size + 1 ≠ bo ∧ v.ownBlock ≠ some (w.heap.size + 1) := ⟨by omega, fun e => by have := HOW.out _ e; omega⟩
  have HN12 := toHid (And.intro n1 n2)
  clear n1 n2
  go_region_held3 (fun W' => (W'.cell? ⟨bc, 0, none⟩ = some (.func (.func 53) #[] #[.pointer (some ⟨bo, 0, none⟩)]) ∧ W'.cell? ⟨bk, 0, none⟩ = some (.int .i64 k) ∧ W'.cell? ⟨w.heap.size, 0, none⟩ = some (.slice x.a x.l x.c) ∧ W'.cell? ⟨w.heap.size, 1, none⟩ = some (.int .i64 x.n) ∧ W'.cell? ⟨w.heap.size + 1, 0, none⟩ = some (.slice none yl yc) ∧ W'.cell? ⟨w.heap.size + 1, 1, none⟩ = some (.int .i64 yn)))
    (first
      | exact ⟨p0, p1, x0, x1, y0, y1⟩
      | exact ⟨(World.cell?_of_block (kd bc g3 HNO.out.1.1 HNO.out.1.2)).trans p0, (World.cell?_of_block (kd bk g4 HNO.out.2.1 HNO.out.2.2)).trans p1, (World.cell?_of_block (kd _ g1 HN12.out.1.1 HN12.out.1.2)).trans x0, (World.cell?_of_block (kd _ g1 HN12.out.1.1 HN12.out.1.2)).trans x1, (World.cell?_of_block (kd _ g2 HN12.out.2.1 HN12.out.2.2)).trans y0, (World.cell?_of_block (kd _ g2 HN12.out.2.1 HN12.out.2.2)).trans y1⟩
      | exact ⟨(kc.cell (p := ⟨bc, 0, none⟩) g3).trans p0, (kc.cell (p := ⟨bk, 0, none⟩) g4).trans p1, (kc.cell (p := ⟨w.heap.size, 0, none⟩) g1).trans x0, (kc.cell (p := ⟨w.heap.size, 1, none⟩) g1).trans x1, (kc.cell (p := ⟨w.heap.size + 1, 0, none⟩) g2).trans y0, (kc.cell (p := ⟨w.heap.size + 1, 1, none⟩) g2).trans y1⟩
      | go_keep)
    (first
      | (go_at_call 21; go_fit HCD.out; rintro e uc ⟨⟨v1, cs, rfl, hr1, hs1⟩, kk⟩; have kc : Below W2.heap.size W2 uc := KA.trans (kk.mono KA.size); obtain ⟨a1, c1, hv1, hq1⟩ := conc_row (fun i => i ≠ bo ∧ v.ownBlock ≠ some i) (l := x.l + (yl - k)) hr1 hs1 (by have h1 := HXL.out; simp only [List.length_append, List.length_drop]; omega) (fun g hg => by have h1 := KA.size; have h2 := HZ2.out; exact ⟨by omega, fun e => by have := HOW.out _ e; omega⟩); subst hv1; have hi1 := HI2.out.below kc; have HQ1 := toHid (tally1_any T0 bo M ⟨x.n * yn, a1, x.l + (yl - k), c1, x.L ++ yL.drop k⟩ uc v (Nat.le_trans HT0.out (Nat.le_trans HB2.out.size kc.size)) hi1 HML.out hq1); clear hr1 hs1 kk hi1 hq1)
      | (go_at_call 53; go_fit HQ1.out; rintro e u2 ⟨rfl, v2, hi2, hs2⟩; have kd : ∀ j, j < W2.heap.size → j ≠ bo → v.ownBlock ≠ some j → u2.heap[j]? = W2.heap[j]? := fun j hj h1 h2 => (hs2.block j (Nat.lt_of_lt_of_le hj kc.size) h1 h2).trans (kc.block j hj)))
  all_goals
    go_end0
    exact ⟨rfl, _, v2, ⟨rfl, rfl⟩, hi2, (TStep.below HB2.out).trans ((TStep.below kc).trans hs2)⟩

set_option maxHeartbeats 8000000 in
set_option maxRecDepth 100000 in
theorem join21_e (T0 bo bc bk : Nat) (k : Nat) (M : List Ct) (x : Ct) (yn : Int) (yl : Nat) (yL : List T) (A : Addr) (v : Value) (w : World) (hT : T0 ≤ w.heap.size) (h : TInv T0 bo M w v) (hl : M.length ≤ 900000) (hc : w.heap[bc]? = some (.cells #[.func (.func 53) #[] #[.pointer (some ⟨bo, 0, none⟩)]] 55 (0, 0))) (hk : w.heap[bk]? = some (.cells #[.int .i64 k] 3 (0, 0))) (hbc : bc ≠ bo ∧ v.ownBlock ≠ some bc) (hbk : bk ≠ bo ∧ v.ownBlock ≠ some bk)
    (hx : LieA (fun i => i ≠ bo ∧ v.ownBlock ≠ some i) w x.L x.a x.l) (hy : LieA (fun i => i ≠ bo ∧ v.ownBlock ≠ some i) w (yL.drop k) (some A) 0) (hky : k ≤ yl) (hyc : yl ≤ k) (hlen : x.l + yl ≤ 1000) (hp : -4611686018427387904 ≤ x.n * yn ∧ x.n * yn ≤ 4611686018427387904) (hxl : x.l = x.L.length) (hyl : yl = yL.length)  :
    Calls Tryz.prog 44 #[.agg #[.slice x.a x.l x.c, .int .i64 x.n], .agg #[.slice (some A) yl k, .int .i64 yn], .pointer (some ⟨bc, 0, none⟩), .pointer (some ⟨bk, 0, none⟩)] w fun e w' => e = .returned (.tuple #[]) ∧ ∃ q v', joinC k x ⟨yn, (some A), yl, k, yL⟩ q ∧ TInv T0 bo (M ++ [q]) w' v' ∧ TStep bo v v' w w' := by
  have HX2 := toHid ((Below.heap_alloc (w.alloc (cObj x)) (cObj ⟨yn, (some A), yl, k, yL⟩) w.heap.size (by simp)).trans (alloc_new w (cObj x)))
  have HY2 := toHid (alloc_two w (cObj x) (cObj ⟨yn, (some A), yl, k, yL⟩))
  have b2 : Below w.heap.size w ((w.alloc (cObj x)).alloc (cObj ⟨yn, (some A), yl, k, yL⟩)) := ((Below.refl _ _).alloc (Nat.le_refl _) _).alloc (by simp) _
  have HB2 := toHid b2
  have HZ2 : Hid (((w.alloc (cObj x)).alloc (cObj ⟨yn, (some A), yl, k, yL⟩)).heap.size = w.heap.size + 2) := by show _ = _; simp
  have HI2 := toHid (h.below b2)
  have HBC := toHid ((b2.block bc (blkB_lt hc)).trans hc)
  have HBK := toHid ((b2.block bk (blkB_lt hk)).trans hk)
  have HLXY : Hid (LieA (fun i => i ≠ bo ∧ v.ownBlock ≠ some i) ((w.alloc (cObj x)).alloc (cObj ⟨yn, (some A), yl, k, yL⟩)) x.L x.a x.l ∧ LieA (fun i => i ≠ bo ∧ v.ownBlock ≠ some i) ((w.alloc (cObj x)).alloc (cObj ⟨yn, (some A), yl, k, yL⟩)) (yL.drop k) (some A) 0) := ⟨LieA.kept b2.size (fun i hi hl => ⟨hi, b2.block i hl⟩) _ _ _ hx, LieA.kept b2.size (fun i hi hl => ⟨hi, b2.block i hl⟩) _ _ _ hy⟩
  have HNO := toHid (show (bc ≠ bo ∧ v.ownBlock ≠ some bc) ∧ (bk ≠ bo ∧ v.ownBlock ≠ some bk) from ⟨hbc, hbk⟩)
  have HML := toHid hl
  have HT0 := toHid hT
  have HXL := toHid (show x.l = x.L.length ∧ yl = yL.length from ⟨hxl, hyl⟩)
  have hkc : k ≤ k := Nat.le_trans hky hyc
  have hky' : (k : Int) ≤ yl := by omega
  have hk0 : (0 : Int) ≤ k := by omega
  have hwm : IntKind.i64.wrap (x.n * yn) = x.n * yn := by rw [IntKind.wrap_i64]; omega
  have hwm2 : wrap64 (x.n * yn) = x.n * yn := by unfold wrap64; omega
  have HH := toHid h
  have HOW : Hid (∀ g, v.ownBlock = some g → g < w.heap.size) := fun g hg => (rowLt h.row hg).2
  have hbo : bo < w.heap.size := blkB_lt h.box
  have HLEN := toHid hlen
  clear h hc hk b2 hx hy hl hT hbc hbk hxl hyl hp hlen
  go_enter Tryz.func44, Tryz.ntmps44
  go_upto_region 1 with fail
  generalize (w.alloc (cObj x)).alloc (cObj ⟨yn, (some A), yl, k, yL⟩) = W2 at HX2 HY2 HB2 HI2 HBC HBK HLXY HZ2 ⊢
  have x0 := cell_of HX2.out 0
  have x1 := cell_of HX2.out 1
  have y0 := cell_of HY2.out 0
  have y1 := cell_of HY2.out 1
  have p0 := cell_of HBC.out 0
  have p1 := cell_of HBK.out 0
  simp at x0 x1 y0 y1 p0 p1
  have g1 := blkB_lt HX2.out
  have g2 := blkB_lt HY2.out
  have g3 := blkB_lt HBC.out
  have g4 := blkB_lt HBK.out
  have D0 : Below W2.heap.size W2 W2.drew := (Below.refl _ _).drew
  have HCC : Hid (∀ W bs, Below W2.heap.size W2 W → W.heap[bs]? = some (.cells #[.slice x.a x.l x.c, .slice (some A) 0 0] 30 (0, 0)) → Calls Tryz.prog 21 #[.slice (some ⟨bs, 0, none⟩) 2 2] W fun e w' => (∃ v1 cs, e = .returned v1 ∧ w'.ownsRow W.heap.size 45 4 v1 (x.l) cs ∧ Sh (fun i => i ≠ bo ∧ v.ownBlock ≠ some i) w' (x.L ++ yL.drop k) cs) ∧ Below W.heap.size W w') := fun W bs k1 hb => by
    have hP := concat_any (fun i => i ≠ bo ∧ v.ownBlock ≠ some i) [x, ⟨yn, (some A), 0, 0, yL.drop k⟩] bs 2 W rfl (by decide) (blkB_lt hb) (fun i z hz => by
      match i, hz with
      | 0, hz => simp at hz; subst hz; exact (cell_of hb 0).trans rfl
      | 1, hz => simp at hz; subst hz; exact (cell_of hb 1).trans rfl
      | i + 2, hz => simp at hz) (fun z hz => by
      simp at hz
      rcases hz with rfl | rfl
      · exact LieA.kept k1.size (fun i hi hl => ⟨hi, k1.block i hl⟩) _ _ _ HLXY.out.1
      · exact LieA.kept k1.size (fun i hi hl => ⟨hi, k1.block i hl⟩) _ _ _ HLXY.out.2) (by have := HLEN.out; simp [lenS]; omega)
    refine hP.mono ?_
    rintro e w' ⟨⟨v1, cs, rfl, h1, h2⟩, h3⟩
    refine ⟨⟨v1, cs, rfl, ?_, ?_⟩, h3⟩
    · have e1 : lenS [x, ⟨yn, (some A), 0, 0, yL.drop k⟩] = x.l := by simp [lenS]
      rw [e1] at h1
      exact h1
    · have e1 : [x, ⟨yn, (some A), 0, 0, yL.drop k⟩].flatMap (·.L) = x.L ++ yL.drop k := by simp
      rw [e1] at h2
      exact h2
  have KA : Below W2.heap.size W2 (W2.alloc (.cells #[.slice x.a x.l x.c, .slice (some A) 0 0] 30)).drew := ((Below.refl _ _).alloc (Nat.le_refl _) _).drew
  have HA : Hid ((W2.alloc (.cells #[.slice x.a x.l x.c, .slice (some A) 0 0] 30)).drew.heap[W2.heap.size]? = some (.cells #[.slice x.a x.l x.c, .slice (some A) 0 0] 30 (0, 0))) := alloc_new W2 _
  have HCD := toHid (HCC.out _ _ KA HA.out)
  have n1 : w.heap.size ≠ bo ∧ v.ownBlock ≠ some w.heap.size := ⟨by omega, fun e => by have := HOW.out _ e; omega⟩
  have n2 : w.heap.size + 1 ≠ bo ∧ v.ownBlock ≠ some (w.heap.size + 1) := ⟨by omega, fun e => by have := HOW.out _ e; omega⟩
  have HN12 := toHid (And.intro n1 n2)
  clear n1 n2
  go_region_held3 (fun W' => (W'.cell? ⟨bc, 0, none⟩ = some (.func (.func 53) #[] #[.pointer (some ⟨bo, 0, none⟩)]) ∧ W'.cell? ⟨bk, 0, none⟩ = some (.int .i64 k) ∧ W'.cell? ⟨w.heap.size, 0, none⟩ = some (.slice x.a x.l x.c) ∧ W'.cell? ⟨w.heap.size, 1, none⟩ = some (.int .i64 x.n) ∧ W'.cell? ⟨w.heap.size + 1, 0, none⟩ = some (.slice (some A) yl k) ∧ W'.cell? ⟨w.heap.size + 1, 1, none⟩ = some (.int .i64 yn)))
    (first
      | exact ⟨p0, p1, x0, x1, y0, y1⟩
      | exact ⟨(World.cell?_of_block (kd bc g3 HNO.out.1.1 HNO.out.1.2)).trans p0, (World.cell?_of_block (kd bk g4 HNO.out.2.1 HNO.out.2.2)).trans p1, (World.cell?_of_block (kd _ g1 HN12.out.1.1 HN12.out.1.2)).trans x0, (World.cell?_of_block (kd _ g1 HN12.out.1.1 HN12.out.1.2)).trans x1, (World.cell?_of_block (kd _ g2 HN12.out.2.1 HN12.out.2.2)).trans y0, (World.cell?_of_block (kd _ g2 HN12.out.2.1 HN12.out.2.2)).trans y1⟩
      | exact ⟨(kc.cell (p := ⟨bc, 0, none⟩) g3).trans p0, (kc.cell (p := ⟨bk, 0, none⟩) g4).trans p1, (kc.cell (p := ⟨w.heap.size, 0, none⟩) g1).trans x0, (kc.cell (p := ⟨w.heap.size, 1, none⟩) g1).trans x1, (kc.cell (p := ⟨w.heap.size + 1, 0, none⟩) g2).trans y0, (kc.cell (p := ⟨w.heap.size + 1, 1, none⟩) g2).trans y1⟩
      | go_keep)
    (first
      | (go_at_call 21; go_fit HCD.out; rintro e uc ⟨⟨v1, cs, rfl, hr1, hs1⟩, kk⟩; have kc : Below W2.heap.size W2 uc := KA.trans (kk.mono KA.size); obtain ⟨a1, c1, hv1, hq1⟩ := conc_row (fun i => i ≠ bo ∧ v.ownBlock ≠ some i) (l := x.l) hr1 hs1 (by have h1 := HXL.out; simp only [List.length_append, List.length_drop]; omega) (fun g hg => by have h1 := KA.size; have h2 := HZ2.out; exact ⟨by omega, fun e => by have := HOW.out _ e; omega⟩); subst hv1; have hi1 := HI2.out.below kc; have HQ1 := toHid (tally1_any T0 bo M ⟨x.n * yn, a1, x.l, c1, x.L ++ yL.drop k⟩ uc v (Nat.le_trans HT0.out (Nat.le_trans HB2.out.size kc.size)) hi1 HML.out hq1); clear hr1 hs1 kk hi1 hq1)
      | (go_at_call 53; go_fit HQ1.out; rintro e u2 ⟨rfl, v2, hi2, hs2⟩; have kd : ∀ j, j < W2.heap.size → j ≠ bo → v.ownBlock ≠ some j → u2.heap[j]? = W2.heap[j]? := fun j hj h1 h2 => (hs2.block j (Nat.lt_of_lt_of_le hj kc.size) h1 h2).trans (kc.block j hj)))
  all_goals
    go_end0
    exact ⟨rfl, _, v2, ⟨rfl, rfl⟩, hi2, (TStep.below HB2.out).trans ((TStep.below kc).trans hs2)⟩

set_option linter.unusedSimpArgs false

theorem join21_any (T0 bo bc bk : Nat) (k : Nat) (M : List Ct) (x y : Ct) (v : Value) (w : World) (hT : T0 ≤ w.heap.size) (h : TInv T0 bo M w v) (hl : M.length ≤ 900000) (hc : w.heap[bc]? = some (.cells #[.func (.func 53) #[] #[.pointer (some ⟨bo, 0, none⟩)]] 55 (0, 0))) (hk : w.heap[bk]? = some (.cells #[.int .i64 k] 3 (0, 0))) (hbc : bc ≠ bo ∧ v.ownBlock ≠ some bc) (hbk : bk ≠ bo ∧ v.ownBlock ≠ some bk)
    (hx : LieA (fun i => i ≠ bo ∧ v.ownBlock ≠ some i) w x.L x.a x.l) (hy : LieA (fun i => i ≠ bo ∧ v.ownBlock ≠ some i) w y.L y.a y.l) (hky : k ≤ y.l) (hyc : y.l ≤ y.c) (hlen : x.l + y.l ≤ 1000) (hp : -4611686018427387904 ≤ x.n * y.n ∧ x.n * y.n ≤ 4611686018427387904) :
    Calls Tryz.prog 44 #[.agg #[.slice x.a x.l x.c, .int .i64 x.n], .agg #[.slice y.a y.l y.c, .int .i64 y.n], .pointer (some ⟨bc, 0, none⟩), .pointer (some ⟨bk, 0, none⟩)] w fun e w' => e = .returned (.tuple #[]) ∧ ∃ q v', joinC k x y q ∧ TInv T0 bo (M ++ [q]) w' v' ∧ TStep bo v v' w w' := by
  have hxl : x.l = x.L.length := (LieA.lies _ _ _ hx).length.1
  have hyl : y.l = y.L.length := (LieA.lies _ _ _ hy).length.1
  obtain ⟨yn, ya, yl, yc, yL⟩ := y
  simp only at hy hky hyc hlen hp hyl ⊢
  cases ya with
  | none =>
    have h0 : yl ≤ k := by
      cases yL with
      | nil => simp at hyl; omega
      | cons t ts =>
        unfold LieA at hy
        obtain ⟨b, off, e, _⟩ := hy
        cases e
    exact join21_n T0 bo bc bk k M x yn yl yc yL v w hT h hl hc hk hbc hbk hx (lie_end hy h0) hky hyc hlen hp hxl hyl
  | some A =>
    by_cases hck : yc = k
    · subst hck
      have h0 : yl - yc = 0 := by omega
      have h1 := lie_end (a' := some A) hy hyc
      rw [h0] at h1
      exact join21_e T0 bo bc bk yc M x yn yl yL A v w hT h hl hc hk hbc hbk hx h1 hky hyc hlen hp hxl hyl
    · refine join21_s T0 bo bc bk k M x yn yl yc yL A v w hT h hl hc hk hbc hbk hx ?_ hky hyc hlen hp hxl hyl hck
      by_cases hkl : k < yl
      · have hA : ∃ b off, A = ⟨b, off, none⟩ := by
          cases yL with
          | nil => simp at hyl; omega
          | cons t ts =>
            have h2 := hy
            unfold LieA at h2
            obtain ⟨b, off, e, _⟩ := h2
            injection e with e
            exact ⟨b, off, e⟩
        obtain ⟨b, off, rfl⟩ := hA
        rw [add_none]
        exact lie_drop hy hkl
      · exact lie_end hy (by omega)

set_option linter.unusedSimpArgs false

set_option maxHeartbeats 8000000 in
set_option maxRecDepth 100000 in
theorem meetB_any (cp0 cp1 : Value) (J : List (Ct × Ct) → World → Prop) (Fr : Nat → List (Ct × Ct) → World → Prop) (X Y : List Ct) (k : Nat) (a a' : Option Addr) (l c l' c' : Nat) (w0 w : World) (hX : CtsAt w0 X a l) (hY : CtsAt w0 Y a' l') (hx : ∀ x ∈ X, RowOk w0 k x) (hy : ∀ x ∈ Y, RowOk w0 k x)
    (hJ0 : J [] w) (hJb : ∀ d W W', J d W → Below W.heap.size W W' → J d W') (hJw : ∀ d W, J d W → Below w0.heap.size w0 W)
    (hFn : ∀ d W o, J d W → Fr W.heap.size d (W.alloc o)) (hFb : ∀ d W W' j, J d W → Fr j d W → Below W.heap.size W W' → Fr j d W')
    (hst : ∀ d x y W, J d W → x ∈ X → y ∈ Y → (x, y) ∈ meetL k X Y → d.length ≤ X.length * Y.length → Calls Tryz.prog 44 #[.agg #[.slice x.a x.l x.c, .int .i64 x.n], .agg #[.slice y.a y.l y.c, .int .i64 y.n], cp0, cp1] W fun e w' => e = .returned (.tuple #[]) ∧ J (d ++ [(x, y)]) w' ∧ ∀ j, j < W.heap.size → Fr j d W → w'.heap[j]? = W.heap[j]? ∧ Fr j (d ++ [(x, y)]) w') :
    Calls Tryz.prog 40 #[.slice a l c, .slice a' l' c', .int .i64 k, .func (.func 44) #[] #[cp0, cp1]] w fun e w' => e = .returned (.tuple #[]) ∧ J (meetL k X Y) w' := by
  have HX := toHid hX
  have HY := toHid hY
  have HRX := toHid hx
  have HRY := toHid hy
  have HJ0 := toHid hJ0
  have HJB := toHid hJb
  have HJW := toHid hJw
  have HST := toHid hst
  have HFN := toHid hFn
  have HFB := toHid hFb
  have hmx : l ≤ 1000000 := hX.2.1
  have hmy : l' ≤ 1000000 := hY.2.1
  clear hX hY hx hy hJ0 hJb hJw hst hFn hFb
  go_enter Tryz.func40, Tryz.ntmps40
  go_wp2_with fail
  go_loopg [15] l (fun g s15 wr => ∃ i : Nat, i ≤ l ∧ l - i ≤ g ∧ s15 = .int .i64 i ∧ J (meetL k (X.take i) Y) wr)
  case atStart => exact ⟨0, Nat.zero_le _, by omega, rfl, HJ0.out⟩
  case round =>
    clear HJ0
    obtain ⟨i, hi, hg, rfl, hj⟩ := hrel
    have HJ := toHid hj
    have HBW := toHid (HJW.out _ _ hj)
    clear hj
    by_cases hlt : i < l
    · have hil : (i : Int) < l := by omega
      obtain ⟨b, off, rfl, hb, hc⟩ := HX.out.2.2 (by omega)
      obtain ⟨x, hx, _⟩ := drop_get (L := X) (i := i) (by have := HX.out.1; omega)
      obtain ⟨c0, c1⟩ := hc i x hx
      have d0 := (HBW.out.cell (p := ⟨b, off + i * 2, none⟩) hb).trans c0
      have d1 := (HBW.out.cell (p := ⟨b, off + i * 2 + 1, none⟩) hb).trans c1
      have hxm := List.mem_of_getElem? hx
      have HXM := toHid hxm
      have hro := HRX.out x hxm
      have HRO := toHid hro
      have HTK := toHid (meetL_take (k := k) (Y := Y) hx)
      have hcut : k ≤ x.l := hro.cut
      have hcap : x.l ≤ x.c := hro.cap
      have hkc : k ≤ x.c := Nat.le_trans hcut hcap
      have hkc' : (k : Int) ≤ x.c := by omega
      have hk0 : (0 : Int) ≤ k := by omega
      have hba : Below wr.heap.size wr (wr.alloc (cObj x)) := (Below.refl _ _).alloc (Nat.le_refl _) _
      have HJA := toHid (HJB.out _ _ _ HJ.out hba)
      have HFA := toHid (HFN.out _ _ (cObj x) HJ.out)
      have HXA := toHid (alloc_new wr (cObj x))
      have HBA := toHid (HBW.out.trans (hba.mono HBW.out.size))
      have HKL : Hid (k ≤ x.l) := hcut
      generalize hD : meetL k (X.take i) Y = D at HJ HTK HJA HFA
      have HDL : Hid (D.length ≤ i * Y.length) := by
        have h1 := meetL_len k Y (X.take i)
        rw [hD, List.length_take] at h1
        exact Nat.le_trans h1 (Nat.mul_le_mul_right _ (Nat.min_le_left _ _))
      obtain ⟨nl, hnl⟩ : ∃ nl, nl = (x.L.take k).any nullT := ⟨_, rfl⟩
      have HNL := toHid hnl
      have HCN : Hid (Calls Tryz.prog 69 #[.slice x.a k x.c, .func (.func 70) #[] #[]] (wr.alloc (cObj x)) fun e w' => e = .returned (.bool nl) ∧ Below (wr.alloc (cObj x)).heap.size (wr.alloc (cObj x)) w') := by
        rw [hnl]
        exact holdsN_any (x.L.take k) x.a k x.c _ (LiesS.take (LiesS.below HBA.out _ _ _ hro.lies) hcut)
      clear hc hx hxm c0 c1 hro hba hD hnl HJ
      go_wp2_with fail
      refine HCN.out.mono ?_
      generalize wr.alloc (cObj x) = Wp at HJA HFA HXA HBA HCN ⊢
      generalize wr.heap.size = bx at HFA HXA ⊢
      rintro e w1 ⟨rfl, k1⟩
      have HJ1 := toHid (HJB.out _ _ _ HJA.out k1)
      have HF1 := toHid (HFB.out _ _ _ _ HJA.out HFA.out k1)
      have HX1 := toHid ((k1.block _ (blkB_lt HXA.out)).trans HXA.out)
      clear k1 d0 d1 HJA HFA HXA HBA HCN HBW
      cases nl with
      | true =>
        go_wp2_with fail
        go_roundg (l - (i + 1))
        case measure => omega
        case rel =>
          refine ⟨i + 1, by omega, Nat.le_refl _, by go_num, ?_⟩
          have e1 : meetY k x Y = [] := by unfold meetY; rw [← HNL.out]; rfl
          rw [HTK.out, e1, List.append_nil]
          exact HJ1.out
      | false =>
        go_wp2_with fail
        go_loopg [27] l' (fun g s27 wq => ∃ j : Nat, j ≤ l' ∧ l' - j ≤ g ∧ s27 = .int .i64 j ∧ J (D ++ meetY k x (Y.take j)) wq ∧ wq.heap[bx]? = some (cObj x) ∧ Fr bx (D ++ meetY k x (Y.take j)) wq)
        case atStart =>
          have e1 : meetY k x (Y.take 0) = [] := by unfold meetY; split <;> rfl
          exact ⟨0, Nat.zero_le _, by omega, rfl, by rw [e1, List.append_nil]; exact HJ1.out, HX1.out, by rw [e1, List.append_nil]; exact HF1.out⟩
        case round =>
          clear HJ1 HF1 HX1
          obtain ⟨j, hj, hgj, rfl, hjq, hxq, hfq⟩ := hrel
          have HJQ := toHid hjq
          have HXQ := toHid hxq
          have HFQ := toHid hfq
          have HBQ := toHid (HJW.out _ _ hjq)
          clear hjq hxq hfq
          by_cases hjl : j < l'
          · have hjl' : (j : Int) < l' := by omega
            obtain ⟨b', off', rfl, hb', hc'⟩ := HY.out.2.2 (by omega)
            obtain ⟨y, hy, _⟩ := drop_get (L := Y) (i := j) (by have := HY.out.1; omega)
            obtain ⟨e0, e1⟩ := hc' j y hy
            have f0 := (HBQ.out.cell (p := ⟨b', off' + j * 2, none⟩) hb').trans e0
            have f1 := (HBQ.out.cell (p := ⟨b', off' + j * 2 + 1, none⟩) hb').trans e1
            have hym := List.mem_of_getElem? hy
            have HYM := toHid hym
            have hry := HRY.out y hym
            have hcuty : k ≤ y.l := hry.cut
            have hcapy : y.l ≤ y.c := hry.cap
            have hkcy : k ≤ y.c := Nat.le_trans hcuty hcapy
            have hkcy' : (k : Int) ≤ y.c := by omega
            have hba : Below wr.heap.size wr (wr.alloc (cObj y)) := (Below.refl _ _).alloc (Nat.le_refl _) _
            have HBA := toHid (HBQ.out.trans (hba.mono HBQ.out.size))
            have HJA := toHid (HJB.out _ _ _ HJQ.out hba)
            have HFA := toHid (HFB.out _ _ _ _ HJQ.out HFQ.out hba)
            have HXA := toHid ((hba.block _ (blkB_lt HXQ.out)).trans HXQ.out)
            have HYA := toHid (alloc_new wr (cObj y))
            have HTY := toHid (meetY_take (k := k) HNL.out.symm hy)
            have HDJ : Hid ((D ++ meetY k x (Y.take j)).length ≤ X.length * Y.length) := by
              have h1 := meetY_len k x (Y.take j)
              have h2 := HDL.out
              have h3 : (i + 1) * Y.length ≤ X.length * Y.length := Nat.mul_le_mul_right _ (by have := HX.out.1; omega)
              rw [Nat.add_mul, Nat.one_mul] at h3
              rw [List.length_take] at h1
              show (_ : Nat) ≤ _
              rw [List.length_append]
              have h4 := Nat.min_le_right j Y.length
              omega
            obtain ⟨z, hz⟩ : ∃ z, z = ordL (x.L.take k) (y.L.take k) := ⟨_, rfl⟩
            have HC : Hid (Calls Tryz.prog 56 #[.slice x.a k x.c, .slice y.a k y.c] (wr.alloc (cObj y)) fun e w' => e = .returned (.int .i64 z) ∧ BelD (wr.alloc (cObj y)).heap.size (wr.alloc (cObj y)) w') := by
              rw [hz]
              exact compareD_any _ _ x.a k x.c y.a k y.c _ (LiesS.take (LiesS.below HBA.out _ _ _ HRO.out.lies) HKL.out) (LiesS.take (LiesS.below HBA.out _ _ _ hry.lies) hcuty) (Nat.le_trans (wtL_take _ _) HRO.out.wt)
            rw [← hz] at HTY
            have HZQ := toHid hz
            generalize meetY k x (Y.take j) = Dj at HJA HFA HDJ HTY HJQ HFQ
            clear hc' hy hym e0 e1 hry hba hz HJQ HFQ HXQ
            go_wp2_with fail
            refine HC.out.mono ?_
            generalize wr.alloc (cObj y) = Wq at HJA HFA HXA HYA HBA HC ⊢
            generalize wr.heap.size = by' at HYA ⊢
            rintro e w2 ⟨rfl, kd⟩
            have k2 := kd.toBelow
            have HJ2 := toHid (HJB.out _ _ _ HJA.out k2)
            have HF2 := toHid (HFB.out _ _ _ _ HJA.out HFA.out k2)
            have HX2 := toHid ((k2.block _ (blkB_lt HXA.out)).trans HXA.out)
            have HY2 := toHid ((k2.block _ (blkB_lt HYA.out)).trans HYA.out)
            clear kd k2 f0 f1 HJA HFA HXA HYA HBA HC HBQ
            by_cases hz0 : z = 0
            · have hzb : (z == 0) = true := by simp [hz0]
              rw [if_pos hz0] at HTY
              have x0 := cell_of HX2.out 0
              have x1 := cell_of HX2.out 1
              have y0 := cell_of HY2.out 0
              have y1 := cell_of HY2.out 1
              simp at x0 x1 y0 y1
              have HV := toHid (HST.out _ x y w2 HJ2.out HXM.out HYM.out (meet_mem HXM.out HYM.out HNL.out.symm (HZQ.out.symm.trans hz0)) HDJ.out)
              clear hz0
              go_wp2_with fail
              refine HV.out.mono ?_
              rintro e w3 ⟨rfl, hj3, hf3⟩
              have HJ3 := toHid hj3
              have HF3 := toHid (hf3 bx (blkB_lt HX2.out) HF2.out)
              clear hj3 hf3 x0 x1 y0 y1
              go_wp2_with fail
              go_roundg (l' - (j + 1))
              case measure => omega
              case rel =>
                refine ⟨j + 1, by omega, Nat.le_refl _, by go_num, ?_, HF3.out.1.trans HX2.out, ?_⟩
                · rw [HTY.out, ← List.append_assoc]
                  exact HJ3.out
                · rw [HTY.out, ← List.append_assoc]
                  exact HF3.out.2
            · have hzb : (z == 0) = false := by simp [hz0]
              rw [if_neg hz0, List.append_nil] at HTY
              clear hz0
              go_wp2_with fail
              go_roundg (l' - (j + 1))
              case measure => omega
              case rel =>
                refine ⟨j + 1, by omega, Nat.le_refl _, by go_num, ?_, HX2.out, ?_⟩
                · rw [HTY.out]
                  exact HJ2.out
                · rw [HTY.out]
                  exact HF2.out
          · have hjq : ¬ ((j : Int) < l') := by omega
            have HAL : Hid (Y.take j = Y) := List.take_of_length_le (by have := HY.out.1; omega)
            go_wp2_with fail
            go_roundg (l - (i + 1))
            case measure => omega
            case rel =>
              refine ⟨i + 1, by omega, Nat.le_refl _, by go_num, ?_⟩
              have h1 := HJQ.out
              rw [HAL.out] at h1
              rw [HTK.out]
              exact h1
    · have he : i = l := by omega
      subst he
      have HAL : Hid (X.take i = X) := List.take_of_length_le (by have := HX.out.1; omega)
      go_wp2_with fail
      go_end0
      refine ⟨rfl, ?_⟩
      have h1 := HJ.out
      rw [HAL.out] at h1
      exact h1
end Go.Proofs.YtbjkpbeijkmoeaaGreatDoor
