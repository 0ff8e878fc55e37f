/-
  What is proved here: what the texts BConcat, BJoin2, BJoin3 prove, in one text.
-/
import Derived.Test.YtcfifihlfomccaaDoorQBAN
namespace Go.Proofs.YtcfifihlfomccaaDoor
open Go.RowKit
set_option linter.unusedVariables false

set_option linter.unusedSimpArgs false

def lenS (P : List Ct) : Nat := (P.map (·.l)).sum

theorem lenS_take {P : List Ct} {i : Nat} {x : Ct} (h : P[i]? = some x) : lenS (P.take (i + 1)) = lenS (P.take i) + x.l := by
  unfold lenS
  rw [List.take_add_one, h, Option.toList_some, List.map_append, List.sum_append]
  simp

theorem lenS_le (P : List Ct) (i : Nat) : lenS (P.take i) ≤ lenS P := by
  have : lenS P = lenS (P.take i) + lenS (P.drop i) := by
    unfold lenS
    rw [← List.sum_append, ← List.map_append, List.take_append_drop]
  omega

theorem flat_take1 {P : List Ct} {i : Nat} {x : Ct} (h : P[i]? = some x) : (P.take (i + 1)).flatMap (·.L) = (P.take i).flatMap (·.L) ++ x.L := by
  rw [List.take_add_one, h, Option.toList_some, List.flatMap_append]
  simp

set_option maxHeartbeats 4000000 in
set_option maxRecDepth 100000 in
theorem concat_any (A : Nat → Prop) (P : List Ct) (bs m : Nat) (w : World) (hm : m = P.length) (hm2 : m ≤ 10) (hbs : bs < w.heap.size) (hc : ∀ i x, P[i]? = some x → w.cell? ⟨bs, i, none⟩ = some (.slice x.a x.l x.c)) (hL : ∀ x ∈ P, LieA A w x.L x.a x.l) (hs : lenS P ≤ 1000) :
    Calls Tryd.prog 39 #[.slice (some ⟨bs, 0, none⟩) m m] w fun e w' => (∃ v cs, e = .returned v ∧ w'.ownsRow w.heap.size 43 4 v (lenS P) cs ∧ Sh A w' (P.flatMap (·.L)) cs) ∧ Below w.heap.size w w' := by
  have HC := toHid hc
  have HL := toHid hL
  have HM := toHid hm
  have HS := toHid hs
  clear hc hL hm hs
  go_enter Tryd.func39, Tryd.ntmps39
  go_wp2_with fail
  go_loopg [3, 11] m (fun g s3 s11 wr => ∃ i : Nat, i ≤ m ∧ m - i ≤ g ∧ s11 = .int .i64 i ∧ s3 = .int .i64 (lenS (P.take i)) ∧ wr = w)
  case atStart => exact ⟨0, Nat.zero_le _, by omega, rfl, rfl, rfl⟩
  case round =>
    obtain ⟨i, hi, hg, rfl, rfl, hw⟩ := hrel
    have hw := hw.symm
    subst hw
    by_cases hlt : i < m
    · have hil : (i : Int) < m := by omega
      obtain ⟨x, hx, _⟩ := drop_get (L := P) (i := i) (by have := HM.out; omega)
      have d0 := HC.out i x hx
      have HT := toHid (lenS_take hx)
      have h1 := lenS_le P (i + 1)
      rw [HT.out] at h1
      have h2 := HS.out
      generalize lenS (P.take i) = S0 at HT h1
      have hwp : wrap64 ((S0 : Int) + (x.l : Int)) = ((S0 + x.l : Nat) : Int) := by unfold wrap64; omega
      have hwp2 : IntKind.i64.wrap ((S0 : Int) + (x.l : Int)) = (S0 : Int) + (x.l : Int) := by rw [IntKind.wrap_i64]; omega
      have hnn : ¬ ((S0 : Int) + (x.l : Int) < 0) := by omega
      clear hx h1 h2
      go_wp2_with fail
      go_roundg (m - (i + 1))
      case measure => omega
      case rel =>
        refine ⟨i + 1, by omega, Nat.le_refl _, by go_num, ?_, rfl⟩
        rw [HT.out]
        rfl
    · have he : i = m := by omega
      subst he
      have HAL : Hid (P.take i = P) := List.take_of_length_le (by have := HM.out; omega)
      rw [HAL.out]
      have HG := toHid (grow_any (lenS P) w HS.out)
      obtain ⟨i0, hi0, hiz, his, hib⟩ := info_val
      have hsl := HS.out
      generalize hN : lenS P = N at HG hsl
      have HN := toHid hN
      clear hN
      go_wp2_with fail
      refine HG.out.mono ?_
      rintro e w1 ⟨⟨v1, rfl, hown⟩, k1⟩
      have HO1 := toHid hown
      have HB1 := toHid k1
      clear hown k1 HG
      go_wp2_with fail
      go_loopg [6, 27] i (fun g s6 s27 wq => ∃ (t : Nat) (v : Value) (cs : List Value), t ≤ i ∧ i - t ≤ g ∧ s27 = .int .i64 t ∧ v = s6 ∧ wq.ownsRow w.heap.size 43 4 v (lenS (P.take t)) cs ∧ Sh A w ((P.take t).flatMap (·.L)) cs ∧ Below w.heap.size w wq)
      case atStart => exact ⟨0, v1, [], Nat.zero_le _, by omega, rfl, rfl, HO1.out, rfl, HB1.out⟩
      case round =>
        clear HO1 HB1
        obtain ⟨t, v, cs, ht, hgt, rfl, rfl, hown, hsh, hbw⟩ := hrel
        have HO := toHid hown
        have HSH := toHid hsh
        have HBW := toHid hbw
        clear hown hsh hbw
        by_cases htl : t < i
        · have htl' : (t : Int) < i := by omega
          obtain ⟨x, hx, _⟩ := drop_get (L := P) (i := t) (by have := HM.out; omega)
          have d0 := (HBW.out.cell (p := ⟨bs, t, none⟩) hbs).trans (HC.out t x hx)
          obtain ⟨ns, hns, hcell⟩ := sh_of (HL.out x (List.mem_of_getElem? hx))
          have hxl : x.l = x.L.length := (LieA.lies _ _ _ (HL.out x (List.mem_of_getElem? hx))).length.1
          have hnl : ns.length = x.l * 4 := by rw [hns.len, hxl]
          have HT := toHid (lenS_take hx)
          have HFL := toHid (flat_take1 hx)
          have h1 := lenS_le P (t + 1)
          rw [HT.out, HN.out] at h1
          have HNS := toHid hns
          have HCE : Hid (∀ q u, ns[q]? = some u → ∃ a, x.a = some a ∧ wr.cell? (a.add q) = some u) := fun q u hu => by
            obtain ⟨b, off, e, _, hb, hc⟩ := hcell q u hu
            exact ⟨_, e, by rw [add_none]; exact (HBW.out.cell (p := ⟨b, off + q, none⟩) hb).trans hc⟩
          generalize lenS (P.take t) = S0 at HO HT h1
          clear hx hcell hns hxl
          go_wp2_with (at_builtin; (refine wpList_append_both _ (by rfl) _ _ _ (by rfl) w.heap.size 43 i0 _ 4 56 Tryd.underlying25 hi0 hiz his hib rfl (by omega) v S0 cs (by rfl) HO.out x.a x.l x.c ns (by rfl) hnl HCE.out (HNS.out.one) (by unfold maxLen; omega) (by omega) HBW.out.size ?_; intro v' w5 hown5 hgrow hob))
          have hbl : Below w.heap.size w w5 := HBW.out.grown hgrow HBW.out.size (fun k hk => (rowLt HO.out hk).1)
          have HSH5 : Hid (Sh A w ((P.take (t + 1)).flatMap (·.L)) (cs ++ ns)) := by
            rw [HFL.out]
            exact Sh.append HNS.out HSH.out
          have HOW5 : Hid (w5.ownsRow w.heap.size 43 4 v' (lenS (P.take (t + 1))) (cs ++ ns)) := by
            rw [HT.out]
            exact hown5
          have HBL := toHid hbl
          clear hown5 hgrow hob hbl
          go_wp2_with fail
          go_roundg (i - (t + 1))
          case measure => omega
          case rel => exact ⟨t + 1, v', cs ++ ns, by omega, Nat.le_refl _, by go_num, rfl, HOW5.out, HSH5.out, HBL.out⟩
        · have he : t = i := by omega
          subst he
          have HFIN : Hid (wr.ownsRow w.heap.size 43 4 v (lenS P) cs ∧ Sh A wr (P.flatMap (·.L)) cs) := by
            have h1 := HO.out
            have h2 := HSH.out
            rw [HAL.out] at h1 h2
            exact ⟨h1, Sh.kept (Keep.of_below HBW.out A) h2⟩
          go_wp2_with fail
          go_ret
          exact ⟨⟨v, cs, rfl, HFIN.out.1, HFIN.out.2⟩, HBW.out⟩

set_option linter.unusedSimpArgs false

/-- What is counted: x's row, and y's behind its first values. -/
def joinC (k : Nat) (x y : Ct) (M : Ct) : Prop := M.L = x.L ++ y.L.drop k ∧ M.n = x.n * y.n

theorem lie_drop {A : Nat → Prop} {w : World} {L : List T} {b off l : Nat} (h : LieA A w L (some ⟨b, off, none⟩) l) {k : Nat} (hk : k < l) : LieA A w (L.drop k) (some ⟨b, off + k * 4, none⟩) (l - k) := by
  induction L generalizing off l k with
  | nil => unfold LieA at h; omega
  | cons t ts ih =>
    cases k with
    | zero => simpa using h
    | succ k =>
      unfold LieA at h
      obtain ⟨b', off', e, hl, hm, hA, hb, hT, hS⟩ := h
      simp only [Option.some.injEq, Addr.mk.injEq, and_true] at e
      obtain ⟨rfl, rfl⟩ := e
      have h1 := ih hS (k := k) (by omega)
      rw [List.drop_succ_cons, show off + (k + 1) * 4 = off + 4 + k * 4 by omega, show l - (k + 1) = ts.length - k by omega]
      exact h1

/-- What Concat leaves is a row. -/
theorem conc_row (A : Nat → Prop) {w : World} {B l : Nat} {v : Value} {cs : List Value} {L : List T} (h : w.ownsRow B 43 4 v l cs) (hs : Sh A w L cs) (hl : L.length = l) (hA : ∀ g, B ≤ g → A g) : ∃ a c, v = .slice a l c ∧ LieA A w L a l := by
  rcases h.2 with ⟨h0, h1⟩ | ⟨g, cap, cur, h0, h1, h2, h3, h4, h5, h6⟩
  · subst h1
    have : L = [] := List.length_eq_zero_iff.1 hl
    subst this
    exact ⟨none, 0, h0, by unfold LieA; rfl⟩
  · refine ⟨some ⟨g, 0, none⟩, cap, h0, ?_⟩
    have hm : maxLen ≤ 9223372036854775807 := by unfold maxLen; decide
    have h7 := Sh.lie (off := 0) (hA g h1) (blkB_lt h2) hs (by omega) fun t u hu => by
      rw [Nat.zero_add, cell_of h2, ← Array.getElem?_toList]
      have ht : t < cs.length := (List.getElem?_eq_some_iff.1 hu).1
      rw [← h6, List.getElem?_take] at hu
      split at hu
      · exact hu
      · cases hu
    rw [hl] at h7
    exact h7

theorem lie_end {A : Nat → Prop} {w : World} {L : List T} {a a' : Option Addr} {l k : Nat} (h : LieA A w L a l) (hk : l ≤ k) : LieA A w (L.drop k) a' (l - k) := by
  have h1 := (LieA.lies _ _ _ h).length.1
  rw [List.drop_eq_nil_of_le (by omega)]
  unfold LieA
  omega

set_option maxHeartbeats 8000000 in
set_option maxRecDepth 100000 in
theorem join21_s (T0 bo bc bk : Nat) (k : Nat) (M : List Ct) (x : Ct) (yn : Int) (yl yc : Nat) (yL : List T) (A : Addr) (v : Value) (w : World) (hT : T0 ≤ w.heap.size) (h : TInv T0 bo M w v) (hl : M.length ≤ 900000) (hc : w.heap[bc]? = some (.cells #[.func (.func 47) #[] #[.pointer (some ⟨bo, 0, none⟩)]] 53 (0, 0))) (hk : w.heap[bk]? = some (.cells #[.int .i64 k] 3 (0, 0))) (hbc : bc ≠ bo ∧ v.ownBlock ≠ some bc) (hbk : bk ≠ bo ∧ v.ownBlock ≠ some bk)
    (hx : LieA (fun i => i ≠ bo ∧ v.ownBlock ≠ some i) w x.L x.a x.l) (hy : LieA (fun i => i ≠ bo ∧ v.ownBlock ≠ some i) w (yL.drop k) (some (A.add (k * 4))) (yl - k)) (hky : k ≤ yl) (hyc : yl ≤ yc) (hlen : x.l + yl ≤ 1000) (hp : -4611686018427387904 ≤ x.n * yn ∧ x.n * yn ≤ 4611686018427387904) (hxl : x.l = x.L.length) (hyl : yl = yL.length) (hck : ¬ (yc = k)) :
    Calls Tryd.prog 38 #[.agg #[.slice x.a x.l x.c, .int .i64 x.n], .agg #[.slice (some A) yl yc, .int .i64 yn], .pointer (some ⟨bc, 0, none⟩), .pointer (some ⟨bk, 0, none⟩)] w fun e w' => e = .returned (.tuple #[]) ∧ ∃ q v', joinC k x ⟨yn, (some A), yl, yc, yL⟩ q ∧ TInv T0 bo (M ++ [q]) w' v' ∧ TStep bo v v' w w' := by
  have HX2 := toHid ((Below.heap_alloc (w.alloc (cObj x)) (cObj ⟨yn, (some A), yl, yc, yL⟩) w.heap.size (by simp)).trans (alloc_new w (cObj x)))
  have HY2 := toHid (alloc_two w (cObj x) (cObj ⟨yn, (some A), yl, yc, yL⟩))
  have b2 : Below w.heap.size w ((w.alloc (cObj x)).alloc (cObj ⟨yn, (some A), yl, yc, yL⟩)) := ((Below.refl _ _).alloc (Nat.le_refl _) _).alloc (by simp) _
  have HB2 := toHid b2
  have HZ2 : Hid (((w.alloc (cObj x)).alloc (cObj ⟨yn, (some A), yl, yc, yL⟩)).heap.size = w.heap.size + 2) := by show _ = _; simp
  have HI2 := toHid (h.below b2)
  have HBC := toHid ((b2.block bc (blkB_lt hc)).trans hc)
  have HBK := toHid ((b2.block bk (blkB_lt hk)).trans hk)
  have HLXY : Hid (LieA (fun i => i ≠ bo ∧ v.ownBlock ≠ some i) ((w.alloc (cObj x)).alloc (cObj ⟨yn, (some A), yl, yc, yL⟩)) x.L x.a x.l ∧ LieA (fun i => i ≠ bo ∧ v.ownBlock ≠ some i) ((w.alloc (cObj x)).alloc (cObj ⟨yn, (some A), yl, yc, yL⟩)) (yL.drop k) (some (A.add (k * 4))) (yl - k)) := ⟨LieA.kept b2.size (fun i hi hl => ⟨hi, b2.block i hl⟩) _ _ _ hx, LieA.kept b2.size (fun i hi hl => ⟨hi, b2.block i hl⟩) _ _ _ hy⟩
  have HNO := toHid (show (bc ≠ bo ∧ v.ownBlock ≠ some bc) ∧ (bk ≠ bo ∧ v.ownBlock ≠ some bk) from ⟨hbc, hbk⟩)
  have HML := toHid hl
  have HT0 := toHid hT
  have HXL := toHid (show x.l = x.L.length ∧ yl = yL.length from ⟨hxl, hyl⟩)
  have hkc : k ≤ yc := Nat.le_trans hky hyc
  have hky' : (k : Int) ≤ yl := by omega
  have hk0 : (0 : Int) ≤ k := by omega
  have hwm : IntKind.i64.wrap (x.n * yn) = x.n * yn := by rw [IntKind.wrap_i64]; omega
  have hwm2 : wrap64 (x.n * yn) = x.n * yn := by unfold wrap64; omega
  have HH := toHid h
  have HOW : Hid (∀ g, v.ownBlock = some g → g < w.heap.size) := fun g hg => (rowLt h.row hg).2
  have hbo : bo < w.heap.size := blkB_lt h.box
  have HLEN := toHid hlen
  clear h hc hk b2 hx hy hl hT hbc hbk hxl hyl hp hlen
  go_enter Tryd.func38, Tryd.ntmps38
  go_upto_region 1 with fail
  generalize (w.alloc (cObj x)).alloc (cObj ⟨yn, (some A), yl, yc, yL⟩) = W2 at HX2 HY2 HB2 HI2 HBC HBK HLXY HZ2 ⊢
  have x0 := cell_of HX2.out 0
  have x1 := cell_of HX2.out 1
  have y0 := cell_of HY2.out 0
  have y1 := cell_of HY2.out 1
  have p0 := cell_of HBC.out 0
  have p1 := cell_of HBK.out 0
  simp at x0 x1 y0 y1 p0 p1
  have g1 := blkB_lt HX2.out
  have g2 := blkB_lt HY2.out
  have g3 := blkB_lt HBC.out
  have g4 := blkB_lt HBK.out
  have D0 : Below W2.heap.size W2 W2.drew := (Below.refl _ _).drew
  have HCC : Hid (∀ W bs, Below W2.heap.size W2 W → W.heap[bs]? = some (.cells #[.slice x.a x.l x.c, .slice (some (A.add (k * 4))) (yl - k) (yc - k)] 25 (0, 0)) → Calls Tryd.prog 39 #[.slice (some ⟨bs, 0, none⟩) 2 2] W fun e w' => (∃ v1 cs, e = .returned v1 ∧ w'.ownsRow W.heap.size 43 4 v1 (x.l + (yl - k)) cs ∧ Sh (fun i => i ≠ bo ∧ v.ownBlock ≠ some i) w' (x.L ++ yL.drop k) cs) ∧ Below W.heap.size W w') := fun W bs k1 hb => by
    have hP := concat_any (fun i => i ≠ bo ∧ v.ownBlock ≠ some i) [x, ⟨yn, (some (A.add (k * 4))), yl - k, yc - k, yL.drop k⟩] bs 2 W rfl (by decide) (blkB_lt hb) (fun i z hz => by
      match i, hz with
      | 0, hz => simp at hz; subst hz; exact (cell_of hb 0).trans rfl
      | 1, hz => simp at hz; subst hz; exact (cell_of hb 1).trans rfl
      | i + 2, hz => simp at hz) (fun z hz => by
      simp at hz
      rcases hz with rfl | rfl
      · exact LieA.kept k1.size (fun i hi hl => ⟨hi, k1.block i hl⟩) _ _ _ HLXY.out.1
      · exact LieA.kept k1.size (fun i hi hl => ⟨hi, k1.block i hl⟩) _ _ _ HLXY.out.2) (by have := HLEN.out; simp [lenS]; omega)
    refine hP.mono ?_
    rintro e w' ⟨⟨v1, cs, rfl, h1, h2⟩, h3⟩
    refine ⟨⟨v1, cs, rfl, ?_, ?_⟩, h3⟩
    · have e1 : lenS [x, ⟨yn, (some (A.add (k * 4))), yl - k, yc - k, yL.drop k⟩] = x.l + (yl - k) := by simp [lenS]
      rw [e1] at h1
      exact h1
    · have e1 : [x, ⟨yn, (some (A.add (k * 4))), yl - k, yc - k, yL.drop k⟩].flatMap (·.L) = x.L ++ yL.drop k := by simp
      rw [e1] at h2
      exact h2
  have KA : Below W2.heap.size W2 (W2.alloc (.cells #[.slice x.a x.l x.c, .slice (some (A.add (k * 4))) (yl - k) (yc - k)] 25)).drew := ((Below.refl _ _).alloc (Nat.le_refl _) _).drew
  have HA : Hid ((W2.alloc (.cells #[.slice x.a x.l x.c, .slice (some (A.add (k * 4))) (yl - k) (yc - k)] 25)).drew.heap[W2.heap.size]? = some (.cells #[.slice x.a x.l x.c, .slice (some (A.add (k * 4))) (yl - k) (yc - k)] 25 (0, 0))) := alloc_new W2 _
  have HCD := toHid (HCC.out _ _ KA HA.out)
  have n1 : w.heap.size ≠ bo ∧ v.ownBlock ≠ some w.heap.size := ⟨by omega, fun e => by have := HOW.out _ e; omega⟩
  have n2 : w.heap.size + 1 ≠ bo ∧ v.ownBlock ≠ some (w.heap.size + 1) := ⟨by omega, fun e => by have := HOW.out _ e; omega⟩
  have HN12 := toHid (And.intro n1 n2)
  clear n1 n2
  go_region_held3 (fun W' => (W'.cell? ⟨bc, 0, none⟩ = some (.func (.func 47) #[] #[.pointer (some ⟨bo, 0, none⟩)]) ∧ W'.cell? ⟨bk, 0, none⟩ = some (.int .i64 k) ∧ W'.cell? ⟨w.heap.size, 0, none⟩ = some (.slice x.a x.l x.c) ∧ W'.cell? ⟨w.heap.size, 1, none⟩ = some (.int .i64 x.n) ∧ W'.cell? ⟨w.heap.size + 1, 0, none⟩ = some (.slice (some A) yl yc) ∧ W'.cell? ⟨w.heap.size + 1, 1, none⟩ = some (.int .i64 yn)))
    (first
      | exact ⟨p0, p1, x0, x1, y0, y1⟩
      | exact ⟨(World.cell?_of_block (kd bc g3 HNO.out.1.1 HNO.out.1.2)).trans p0, (World.cell?_of_block (kd bk g4 HNO.out.2.1 HNO.out.2.2)).trans p1, (World.cell?_of_block (kd _ g1 HN12.out.1.1 HN12.out.1.2)).trans x0, (World.cell?_of_block (kd _ g1 HN12.out.1.1 HN12.out.1.2)).trans x1, (World.cell?_of_block (kd _ g2 HN12.out.2.1 HN12.out.2.2)).trans y0, (World.cell?_of_block (kd _ g2 HN12.out.2.1 HN12.out.2.2)).trans y1⟩
      | exact ⟨(kc.cell (p := ⟨bc, 0, none⟩) g3).trans p0, (kc.cell (p := ⟨bk, 0, none⟩) g4).trans p1, (kc.cell (p := ⟨w.heap.size, 0, none⟩) g1).trans x0, (kc.cell (p := ⟨w.heap.size, 1, none⟩) g1).trans x1, (kc.cell (p := ⟨w.heap.size + 1, 0, none⟩) g2).trans y0, (kc.cell (p := ⟨w.heap.size + 1, 1, none⟩) g2).trans y1⟩
      | go_keep)
    (first
      | (go_at_call 39; go_fit HCD.out; rintro e uc ⟨⟨v1, cs, rfl, hr1, hs1⟩, kk⟩; have kc : Below W2.heap.size W2 uc := KA.trans (kk.mono KA.size); obtain ⟨a1, c1, hv1, hq1⟩ := conc_row (fun i => i ≠ bo ∧ v.ownBlock ≠ some i) (l := x.l + (yl - k)) hr1 hs1 (by have h1 := HXL.out; simp only [List.length_append, List.length_drop]; omega) (fun g hg => by have h1 := KA.size; have h2 := HZ2.out; exact ⟨by omega, fun e => by have := HOW.out _ e; omega⟩); subst hv1; have hi1 := HI2.out.below kc; have HQ1 := toHid (tally1_any T0 bo M ⟨x.n * yn, a1, x.l + (yl - k), c1, x.L ++ yL.drop k⟩ uc v (Nat.le_trans HT0.out (Nat.le_trans HB2.out.size kc.size)) hi1 HML.out hq1); clear hr1 hs1 kk hi1 hq1)
      | (go_at_call 47; go_fit HQ1.out; rintro e u2 ⟨rfl, v2, hi2, hs2⟩; have kd : ∀ j, j < W2.heap.size → j ≠ bo → v.ownBlock ≠ some j → u2.heap[j]? = W2.heap[j]? := fun j hj h1 h2 => (hs2.block j (Nat.lt_of_lt_of_le hj kc.size) h1 h2).trans (kc.block j hj)))
  all_goals
    go_end0
    exact ⟨rfl, _, v2, ⟨rfl, rfl⟩, hi2, (TStep.below HB2.out).trans ((TStep.below kc).trans hs2)⟩

set_option maxHeartbeats 8000000 in
set_option maxRecDepth 100000 in
theorem join21_n (T0 bo bc bk : Nat) (k : Nat) (M : List Ct) (x : Ct) (yn : Int) (yl yc : Nat) (yL : List T)  (v : Value) (w : World) (hT : T0 ≤ w.heap.size) (h : TInv T0 bo M w v) (hl : M.length ≤ 900000) (hc : w.heap[bc]? = some (.cells #[.func (.func 47) #[] #[.pointer (some ⟨bo, 0, none⟩)]] 53 (0, 0))) (hk : w.heap[bk]? = some (.cells #[.int .i64 k] 3 (0, 0))) (hbc : bc ≠ bo ∧ v.ownBlock ≠ some bc) (hbk : bk ≠ bo ∧ v.ownBlock ≠ some bk)
    (hx : LieA (fun i => i ≠ bo ∧ v.ownBlock ≠ some i) w x.L x.a x.l) (hy : LieA (fun i => i ≠ bo ∧ v.ownBlock ≠ some i) w (yL.drop k) none (yl - k)) (hky : k ≤ yl) (hyc : yl ≤ yc) (hlen : x.l + yl ≤ 1000) (hp : -4611686018427387904 ≤ x.n * yn ∧ x.n * yn ≤ 4611686018427387904) (hxl : x.l = x.L.length) (hyl : yl = yL.length)  :
    Calls Tryd.prog 38 #[.agg #[.slice x.a x.l x.c, .int .i64 x.n], .agg #[.slice none yl yc, .int .i64 yn], .pointer (some ⟨bc, 0, none⟩), .pointer (some ⟨bk, 0, none⟩)] w fun e w' => e = .returned (.tuple #[]) ∧ ∃ q v', joinC k x ⟨yn, none, yl, yc, yL⟩ q ∧ TInv T0 bo (M ++ [q]) w' v' ∧ TStep bo v v' w w' := by
  have HX2 := toHid ((Below.heap_alloc (w.alloc (cObj x)) (cObj ⟨yn, none, yl, yc, yL⟩) w.heap.size (by simp)).trans (alloc_new w (cObj x)))
  have HY2 := toHid (alloc_two w (cObj x) (cObj ⟨yn, none, yl, yc, yL⟩))
  have b2 : Below w.heap.size w ((w.alloc (cObj x)).alloc (cObj ⟨yn, none, yl, yc, yL⟩)) := ((Below.refl _ _).alloc (Nat.le_refl _) _).alloc (by simp) _
  have HB2 := toHid b2
  have HZ2 : Hid (((w.alloc (cObj x)).alloc (cObj ⟨yn, none, yl, yc, yL⟩)).heap.size = w.heap.size + 2) := by show _ = _; simp
  have HI2 := toHid (h.below b2)
  have HBC := toHid ((b2.block bc (blkB_lt hc)).trans hc)
  have HBK := toHid ((b2.block bk (blkB_lt hk)).trans hk)
  have HLXY : Hid (LieA (fun i => i ≠ bo ∧ v.ownBlock ≠ some i) ((w.alloc (cObj x)).alloc (cObj ⟨yn, none, yl, yc, yL⟩)) x.L x.a x.l ∧ LieA (fun i => i ≠ bo ∧ v.ownBlock ≠ some i) ((w.alloc (cObj x)).alloc (cObj ⟨yn, none, yl, yc, yL⟩)) (yL.drop k) none (yl - k)) := ⟨LieA.kept b2.size (fun i hi hl => ⟨hi, b2.block i hl⟩) _ _ _ hx, LieA.kept b2.size (fun i hi hl => ⟨hi, b2.block i hl⟩) _ _ _ hy⟩
  have HNO := toHid (show (bc ≠ bo ∧ v.ownBlock ≠ some bc) ∧ (bk ≠ bo ∧ v.ownBlock ≠ some bk) from ⟨hbc, hbk⟩)
  have HML := toHid hl
  have HT0 := toHid hT
  have HXL := toHid (show x.l = x.L.length ∧ yl = yL.length from ⟨hxl, hyl⟩)
  have hkc : k ≤ yc := Nat.le_trans hky hyc
  have hky' : (k : Int) ≤ yl := by omega
  have hk0 : (0 : Int) ≤ k := by omega
  have hwm : IntKind.i64.wrap (x.n * yn) = x.n * yn := by rw [IntKind.wrap_i64]; omega
  have hwm2 : wrap64 (x.n * yn) = x.n * yn := by unfold wrap64; omega
  have HH := toHid h
  have HOW : Hid (∀ g, v.ownBlock = some g → g < w.heap.size) := fun g hg => (rowLt h.row hg).2
  have hbo : bo < w.heap.size := blkB_lt h.box
  have HLEN := toHid hlen
  clear h hc hk b2 hx hy hl hT hbc hbk hxl hyl hp hlen
  go_enter Tryd.func38, Tryd.ntmps38
  go_upto_region 1 with fail
  generalize (w.alloc (cObj x)).alloc (cObj ⟨yn, none, yl, yc, yL⟩) = W2 at HX2 HY2 HB2 HI2 HBC HBK HLXY HZ2 ⊢
  have x0 := cell_of HX2.out 0
  have x1 := cell_of HX2.out 1
  have y0 := cell_of HY2.out 0
  have y1 := cell_of HY2.out 1
  have p0 := cell_of HBC.out 0
  have p1 := cell_of HBK.out 0
  simp at x0 x1 y0 y1 p0 p1
  have g1 := blkB_lt HX2.out
  have g2 := blkB_lt HY2.out
  have g3 := blkB_lt HBC.out
  have g4 := blkB_lt HBK.out
  have D0 : Below W2.heap.size W2 W2.drew := (Below.refl _ _).drew
  have HCC : Hid (∀ W bs, Below W2.heap.size W2 W → W.heap[bs]? = some (.cells #[.slice x.a x.l x.c, .slice none (yl - k) (yc - k)] 25 (0, 0)) → Calls Tryd.prog 39 #[.slice (some ⟨bs, 0, none⟩) 2 2] W fun e w' => (∃ v1 cs, e = .returned v1 ∧ w'.ownsRow W.heap.size 43 4 v1 (x.l + (yl - k)) cs ∧ Sh (fun i => i ≠ bo ∧ v.ownBlock ≠ some i) w' (x.L ++ yL.drop k) cs) ∧ Below W.heap.size W w') := fun W bs k1 hb => by
    have hP := concat_any (fun i => i ≠ bo ∧ v.ownBlock ≠ some i) [x, ⟨yn, none, yl - k, yc - k, yL.drop k⟩] bs 2 W rfl (by decide) (blkB_lt hb) (fun i z hz => by
      match i, hz with
      | 0, hz => simp at hz; subst hz; exact (cell_of hb 0).trans rfl
      | 1, hz => simp at hz; subst hz; exact (cell_of hb 1).trans rfl
      | i + 2, hz => simp at hz) (fun z hz => by
      simp at hz
      rcases hz with rfl | rfl
      · exact LieA.kept k1.size (fun i hi hl => ⟨hi, k1.block i hl⟩) _ _ _ HLXY.out.1
      · exact LieA.kept k1.size (fun i hi hl => ⟨hi, k1.block i hl⟩) _ _ _ HLXY.out.2) (by have := HLEN.out; simp [lenS]; omega)
    refine hP.mono ?_
    rintro e w' ⟨⟨v1, cs, rfl, h1, h2⟩, h3⟩
    refine ⟨⟨v1, cs, rfl, ?_, ?_⟩, h3⟩
    · have e1 : lenS [x, ⟨yn, none, yl - k, yc - k, yL.drop k⟩] = x.l + (yl - k) := by simp [lenS]
      rw [e1] at h1
      exact h1
    · have e1 : [x, ⟨yn, none, yl - k, yc - k, yL.drop k⟩].flatMap (·.L) = x.L ++ yL.drop k := by simp
      rw [e1] at h2
      exact h2
  have KA : Below W2.heap.size W2 (W2.alloc (.cells #[.slice x.a x.l x.c, .slice none (yl - k) (yc - k)] 25)).drew := ((Below.refl _ _).alloc (Nat.le_refl _) _).drew
  have HA : Hid ((W2.alloc (.cells #[.slice x.a x.l x.c, .slice none (yl - k) (yc - k)] 25)).drew.heap[W2.heap.size]? = some (.cells #[.slice x.a x.l x.c, .slice none (yl - k) (yc - k)] 25 (0, 0))) := alloc_new W2 _
  have HCD := toHid (HCC.out _ _ KA HA.out)
  have n1 : w.heap.size ≠ bo ∧ v.ownBlock ≠ some w.heap.size := ⟨by omega, fun e => by have := HOW.out _ e; omega⟩
  have n2 : w.heap.size + 1 ≠ bo ∧ v.ownBlock ≠ some (w.heap.size + 1) := ⟨by omega, fun e => by have := HOW.out _ e; omega⟩
  have HN12 := toHid (And.intro n1 n2)
  clear n1 n2
  go_region_held3 (fun W' => (W'.cell? ⟨bc, 0, none⟩ = some (.func (.func 47) #[] #[.pointer (some ⟨bo, 0, none⟩)]) ∧ W'.cell? ⟨bk, 0, none⟩ = some (.int .i64 k) ∧ W'.cell? ⟨w.heap.size, 0, none⟩ = some (.slice x.a x.l x.c) ∧ W'.cell? ⟨w.heap.size, 1, none⟩ = some (.int .i64 x.n) ∧ W'.cell? ⟨w.heap.size + 1, 0, none⟩ = some (.slice none yl yc) ∧ W'.cell? ⟨w.heap.size + 1, 1, none⟩ = some (.int .i64 yn)))
    (first
      | exact ⟨p0, p1, x0, x1, y0, y1⟩
      | exact ⟨(World.cell?_of_block (kd bc g3 HNO.out.1.1 HNO.out.1.2)).trans p0, (World.cell?_of_block (kd bk g4 HNO.out.2.1 HNO.out.2.2)).trans p1, (World.cell?_of_block (kd _ g1 HN12.out.1.1 HN12.out.1.2)).trans x0, (World.cell?_of_block (kd _ g1 HN12.out.1.1 HN12.out.1.2)).trans x1, (World.cell?_of_block (kd _ g2 HN12.out.2.1 HN12.out.2.2)).trans y0, (World.cell?_of_block (kd _ g2 HN12.out.2.1 HN12.out.2.2)).trans y1⟩
      | exact ⟨(kc.cell (p := ⟨bc, 0, none⟩) g3).trans p0, (kc.cell (p := ⟨bk, 0, none⟩) g4).trans p1, (kc.cell (p := ⟨w.heap.size, 0, none⟩) g1).trans x0, (kc.cell (p := ⟨w.heap.size, 1, none⟩) g1).trans x1, (kc.cell (p := ⟨w.heap.size + 1, 0, none⟩) g2).trans y0, (kc.cell (p := ⟨w.heap.size + 1, 1, none⟩) g2).trans y1⟩
      | go_keep)
    (first
      | (go_at_call 39; go_fit HCD.out; rintro e uc ⟨⟨v1, cs, rfl, hr1, hs1⟩, kk⟩; have kc : Below W2.heap.size W2 uc := KA.trans (kk.mono KA.size); obtain ⟨a1, c1, hv1, hq1⟩ := conc_row (fun i => i ≠ bo ∧ v.ownBlock ≠ some i) (l := x.l + (yl - k)) hr1 hs1 (by have h1 := HXL.out; simp only [List.length_append, List.length_drop]; omega) (fun g hg => by have h1 := KA.size; have h2 := HZ2.out; exact ⟨by omega, fun e => by have := HOW.out _ e; omega⟩); subst hv1; have hi1 := HI2.out.below kc; have HQ1 := toHid (tally1_any T0 bo M ⟨x.n * yn, a1, x.l + (yl - k), c1, x.L ++ yL.drop k⟩ uc v (Nat.le_trans HT0.out (Nat.le_trans HB2.out.size kc.size)) hi1 HML.out hq1); clear hr1 hs1 kk hi1 hq1)
      | (go_at_call 47; go_fit HQ1.out; rintro e u2 ⟨rfl, v2, hi2, hs2⟩; have kd : ∀ j, j < W2.heap.size → j ≠ bo → v.ownBlock ≠ some j → u2.heap[j]? = W2.heap[j]? := fun j hj h1 h2 => (hs2.block j (Nat.lt_of_lt_of_le hj kc.size) h1 h2).trans (kc.block j hj)))
  all_goals
    go_end0
    exact ⟨rfl, _, v2, ⟨rfl, rfl⟩, hi2, (TStep.below HB2.out).trans ((TStep.below kc).trans hs2)⟩

set_option maxHeartbeats 8000000 in
set_option maxRecDepth 100000 in
theorem join21_e (T0 bo bc bk : Nat) (k : Nat) (M : List Ct) (x : Ct) (yn : Int) (yl : Nat) (yL : List T) (A : Addr) (v : Value) (w : World) (hT : T0 ≤ w.heap.size) (h : TInv T0 bo M w v) (hl : M.length ≤ 900000) (hc : w.heap[bc]? = some (.cells #[.func (.func 47) #[] #[.pointer (some ⟨bo, 0, none⟩)]] 53 (0, 0))) (hk : w.heap[bk]? = some (.cells #[.int .i64 k] 3 (0, 0))) (hbc : bc ≠ bo ∧ v.ownBlock ≠ some bc) (hbk : bk ≠ bo ∧ v.ownBlock ≠ some bk)
    (hx : LieA (fun i => i ≠ bo ∧ v.ownBlock ≠ some i) w x.L x.a x.l) (hy : LieA (fun i => i ≠ bo ∧ v.ownBlock ≠ some i) w (yL.drop k) (some A) 0) (hky : k ≤ yl) (hyc : yl ≤ k) (hlen : x.l + yl ≤ 1000) (hp : -4611686018427387904 ≤ x.n * yn ∧ x.n * yn ≤ 4611686018427387904) (hxl : x.l = x.L.length) (hyl : yl = yL.length)  :
    Calls Tryd.prog 38 #[.agg #[.slice x.a x.l x.c, .int .i64 x.n], .agg #[.slice (some A) yl k, .int .i64 yn], .pointer (some ⟨bc, 0, none⟩), .pointer (some ⟨bk, 0, none⟩)] w fun e w' => e = .returned (.tuple #[]) ∧ ∃ q v', joinC k x ⟨yn, (some A), yl, k, yL⟩ q ∧ TInv T0 bo (M ++ [q]) w' v' ∧ TStep bo v v' w w' := by
  have HX2 := toHid ((Below.heap_alloc (w.alloc (cObj x)) (cObj ⟨yn, (some A), yl, k, yL⟩) w.heap.size (by simp)).trans (alloc_new w (cObj x)))
  have HY2 := toHid (alloc_two w (cObj x) (cObj ⟨yn, (some A), yl, k, yL⟩))
  have b2 : Below w.heap.size w ((w.alloc (cObj x)).alloc (cObj ⟨yn, (some A), yl, k, yL⟩)) := ((Below.refl _ _).alloc (Nat.le_refl _) _).alloc (by simp) _
  have HB2 := toHid b2
  have HZ2 : Hid (((w.alloc (cObj x)).alloc (cObj ⟨yn, (some A), yl, k, yL⟩)).heap.size = w.heap.size + 2) := by show _ = _; simp
  have HI2 := toHid (h.below b2)
  have HBC := toHid ((b2.block bc (blkB_lt hc)).trans hc)
  have HBK := toHid ((b2.block bk (blkB_lt hk)).trans hk)
  have HLXY : Hid (LieA (fun i => i ≠ bo ∧ v.ownBlock ≠ some i) ((w.alloc (cObj x)).alloc (cObj ⟨yn, (some A), yl, k, yL⟩)) x.L x.a x.l ∧ LieA (fun i => i ≠ bo ∧ v.ownBlock ≠ some i) ((w.alloc (cObj x)).alloc (cObj ⟨yn, (some A), yl, k, yL⟩)) (yL.drop k) (some A) 0) := ⟨LieA.kept b2.size (fun i hi hl => ⟨hi, b2.block i hl⟩) _ _ _ hx, LieA.kept b2.size (fun i hi hl => ⟨hi, b2.block i hl⟩) _ _ _ hy⟩
  have HNO := toHid (show (bc ≠ bo ∧ v.ownBlock ≠ some bc) ∧ (bk ≠ bo ∧ v.ownBlock ≠ some bk) from ⟨hbc, hbk⟩)
  have HML := toHid hl
  have HT0 := toHid hT
  have HXL := toHid (show x.l = x.L.length ∧ yl = yL.length from ⟨hxl, hyl⟩)
  have hkc : k ≤ k := Nat.le_trans hky hyc
  have hky' : (k : Int) ≤ yl := by omega
  have hk0 : (0 : Int) ≤ k := by omega
  have hwm : IntKind.i64.wrap (x.n * yn) = x.n * yn := by rw [IntKind.wrap_i64]; omega
  have hwm2 : wrap64 (x.n * yn) = x.n * yn := by unfold wrap64; omega
  have HH := toHid h
  have HOW : Hid (∀ g, v.ownBlock = some g → g < w.heap.size) := fun g hg => (rowLt h.row hg).2
  have hbo : bo < w.heap.size := blkB_lt h.box
  have HLEN := toHid hlen
  clear h hc hk b2 hx hy hl hT hbc hbk hxl hyl hp hlen
  go_enter Tryd.func38, Tryd.ntmps38
  go_upto_region 1 with fail
  generalize (w.alloc (cObj x)).alloc (cObj ⟨yn, (some A), yl, k, yL⟩) = W2 at HX2 HY2 HB2 HI2 HBC HBK HLXY HZ2 ⊢
  have x0 := cell_of HX2.out 0
  have x1 := cell_of HX2.out 1
  have y0 := cell_of HY2.out 0
  have y1 := cell_of HY2.out 1
  have p0 := cell_of HBC.out 0
  have p1 := cell_of HBK.out 0
  simp at x0 x1 y0 y1 p0 p1
  have g1 := blkB_lt HX2.out
  have g2 := blkB_lt HY2.out
  have g3 := blkB_lt HBC.out
  have g4 := blkB_lt HBK.out
  have D0 : Below W2.heap.size W2 W2.drew := (Below.refl _ _).drew
  have HCC : Hid (∀ W bs, Below W2.heap.size W2 W → W.heap[bs]? = some (.cells #[.slice x.a x.l x.c, .slice (some A) 0 0] 25 (0, 0)) → Calls Tryd.prog 39 #[.slice (some ⟨bs, 0, none⟩) 2 2] W fun e w' => (∃ v1 cs, e = .returned v1 ∧ w'.ownsRow W.heap.size 43 4 v1 (x.l) cs ∧ Sh (fun i => i ≠ bo ∧ v.ownBlock ≠ some i) w' (x.L ++ yL.drop k) cs) ∧ Below W.heap.size W w') := fun W bs k1 hb => by
    have hP := concat_any (fun i => i ≠ bo ∧ v.ownBlock ≠ some i) [x, ⟨yn, (some A), 0, 0, yL.drop k⟩] bs 2 W rfl (by decide) (blkB_lt hb) (fun i z hz => by
      match i, hz with
      | 0, hz => simp at hz; subst hz; exact (cell_of hb 0).trans rfl
      | 1, hz => simp at hz; subst hz; exact (cell_of hb 1).trans rfl
      | i + 2, hz => simp at hz) (fun z hz => by
      simp at hz
      rcases hz with rfl | rfl
      · exact LieA.kept k1.size (fun i hi hl => ⟨hi, k1.block i hl⟩) _ _ _ HLXY.out.1
      · exact LieA.kept k1.size (fun i hi hl => ⟨hi, k1.block i hl⟩) _ _ _ HLXY.out.2) (by have := HLEN.out; simp [lenS]; omega)
    refine hP.mono ?_
    rintro e w' ⟨⟨v1, cs, rfl, h1, h2⟩, h3⟩
    refine ⟨⟨v1, cs, rfl, ?_, ?_⟩, h3⟩
    · have e1 : lenS [x, ⟨yn, (some A), 0, 0, yL.drop k⟩] = x.l := by simp [lenS]
      rw [e1] at h1
      exact h1
    · have e1 : [x, ⟨yn, (some A), 0, 0, yL.drop k⟩].flatMap (·.L) = x.L ++ yL.drop k := by simp
      rw [e1] at h2
      exact h2
  have KA : Below W2.heap.size W2 (W2.alloc (.cells #[.slice x.a x.l x.c, .slice (some A) 0 0] 25)).drew := ((Below.refl _ _).alloc (Nat.le_refl _) _).drew
  have HA : Hid ((W2.alloc (.cells #[.slice x.a x.l x.c, .slice (some A) 0 0] 25)).drew.heap[W2.heap.size]? = some (.cells #[.slice x.a x.l x.c, .slice (some A) 0 0] 25 (0, 0))) := alloc_new W2 _
  have HCD := toHid (HCC.out _ _ KA HA.out)
  have n1 : w.heap.size ≠ bo ∧ v.ownBlock ≠ some w.heap.size := ⟨by omega, fun e => by have := HOW.out _ e; omega⟩
  have n2 : w.heap.size + 1 ≠ bo ∧ v.ownBlock ≠ some (w.heap.size + 1) := ⟨by omega, fun e => by have := HOW.out _ e; omega⟩
  have HN12 := toHid (And.intro n1 n2)
  clear n1 n2
  go_region_held3 (fun W' => (W'.cell? ⟨bc, 0, none⟩ = some (.func (.func 47) #[] #[.pointer (some ⟨bo, 0, none⟩)]) ∧ W'.cell? ⟨bk, 0, none⟩ = some (.int .i64 k) ∧ W'.cell? ⟨w.heap.size, 0, none⟩ = some (.slice x.a x.l x.c) ∧ W'.cell? ⟨w.heap.size, 1, none⟩ = some (.int .i64 x.n) ∧ W'.cell? ⟨w.heap.size + 1, 0, none⟩ = some (.slice (some A) yl k) ∧ W'.cell? ⟨w.heap.size + 1, 1, none⟩ = some (.int .i64 yn)))
    (first
      | exact ⟨p0, p1, x0, x1, y0, y1⟩
      | exact ⟨(World.cell?_of_block (kd bc g3 HNO.out.1.1 HNO.out.1.2)).trans p0, (World.cell?_of_block (kd bk g4 HNO.out.2.1 HNO.out.2.2)).trans p1, (World.cell?_of_block (kd _ g1 HN12.out.1.1 HN12.out.1.2)).trans x0, (World.cell?_of_block (kd _ g1 HN12.out.1.1 HN12.out.1.2)).trans x1, (World.cell?_of_block (kd _ g2 HN12.out.2.1 HN12.out.2.2)).trans y0, (World.cell?_of_block (kd _ g2 HN12.out.2.1 HN12.out.2.2)).trans y1⟩
      | exact ⟨(kc.cell (p := ⟨bc, 0, none⟩) g3).trans p0, (kc.cell (p := ⟨bk, 0, none⟩) g4).trans p1, (kc.cell (p := ⟨w.heap.size, 0, none⟩) g1).trans x0, (kc.cell (p := ⟨w.heap.size, 1, none⟩) g1).trans x1, (kc.cell (p := ⟨w.heap.size + 1, 0, none⟩) g2).trans y0, (kc.cell (p := ⟨w.heap.size + 1, 1, none⟩) g2).trans y1⟩
      | go_keep)
    (first
      | (go_at_call 39; go_fit HCD.out; rintro e uc ⟨⟨v1, cs, rfl, hr1, hs1⟩, kk⟩; have kc : Below W2.heap.size W2 uc := KA.trans (kk.mono KA.size); obtain ⟨a1, c1, hv1, hq1⟩ := conc_row (fun i => i ≠ bo ∧ v.ownBlock ≠ some i) (l := x.l) hr1 hs1 (by have h1 := HXL.out; simp only [List.length_append, List.length_drop]; omega) (fun g hg => by have h1 := KA.size; have h2 := HZ2.out; exact ⟨by omega, fun e => by have := HOW.out _ e; omega⟩); subst hv1; have hi1 := HI2.out.below kc; have HQ1 := toHid (tally1_any T0 bo M ⟨x.n * yn, a1, x.l, c1, x.L ++ yL.drop k⟩ uc v (Nat.le_trans HT0.out (Nat.le_trans HB2.out.size kc.size)) hi1 HML.out hq1); clear hr1 hs1 kk hi1 hq1)
      | (go_at_call 47; go_fit HQ1.out; rintro e u2 ⟨rfl, v2, hi2, hs2⟩; have kd : ∀ j, j < W2.heap.size → j ≠ bo → v.ownBlock ≠ some j → u2.heap[j]? = W2.heap[j]? := fun j hj h1 h2 => (hs2.block j (Nat.lt_of_lt_of_le hj kc.size) h1 h2).trans (kc.block j hj)))
  all_goals
    go_end0
    exact ⟨rfl, _, v2, ⟨rfl, rfl⟩, hi2, (TStep.below HB2.out).trans ((TStep.below kc).trans hs2)⟩

set_option linter.unusedSimpArgs false

theorem join21_any (T0 bo bc bk : Nat) (k : Nat) (M : List Ct) (x y : Ct) (v : Value) (w : World) (hT : T0 ≤ w.heap.size) (h : TInv T0 bo M w v) (hl : M.length ≤ 900000) (hc : w.heap[bc]? = some (.cells #[.func (.func 47) #[] #[.pointer (some ⟨bo, 0, none⟩)]] 53 (0, 0))) (hk : w.heap[bk]? = some (.cells #[.int .i64 k] 3 (0, 0))) (hbc : bc ≠ bo ∧ v.ownBlock ≠ some bc) (hbk : bk ≠ bo ∧ v.ownBlock ≠ some bk)
    (hx : LieA (fun i => i ≠ bo ∧ v.ownBlock ≠ some i) w x.L x.a x.l) (hy : LieA (fun i => i ≠ bo ∧ v.ownBlock ≠ some i) w y.L y.a y.l) (hky : k ≤ y.l) (hyc : y.l ≤ y.c) (hlen : x.l + y.l ≤ 1000) (hp : -4611686018427387904 ≤ x.n * y.n ∧ x.n * y.n ≤ 4611686018427387904) :
    Calls Tryd.prog 38 #[.agg #[.slice x.a x.l x.c, .int .i64 x.n], .agg #[.slice y.a y.l y.c, .int .i64 y.n], .pointer (some ⟨bc, 0, none⟩), .pointer (some ⟨bk, 0, none⟩)] w fun e w' => e = .returned (.tuple #[]) ∧ ∃ q v', joinC k x y q ∧ TInv T0 bo (M ++ [q]) w' v' ∧ TStep bo v v' w w' := by
  have hxl : x.l = x.L.length := (LieA.lies _ _ _ hx).length.1
  have hyl : y.l = y.L.length := (LieA.lies _ _ _ hy).length.1
  obtain ⟨yn, ya, yl, yc, yL⟩ := y
  simp only at hy hky hyc hlen hp hyl ⊢
  cases ya with
  | none =>
    have h0 : yl ≤ k := by
      cases yL with
      | nil => simp at hyl; omega
      | cons t ts =>
        unfold LieA at hy
        obtain ⟨b, off, e, _⟩ := hy
        cases e
    exact join21_n T0 bo bc bk k M x yn yl yc yL v w hT h hl hc hk hbc hbk hx (lie_end hy h0) hky hyc hlen hp hxl hyl
  | some A =>
    by_cases hck : yc = k
    · subst hck
      have h0 : yl - yc = 0 := by omega
      have h1 := lie_end (a' := some A) hy hyc
      rw [h0] at h1
      exact join21_e T0 bo bc bk yc M x yn yl yL A v w hT h hl hc hk hbc hbk hx h1 hky hyc hlen hp hxl hyl
    · refine join21_s T0 bo bc bk k M x yn yl yc yL A v w hT h hl hc hk hbc hbk hx ?_ hky hyc hlen hp hxl hyl hck
      by_cases hkl : k < yl
      · have hA : ∃ b off, A = ⟨b, off, none⟩ := by
          cases yL with
          | nil => simp at hyl; omega
          | cons t ts =>
            have h2 := hy
            unfold LieA at h2
            obtain ⟨b, off, e, _⟩ := h2
            injection e with e
            exact ⟨b, off, e⟩
        obtain ⟨b, off, rfl⟩ := hA
        rw [add_none]
        exact lie_drop hy hkl
      · exact lie_end hy (by omega)
end Go.Proofs.YtcfifihlfomccaaDoor
