/-
  What is proved here: what the texts BTalAd, BGrow, BShal, BConcat, BJoin2, BJoin3, BMeetB, BJoin4, BTalJn, BJoin5, BJoin6, BJoin7, BNumB, BBag0 prove, in one text.
-/
import Derived.Test.YtmjeanpjiogkiaaDoorQTAM
import Derived.Lib.AppendZeros
namespace Go.Proofs.YtmjeanpjiogkiaaDoor
open Go.RowKit
set_option linter.unusedVariables false

set_option linter.unusedSimpArgs false

set_option maxHeartbeats 8000000 in
set_option maxRecDepth 100000 in
theorem talAd_any (B : Nat) (cp0 cp1 cp2 : Value) (Ls : List Cn) (w : World) (hB : B ≤ w.heap.size) (hT : Tabs B w)
    (hv : ∀ (W : World) (bo : Nat), w.heap.size ≤ bo → TInv w.heap.size bo [] W (.slice none 0 0) → Below w.heap.size w W → Calls Tryd.prog 33 #[.func (.func 46) #[] #[.pointer (some ⟨bo, 0, none⟩)], cp0, cp1, cp2] W fun e w' => e = .returned (.tuple #[]) ∧ ∃ M v', Good Ls M ∧ TInv w.heap.size bo M w' v' ∧ TStep bo (.slice none 0 0) v' W w') :
    Calls Tryd.prog 32 #[.func (.func 33) #[] #[cp0, cp1, cp2]] w fun e w' => TalEnd w.heap.size w' Ls e ∧ Below w.heap.size w w' := by
  have b0 : Below w.heap.size w (w.alloc (.cells #[.slice none 0 0] 26)) := (Below.refl _ _).alloc (Nat.le_refl _) _
  have h0 := alloc_new w (.cells #[.slice none 0 0] 26)
  have HV := toHid (hv _ w.heap.size (Nat.le_refl _) ⟨h0, World.ownsRow_nil _ _ _ _, by simp [Value.ownBlock], fun x hx => by cases hx⟩ b0)
  have HB0 := toHid b0
  have HTB := toHid hT
  clear hv b0 h0 hT
  go_enter Tryd.func32, Tryd.ntmps32
  go_wp2_with (go_at_call 33; refine HV.out.mono ?_)
  rintro e w1 ⟨rfl, M, v1, hgood, hinv, hst⟩
  have HG := toHid hgood
  have HI := toHid hinv
  have HB1 : Hid (Below w.heap.size w w1) := HB0.out.trans (hst.toBelow (Nat.le_refl _) (fun g hg => by cases hg) (by simp))
  have y0 := cell_of hinv.box 0
  simp at y0
  have hbo := blkB_lt hinv.box
  have HS := toHid (sortC_any w1 w.heap.size v1 M hinv.row (Nat.le_trans hgood.len (by decide)) fun x hx => ⟨LieA.kept (Nat.le_refl _) (fun i hi _ => ⟨hi.2, rfl⟩) _ _ _ (hinv.rows x hx), (hgood.ok x hx).2⟩)
  clear hgood hinv hst HV HB0
  go_wp2_with (go_at_call 47; refine HS.out.mono ?_)
  rintro e w2 ⟨rfl, M2, hperm, hsort, hrow2, hgrow⟩
  have y2 : w2.cell? ⟨w.heap.size, 0, none⟩ = some v1 := (World.cell?_of_block (hgrow.block w.heap.size hbo fun e => HI.out.nbo e.symm)).trans y0
  have hbo2 : w.heap.size < w2.heap.size := Nat.lt_of_lt_of_le hbo hgrow.size
  have HB2 : Hid (Below w.heap.size w w2) := ⟨hgrow.os.trans HB1.out.os, hgrow.tape.trans HB1.out.tape, hgrow.output.trans HB1.out.output, Nat.le_trans HB1.out.size hgrow.size, fun k hk => (hgrow.block k (Nat.lt_of_lt_of_le hk HB1.out.size) fun e => by have := (rowLt HI.out.row e.symm).1; omega).trans (HB1.out.block k hk)⟩
  have HOK : Hid (∀ x ∈ M2, (LiesS w2 x.L x.a x.l ∧ InL x.L) ∧ wtL x.L ≤ 1099511627776) := fun x hx => by
    have hm := hperm.mem_iff.1 hx
    exact ⟨⟨LieA.lies _ _ _ (LieA.kept hgrow.size (A' := fun _ => True) (fun i hi hl => ⟨trivial, hgrow.block i hl fun e => hi.2 e.symm⟩) _ _ _ (HI.out.rows x hm)), (HG.out.ok x hm).1⟩, (HG.out.ok x hm).2⟩
  have hlen2 : M2.length = M.length := hperm.length_eq
  obtain ⟨va, vn, vc, rfl⟩ : ∃ va vn vc, v1 = .slice va vn vc := by
    rcases hrow2.2 with ⟨h0, _⟩ | ⟨g', cap', cur, h0, _⟩
    · exact ⟨_, _, _, h0⟩
    · exact ⟨_, _, _, h0⟩
  have hTG := together_any del_ok M2 va vn vc w2 (ctsOwn (by rw [hlen2]; exact hrow2) (by rw [hlen2]; exact Nat.le_trans HG.out.len (by decide))) (fun x hx => ⟨(HOK.out x hx).1.1, (HOK.out x hx).2⟩) (by rw [absS_perm hperm]; exact HG.out.abs)
  have HBAG := toHid (tal_bag HG.out hperm hsort)
  have hF := tal_ok (P := fun x => (LiesS w2 x.L x.a x.l ∧ InL x.L) ∧ wtL x.L ≤ 1099511627776) (fun p n h => h) HOK.out
  have hFL : ((tgCs M2).filter fun c => !(c.n == 0)).length ≤ 900000 := by
    have h1 := tgCs_len M2 M2.length
    rw [List.take_length] at h1
    exact Nat.le_trans (List.length_filter_le _ _) (Nat.le_trans h1 (by rw [hlen2]; exact HG.out.len))
  generalize (tgCs M2).filter (fun c => !(c.n == 0)) = F at hTG HBAG hF hFL
  have HTG := toHid hTG
  have HF := toHid hF
  clear hTG hF hperm hsort hrow2 hgrow y0 hbo hlen2 HS HI HG HB1 HOK
  go_wp2_with (go_at_call 49; refine HTG.out.mono ?_)
  rintro e w3 ⟨v3, rfl, hrow3, k3⟩
  have HB3 := toHid (HB2.out.trans (k3.mono HB2.out.size))
  obtain ⟨va3, vn3, vc3, rfl⟩ : ∃ va vn vc, v3 = .slice va vn vc := by
    rcases hrow3.2 with ⟨h0, _⟩ | ⟨g', cap', cur, h0, _⟩
    · exact ⟨_, _, _, h0⟩
    · exact ⟨_, _, _, h0⟩
  have hF3 : ∀ x ∈ F, LiesS w3 x.L x.a x.l ∧ InL x.L ∧ wtL x.L ≤ 1099511627776 := fun x hx => ⟨LiesS.below k3 _ _ _ (HF.out x hx).1.1, (HF.out x hx).1.2, (HF.out x hx).2⟩
  obtain ⟨O, hO1, hO2, hO3⟩ := told_all B w3 (Nat.le_trans hB HB3.out.size) (HTB.out.below (HB3.out.mono hB)) F hF3
  have hat := ctsOwn hrow3 (Nat.le_trans hFL (by decide))
  have HC := toHid (check_bag O va3 vn3 vc3 w3 w3 ⟨by rw [hO1]; exact hat, hO2⟩ (Below.refl _ _))
  have HAT := toHid hat
  have HF3 := toHid hF3
  have HO1 := toHid hO1
  have HO3 : Hid (∀ x e, (x, e) ∈ O → RowTold x.L e ∧ wtL x.L ≤ 1099511627776) := fun x e hx => ⟨hO3 x e hx, (hF3 x (by rw [← hO1]; exact List.mem_map.2 ⟨_, hx, rfl⟩)).2.2⟩
  have HBG : Hid (IsBag (O.map fun y => y.1.cn) ∧ ∀ r, cnt (O.map fun y => y.1.cn) r = cnt Ls r) := by
    have e1 : (O.map fun y => y.1.cn) = F.map Ct.cn := by rw [← hO1, List.map_map]; rfl
    show _ ∧ _
    rw [e1]
    exact HBAG.out
  generalize hz0 : bagE O = z at HC
  have HZ0 := toHid hz0
  clear hrow3 k3 hF3 hO1 hO2 hO3 hat hz0 y2 hbo2 HTG HB2 HBAG HF
  go_wp2_with (go_at_call 18; refine HC.out.mono ?_)
  rintro e w4 ⟨rfl, k4⟩
  have HB4 := toHid (HB3.out.trans (k4.mono HB3.out.size))
  by_cases hz : z = 0
  · have hz' : (z != 0) = false := by simp [hz]
    have HE := toHid (freshBag_any F va3 vn3 vc3 w4 (HAT.out.below k4) fun x hx => ⟨LiesS.below k4 _ _ _ (HF3.out x hx).1, (HF3.out x hx).2.2⟩)
    have HZ := toHid hz
    clear hz k4 HC
    go_wp2_with (go_at_call 21; refine HE.out.mono ?_)
    rintro e w5 ⟨⟨v5, rfl, hv5⟩, k5⟩
    have HB5 := toHid (HB4.out.trans (k5.mono HB4.out.size))
    have HV5 : Hid (CtsNew w.heap.size w5 (O.map (·.1)) v5) := by
      rw [HO1.out]
      obtain ⟨P, p1, p2⟩ := hv5
      refine ⟨P, ⟨p1.1, p1.2.elim .inl fun ⟨g, cap, cur, e1, e2, e3⟩ => .inr ⟨g, cap, cur, e1, Nat.le_trans HB4.out.size e2, e3⟩⟩, p2.mono fun p x _ _ h => h.kept ⟨Nat.le_refl _, fun i hi _ => ⟨⟨Nat.le_trans HB4.out.size hi.1, hi.2⟩, rfl⟩⟩⟩
    clear hv5 k5
    go_wp2_with fail
    refine bodyPost_ret (v := .tuple #[v5, .int .i64 0]) (by simp [results, Tryd.results32, go_sem]) rfl ?_
    exact ⟨⟨O, HBG.out.1, HBG.out.2, HO3.out, .inr ⟨HZ0.out.trans HZ.out, v5, rfl, HV5.out⟩⟩, HB5.out⟩
  · have hz' : (z != 0) = true := by simp [hz]
    have HZ := toHid hz
    clear hz k4 HC
    go_wp2_with fail
    refine bodyPost_ret (v := .tuple #[.slice none 0 0, .int .i64 z]) (by simp [results, Tryd.results32, go_sem]) rfl ?_
    exact ⟨⟨O, HBG.out.1, HBG.out.2, HO3.out, .inl ⟨by rw [HZ0.out]; exact HZ.out, by rw [HZ0.out]⟩⟩, HB4.out⟩

set_option linter.unusedSimpArgs false

set_option linter.unusedSimpArgs false

/-- Cells of a row of values whose lists lie in blocks of this kind. -/
def Sh (A : Nat → Prop) (w : World) : List T → List Value → Prop
  | [], cs => cs = []
  | .node k n s L :: ts, cs => s.size ≤ 9223372036854775807 ∧ ∃ a l c cs', cs = .int .i64 k :: .int .i64 n :: .string s :: .slice a l c :: cs' ∧ l ≤ c ∧ LieA A w L a l ∧ Sh A w ts cs'

theorem Sh.len {A : Nat → Prop} {w : World} : ∀ {L : List T} {cs : List Value}, Sh A w L cs → cs.length = L.length * 4
  | [], cs, h => by
    unfold Sh at h
    subst h
    rfl
  | .node k n s L :: ts, cs, h => by
    unfold Sh at h
    obtain ⟨_, a, l, c, cs', rfl, _, _, h2⟩ := h
    have := Sh.len h2
    simp only [List.length_cons]
    omega

theorem Sh.one {A : Nat → Prop} {w : World} : ∀ {L : List T} {cs : List Value}, Sh A w L cs → ∀ u ∈ cs, u.oneCell' = true
  | [], cs, h, u, hu => by
    unfold Sh at h
    subst h
    cases hu
  | .node k n s L :: ts, cs, h, u, hu => by
    unfold Sh at h
    obtain ⟨_, a, l, c, cs', rfl, _, _, h2⟩ := h
    simp only [List.mem_cons] at hu
    rcases hu with rfl | rfl | rfl | rfl | hu
    · rfl
    · rfl
    · rfl
    · rfl
    · exact Sh.one h2 u hu

theorem Sh.append {A : Nat → Prop} {w : World} {M : List T} {ds : List Value} (hM : Sh A w M ds) : ∀ {L : List T} {cs : List Value}, Sh A w L cs → Sh A w (L ++ M) (cs ++ ds)
  | [], cs, h => by
    unfold Sh at h
    subst h
    exact hM
  | .node k n s L :: ts, cs, h => by
    unfold Sh at h
    obtain ⟨hs, a, l, c, cs', rfl, h1, h3, h2⟩ := h
    rw [List.cons_append]
    unfold Sh
    exact ⟨hs, a, l, c, cs' ++ ds, rfl, h1, h3, Sh.append hM h2⟩

theorem Sh.kept {A A' : Nat → Prop} {w w' : World} (k : Keep A A' w w') : ∀ {L : List T} {cs : List Value}, Sh A w L cs → Sh A' w' L cs
  | [], cs, h => by
    unfold Sh at h ⊢
    exact h
  | .node kk n s L :: ts, cs, h => by
    unfold Sh at h ⊢
    obtain ⟨hs, a, l, c, cs', e, h1, h3, h2⟩ := h
    exact ⟨hs, a, l, c, cs', e, h1, LieA.kept k.1 k.2 _ _ _ h3, Sh.kept k h2⟩

/-- A row that lies somewhere: its cells. -/
theorem sh_of {A : Nat → Prop} {w : World} : ∀ {L : List T} {a : Option Addr} {l : Nat}, LieA A w L a l → ∃ cs, Sh A w L cs ∧ ∀ t u, cs[t]? = some u → ∃ b off, a = some ⟨b, off, none⟩ ∧ A b ∧ b < w.heap.size ∧ w.cell? ⟨b, off + t, none⟩ = some u
  | [], a, l, h => ⟨[], rfl, fun t u hu => by simp at hu⟩
  | .node k n s L :: ts, a, l, h => by
    unfold LieA at h
    obtain ⟨b, off, rfl, _, _, hA, hb, hT, hS⟩ := h
    unfold LieT at hT
    obtain ⟨hs, a', l', c', p0, p1, p2, p3, hlc, hL⟩ := hT
    obtain ⟨cs, h1, h2⟩ := sh_of hS
    refine ⟨.int .i64 k :: .int .i64 n :: .string s :: .slice a' l' c' :: cs, ?_, fun t u hu => ⟨b, off, rfl, hA, hb, ?_⟩⟩
    · unfold Sh
      exact ⟨hs, a', l', c', cs, rfl, hlc, hL, h1⟩
    · match t, hu with
      | 0, hu => simp at hu; subst hu; exact p0
      | 1, hu => simp at hu; subst hu; exact p1
      | 2, hu => simp at hu; subst hu; exact p2
      | 3, hu => simp at hu; subst hu; exact p3
      | t + 4, hu =>
        obtain ⟨b', off', e, _, _, hc⟩ := h2 t u (by simpa using hu)
        simp only [Option.some.injEq, Addr.mk.injEq, and_true] at e
        obtain ⟨rfl, rfl⟩ := e
        rw [show off + (t + 4) = off + 4 + t by omega]
        exact hc

/-- Where these cells lie, the row lies. -/
theorem Sh.lie {A : Nat → Prop} {w : World} {g : Nat} (hA : A g) (hg : g < w.heap.size) : ∀ {L : List T} {cs : List Value} {off : Nat}, Sh A w L cs → L.length ≤ 9223372036854775807 → (∀ t u, cs[t]? = some u → w.cell? ⟨g, off + t, none⟩ = some u) → LieA A w L (some ⟨g, off, none⟩) L.length
  | [], cs, off, h, _, _ => by unfold LieA; rfl
  | .node k n s L :: ts, cs, off, h, hl, hc => by
    unfold Sh at h
    obtain ⟨hs, a, l, c, cs', rfl, h1, h3, h2⟩ := h
    rw [List.length_cons] at hl
    unfold LieA
    refine ⟨g, off, rfl, rfl, by simpa using hl, hA, hg, ?_, Sh.lie hA hg h2 (by omega) fun t u hu => ?_⟩
    · unfold LieT
      exact ⟨hs, a, l, c, hc 0 _ rfl, hc 1 _ rfl, hc 2 _ rfl, hc 3 _ rfl, h1, h3⟩
    · rw [show off + 4 + t = off + (t + 4) by omega]
      exact hc (t + 4) u (by simpa using hu)

set_option linter.unusedSimpArgs false

def lenS (P : List Ct) : Nat := (P.map (·.l)).sum

theorem lenS_take {P : List Ct} {i : Nat} {x : Ct} (h : P[i]? = some x) : lenS (P.take (i + 1)) = lenS (P.take i) + x.l := by
  unfold lenS
  rw [List.take_add_one, h, Option.toList_some, List.map_append, List.sum_append]
  simp

theorem lenS_le (P : List Ct) (i : Nat) : lenS (P.take i) ≤ lenS P := by
  have : lenS P = lenS (P.take i) + lenS (P.drop i) := by
    unfold lenS
    rw [← List.sum_append, ← List.map_append, List.take_append_drop]
  omega

theorem flat_take1 {P : List Ct} {i : Nat} {x : Ct} (h : P[i]? = some x) : (P.take (i + 1)).flatMap (·.L) = (P.take i).flatMap (·.L) ++ x.L := by
  rw [List.take_add_one, h, Option.toList_some, List.flatMap_append]
  simp

set_option linter.unusedSimpArgs false

/-- What is counted: x's row, and y's behind its first values. -/
def joinC (k : Nat) (x y : Ct) (M : Ct) : Prop := M.L = x.L ++ y.L.drop k ∧ M.n = x.n * y.n

theorem lie_drop {A : Nat → Prop} {w : World} {L : List T} {b off l : Nat} (h : LieA A w L (some ⟨b, off, none⟩) l) {k : Nat} (hk : k < l) : LieA A w (L.drop k) (some ⟨b, off + k * 4, none⟩) (l - k) := by
  induction L generalizing off l k with
  | nil => unfold LieA at h; omega
  | cons t ts ih =>
    cases k with
    | zero => simpa using h
    | succ k =>
      unfold LieA at h
      obtain ⟨b', off', e, hl, hm, hA, hb, hT, hS⟩ := h
      simp only [Option.some.injEq, Addr.mk.injEq, and_true] at e
      obtain ⟨rfl, rfl⟩ := e
      have h1 := ih hS (k := k) (by omega)
      rw [List.drop_succ_cons, show off + (k + 1) * 4 = off + 4 + k * 4 by omega, show l - (k + 1) = ts.length - k by omega]
      exact h1

/-- What Concat leaves is a row. -/
theorem conc_row (A : Nat → Prop) {w : World} {B l : Nat} {v : Value} {cs : List Value} {L : List T} (h : w.ownsRow B 51 4 v l cs) (hs : Sh A w L cs) (hl : L.length = l) (hA : ∀ g, B ≤ g → A g) : ∃ a c, v = .slice a l c ∧ LieA A w L a l := by
  rcases h.2 with ⟨h0, h1⟩ | ⟨g, cap, cur, h0, h1, h2, h3, h4, h5, h6⟩
  · subst h1
    have : L = [] := List.length_eq_zero_iff.1 hl
    subst this
    exact ⟨none, 0, h0, by unfold LieA; rfl⟩
  · refine ⟨some ⟨g, 0, none⟩, cap, h0, ?_⟩
    have hm : maxLen ≤ 9223372036854775807 := by unfold maxLen; decide
    have h7 := Sh.lie (off := 0) (hA g h1) (blkB_lt h2) hs (by omega) fun t u hu => by
      rw [Nat.zero_add, cell_of h2, ← Array.getElem?_toList]
      have ht : t < cs.length := (List.getElem?_eq_some_iff.1 hu).1
      rw [← h6, List.getElem?_take] at hu
      split at hu
      · exact hu
      · cases hu
    rw [hl] at h7
    exact h7

theorem lie_end {A : Nat → Prop} {w : World} {L : List T} {a a' : Option Addr} {l k : Nat} (h : LieA A w L a l) (hk : l ≤ k) : LieA A w (L.drop k) a' (l - k) := by
  have h1 := (LieA.lies _ _ _ h).length.1
  rw [List.drop_eq_nil_of_le (by omega)]
  unfold LieA
  omega

set_option linter.unusedSimpArgs false

set_option linter.unusedSimpArgs false

set_option linter.unusedSimpArgs false

def joinP (k : Nat) (p : Ct × Ct) : Cn := (p.1.L ++ p.2.L.drop k, p.1.n * p.2.n)

/-- The memory while the pairs are counted. -/
def JIn (T0 bo bc : Nat) (k : Nat) (W1 : World) (d : List (Ct × Ct)) (W : World) : Prop := ∃ M v, M.map Ct.cn = d.map (joinP k) ∧ TInv T0 bo M W v ∧ TStep bo (.slice none 0 0) v W1 W ∧ W.heap[bc]? = some (.cells #[.func (.func 46) #[] #[.pointer (some ⟨bo, 0, none⟩)]] 67 (0, 0))

def JFr (bo : Nat) (j : Nat) (d : List (Ct × Ct)) (W : World) : Prop := j ≠ bo ∧ ∀ v, W.heap[bo]? = some (.cells #[v] 26 (0, 0)) → v.ownBlock ≠ some j

theorem box_one {W : World} {bo : Nat} {v v' : Value} {t : TypeId} (h : W.heap[bo]? = some (.cells #[v] t (0, 0))) (h' : W.heap[bo]? = some (.cells #[v'] t (0, 0))) : v = v' := by
  rw [h] at h'
  injection h' with h'
  injection h' with h'
  simpa using h'

theorem jin_below {T0 bo bc k : Nat} {W1 W W' : World} {d : List (Ct × Ct)} (h : JIn T0 bo bc k W1 d W) (kb : Below W.heap.size W W') : JIn T0 bo bc k W1 d W' := by
  obtain ⟨M, v, h1, h2, h3, h4⟩ := h
  exact ⟨M, v, h1, h2.below kb, h3.trans (TStep.below kb), (kb.block bc (blkB_lt h4)).trans h4⟩

theorem jfr_new {T0 bo bc k : Nat} {W1 W : World} {d : List (Ct × Ct)} (o : Obj) (h : JIn T0 bo bc k W1 d W) : JFr bo W.heap.size d (W.alloc o) := by
  obtain ⟨M, v, h1, h2, h3, h4⟩ := h
  have hb := blkB_lt h2.box
  refine ⟨by omega, fun v' hv' e => ?_⟩
  have e1 := box_one ((Below.heap_alloc W o bo hb).trans h2.box) hv'
  subst e1
  have := (rowLt h2.row e).2
  omega

theorem jfr_below {T0 bo bc k : Nat} {W1 W W' : World} {d : List (Ct × Ct)} {j : Nat} (h : JIn T0 bo bc k W1 d W) (hf : JFr bo j d W) (kb : Below W.heap.size W W') : JFr bo j d W' := by
  obtain ⟨M, v, h1, h2, h3, h4⟩ := h
  exact ⟨hf.1, fun v' hv' => hf.2 v' ((kb.block bo (blkB_lt h2.box)).symm.trans hv')⟩

/-- A count that Join takes. -/
structure JoinOk (w : World) (k : Nat) (x : Ct) : Prop where
  row : RowOk w k x
  len : x.l ≤ 30
  wt : wtL x.L ≤ 274877906944
  inl : InL x.L

theorem wtL_append : ∀ (L M : List T), wtL (L ++ M) ≤ wtL L + wtL M
  | [], M => by simp
  | t :: ts, M => by
    have := wtL_append ts M
    have e1 : wtL (t :: ts) = wtT t + wtL ts := by rw [wtL]
    have e2 : wtL (t :: (ts ++ M)) = wtT t + wtL (ts ++ M) := by rw [wtL]
    rw [List.cons_append, e1, e2]
    omega

theorem wtL_drop : ∀ (L : List T) (k : Nat), wtL (L.drop k) ≤ wtL L
  | [], k => by simp
  | t :: ts, 0 => by simp
  | t :: ts, k + 1 => by
    have := wtL_drop ts k
    rw [List.drop_succ_cons]
    have e : wtL (t :: ts) = wtT t + wtL ts := by rw [wtL]
    rw [e]
    omega

theorem inL_iff : ∀ L : List T, InL L ↔ ∀ t ∈ L, InT t
  | [] => by simp [InL]
  | t :: ts => by
    have := inL_iff ts
    simp [InL, this]

theorem absS_bound (b : Nat) : ∀ M : List Ct, (∀ x ∈ M, x.n.natAbs ≤ b) → absS M ≤ M.length * b
  | [], _ => by simp [absS]
  | x :: M, h => by
    have h1 := absS_bound b M fun y hy => h y (List.mem_cons_of_mem _ hy)
    have h2 := h x (List.mem_cons_self ..)
    show x.n.natAbs + absS M ≤ (M.length + 1) * b
    rw [Nat.add_mul]
    omega

set_option linter.unusedSimpArgs false

set_option linter.unusedSimpArgs false

theorem cntE_zero : ∀ (O : List (Ct × Int)) (p : Option Ct), cntE p O = 0 → ∀ x e, (x, e) ∈ O → e = 0 ∧ SmallN x
  | [], _, _, x, e, h => by cases h
  | (y, f) :: O, p, h0, x, e, h => by
    unfold cntE at h0
    split at h0
    · rename_i h1
      exact absurd h0 h1
    · rename_i h1
      split at h0
      · cases h0
      · rename_i h2
        split at h0
        · cases h0
        · rename_i h3
          rcases List.mem_cons.1 h with h | h
          · injection h with e1 e2
            subst e1 e2
            have h4 : x.n ≠ 0 := fun e => h2 (by simp [badC, e])
            exact ⟨by omega, h4, by omega, by omega⟩
          · exact cntE_zero O (some y) h0 x e h

theorem bagE_zero {O : List (Ct × Int)} (h : bagE O = 0) : O.length ≤ 2000 ∧ ∀ x e, (x, e) ∈ O → e = 0 ∧ SmallN x := by
  unfold bagE at h
  split at h
  · cases h
  · rename_i h1
    exact ⟨by omega, cntE_zero O none h⟩

/-- What Join is handed, where nothing is wrong with it. -/
theorem joinE_zero {X Y : List (Ct × Int)} {k : Int} (h : joinE X Y k = 0) : (0 ≤ k ∧ k ≤ 30) ∧ (∀ x e, (x, e) ∈ X → k ≤ x.l) ∧ (∀ x e, (x, e) ∈ Y → k ≤ x.l) ∧ X.length * Y.length ≤ 20000 ∧ bagE X = 0 ∧ bagE Y = 0 := by
  unfold joinE at h
  split at h
  · cases h
  · rename_i h1
    split at h
    · cases h
    · rename_i h2
      split at h
      · cases h
      · rename_i h3
        have h4 : bagE X = 0 := by
          split at h
          · assumption
          · exact h
        rw [if_pos h4] at h
        simp only [Bool.or_eq_true, List.any_eq_true, List.mem_map, not_or, not_exists, not_and, shortC, decide_eq_true_eq] at h2
        refine ⟨by omega, fun x e hx => ?_, fun x e hx => ?_, ?_, h4, h⟩
        · have := h2.1 x ⟨(x, e), hx, rfl⟩
          omega
        · have := h2.2 x ⟨(x, e), hx, rfl⟩
          omega
        · by_cases hx0 : 0 < X.length
          · have h5 : Y.length ≤ 20000 / X.length := by omega
            exact Nat.le_trans (Nat.mul_le_mul_left _ h5) (Nat.mul_div_le _ _)
          · have : X.length = 0 := by omega
            rw [this]
            omega

/-- What Join answers. -/
def JoinEnd (w w' : World) (X Y : List (Ct × Int)) (k : Int) (e : Ending) : Prop :=
  (joinE X Y k ≠ 0 ∧ e = .returned (.tuple #[.slice none 0 0, .int .i64 (joinE X Y k)])) ∨ (joinE X Y k = 0 ∧ (((meetL k.toNat (X.map (·.1)) (Y.map (·.1))).any overC = true ∧ e = .returned (.tuple #[.slice none 0 0, .int .i64 9])) ∨ ((meetL k.toNat (X.map (·.1)) (Y.map (·.1))).any overC = false ∧ ∃ B1, w.heap.size ≤ B1 ∧ TalEnd B1 w' ((meetL k.toNat (X.map (·.1)) (Y.map (·.1))).map (joinP k.toNat)) e)))

set_option linter.unusedSimpArgs false

/-- What is asked of a bag's rows besides: those that are right are no heavier than that. -/
def RowsIn (X : List (Ct × Int)) : Prop := ∀ x e, (x, e) ∈ X → x.l ≤ x.c ∧ InL x.L ∧ (e = 0 → x.l ≤ 30 ∧ wtL x.L ≤ 274877906944)

theorem ValsAt.below {w w' : World} (k : Below w.heap.size w w') {a : Option Addr} {l : Nat} {es : List Int} (h : ValsAt w a l es) : ValsAt w' a l es := by
  obtain ⟨h1, h2, h3⟩ := h
  refine ⟨h1, h2, fun i e he => ?_⟩
  obtain ⟨b, off, e1, hb, kk, n, s, a', l', c', p0, p1, p2, p3, hv⟩ := h3 i e he
  exact ⟨b, off, e1, Nat.lt_of_lt_of_le hb k.size, kk, n, s, a', l', c', (k.cell hb).trans p0, (k.cell hb).trans p1, (k.cell hb).trans p2, (k.cell hb).trans p3, fun w2 k2 => hv w2 (k.trans (k2.mono k.size))⟩

theorem BagIn.below {w w' : World} (k : Below w.heap.size w w') {X : List (Ct × Int)} {a : Option Addr} {l : Nat} (h : BagIn w X a l) : BagIn w' X a l :=
  ⟨h.at'.below k, fun x e hx => by
    obtain ⟨h1, es, h2, h3, h4⟩ := h.rows x e hx
    exact ⟨LiesS.below k _ _ _ h1, es, h2.below k, h3, h4⟩⟩

/-- The memory while products are held against the bound. -/
def OIn (bv : Nat) (W4 : World) (d : List (Ct × Ct)) (W : World) : Prop := W.heap[bv]? = some (.cells #[.bool (d.any overC)] 4 (0, 0)) ∧ W.os = W4.os ∧ W.tape = W4.tape ∧ W.output = W4.output ∧ W4.heap.size ≤ W.heap.size ∧ ∀ j, j < W4.heap.size → j ≠ bv → W.heap[j]? = W4.heap[j]?

theorem over_not {p : Ct × Ct} (h : overC p = false) (hy : SmallN p.2) : p.1.n.natAbs * p.2.n.natAbs ≤ 1099511627776 := by
  have h1 : ¬ (((1099511627776 / p.2.n.natAbs : Nat) : Int) < (p.1.n.natAbs : Int)) := by simpa [overC] using h
  have h2 : p.1.n.natAbs ≤ 1099511627776 / p.2.n.natAbs := by omega
  have h3 := Nat.mul_le_mul_right p.2.n.natAbs h2
  exact Nat.le_trans h3 (Nat.div_mul_le_self _ _)

set_option linter.unusedSimpArgs false

theorem mem_fst {X : List (Ct × Int)} {x : Ct} (h : x ∈ X.map (·.1)) : ∃ e, (x, e) ∈ X := by
  obtain ⟨⟨y, e⟩, h1, rfl⟩ := List.mem_map.1 h
  exact ⟨e, h1⟩

set_option linter.unusedSimpArgs false

set_option maxHeartbeats 4000000 in
set_option maxRecDepth 100000 in
theorem numB_any (n : Int) (w : World) :
    Calls Tryd.prog 22 #[.int .i64 n] w fun e w' => e = .returned (.agg #[.int .i64 2, .int .i64 n, .string ⟨#[]⟩, .slice none 0 0]) ∧ Below w.heap.size w w' := by
  have HB : Hid (Below w.heap.size w (w.alloc (.cells #[.int .i64 2, .int .i64 n, .string ⟨#[]⟩, .slice none 0 0] 51))) := (Below.refl _ _).alloc (Nat.le_refl _) _
  go_enter Tryd.func22, Tryd.ntmps22
  go_wp2_with fail
  exact bodyPost_ret (v := .agg #[.int .i64 2, .int .i64 n, .string ⟨#[]⟩, .slice none 0 0]) (by simp [results, Tryd.results22, go_sem]) rfl ⟨rfl, HB.out⟩

set_option linter.unusedSimpArgs false

/-- A row that may stand in a bag. -/
def RightR (L : List T) : Prop := L.length ≤ 30 ∧ (∀ t ∈ L, Ck 6 t) ∧ InL L

/-- A right bag. -/
structure Fit (X : List Cn) : Prop where
  len : X.length ≤ 2000
  bag : IsBag X
  rows : ∀ c ∈ X, RightR c.1
  small : ∀ c ∈ X, -1099511627776 ≤ c.2 ∧ c.2 ≤ 1099511627776

theorem wtL_leB {m : Nat} : ∀ L : List T, (∀ t ∈ L, wtT t ≤ m) → wtL L ≤ L.length * m + 1
  | [], _ => by unfold wtL; omega
  | t :: ts, h => by
    have h1 := h t (List.mem_cons_self ..)
    have h2 := wtL_leB ts fun u hu => h u (List.mem_cons_of_mem _ hu)
    unfold wtL
    rw [List.length_cons, Nat.add_mul]
    omega

theorem RightR.wt {L : List T} (h : RightR L) : wtL L ≤ 274877906944 := by
  have e : 2 * 32 ^ 6 = 2147483648 := by decide
  have h1 := wtL_leB (m := 2147483648) L fun t ht => by have := ck_wt 6 t (h.2.1 t ht); omega
  have h2 : L.length * 2147483648 ≤ 30 * 2147483648 := Nat.mul_le_mul_right _ h.1
  omega

theorem RowTold.inl {L : List T} {e : Int} (h : RowTold L e) : InL L := by
  obtain ⟨_, _, _, _, _, _, _, h, _⟩ := h
  exact h

theorem cntE_ok : ∀ (O : List (Ct × Int)) (p : Option Ct), ((O.map fun y => y.1.cn).Pairwise fun x y => ordL x.1 y.1 < 0) → (∀ q, p = some q → ∀ x e, (x, e) ∈ O → ordL q.L x.L < 0) → (∀ x e, (x, e) ∈ O → e = 0 ∧ SmallN x) → cntE p O = 0
  | [], _, _, _, _ => rfl
  | (y, f) :: O, p, hp, hq, h => by
    obtain ⟨hf, hn0, h1, h2⟩ := h y f (List.mem_cons_self ..)
    have hb : badC p y = false := by
      unfold badC
      cases p with
      | none => simp [hn0]
      | some q =>
        have := hq q rfl y f (List.mem_cons_self ..)
        simp only [Bool.or_eq_false_iff, beq_eq_false_iff_ne, ne_eq, decide_eq_false_iff_not]
        exact ⟨hn0, by omega⟩
    rw [List.map_cons, List.pairwise_cons] at hp
    unfold cntE
    rw [if_neg (by simp [hf]), hb, if_neg (by simp), if_neg (by omega)]
    refine cntE_ok O (some y) hp.2 (fun q hq' x e hx => ?_) (fun x e hx => h x e (List.mem_cons_of_mem _ hx))
    injection hq' with e1
    subst e1
    exact hp.1 x.cn (List.mem_map.2 ⟨(x, e), hx, rfl⟩)

/-- Nothing is told of a bag just if it is right. -/
theorem fit_iff {O : List (Ct × Int)} (h : ∀ x e, (x, e) ∈ O → RowTold x.L e) : bagE O = 0 ↔ Fit (O.map fun y => y.1.cn) := by
  constructor
  · intro h0
    obtain ⟨hl, ha⟩ := bagE_zero h0
    refine ⟨by rw [List.length_map]; exact hl, ⟨?_, fun c hc => ?_⟩, fun c hc => ?_, fun c hc => ?_⟩
    · have hc : cntE none O = 0 := by
        unfold bagE at h0
        rw [if_neg (by omega)] at h0
        exact h0
      have key : ∀ (O : List (Ct × Int)) (p : Option Ct), cntE p O = 0 → ((O.map fun y => y.1.cn).Pairwise fun x y => ordL x.1 y.1 < 0) ∧ ∀ q, p = some q → ∀ x e, (x, e) ∈ O → ordL q.L x.L < 0 := by
        intro O
        induction O with
        | nil => exact fun p _ => ⟨List.Pairwise.nil, fun q _ x e hx => by cases hx⟩
        | cons y O ih =>
          obtain ⟨y, f⟩ := y
          intro p h0
          unfold cntE at h0
          split at h0
          · rename_i h1
            exact absurd h0 h1
          · split at h0
            · cases h0
            · rename_i h2
              split at h0
              · cases h0
              · obtain ⟨i1, i2⟩ := ih _ h0
                have hpy : ∀ q, p = some q → ordL q.L y.L < 0 := fun q hq => by
                  subst hq
                  simp only [badC, Bool.or_eq_true, decide_eq_true_eq, not_or] at h2
                  omega
                refine ⟨?_, fun q hq x e hx => ?_⟩
                · rw [List.map_cons, List.pairwise_cons]
                  refine ⟨fun c hc => ?_, i1⟩
                  obtain ⟨⟨x, e⟩, hx, rfl⟩ := List.mem_map.1 hc
                  exact i2 y rfl x e hx
                · rcases List.mem_cons.1 hx with hx | hx
                  · injection hx with e1 e2
                    subst e1
                    exact hpy q hq
                  · exact ordL_lt_trans (hpy q hq) (i2 y rfl x e hx)
      exact (key O none hc).1
    · obtain ⟨⟨x, e⟩, hx, rfl⟩ := List.mem_map.1 hc
      exact (ha x e hx).2.1
    · obtain ⟨⟨x, e⟩, hx, rfl⟩ := List.mem_map.1 hc
      have ht := h x e hx
      exact ⟨(ht.zero.1 (ha x e hx).1).1, (ht.zero.1 (ha x e hx).1).2, ht.inl⟩
    · obtain ⟨⟨x, e⟩, hx, rfl⟩ := List.mem_map.1 hc
      exact (ha x e hx).2.2
  · intro hf
    unfold bagE
    have hl := hf.len
    rw [List.length_map] at hl
    rw [if_neg (by omega)]
    refine cntE_ok O none hf.bag.rises (fun q hq => by cases hq) fun x e hx => ?_
    have hm : x.cn ∈ O.map fun y => y.1.cn := List.mem_map.2 ⟨(x, e), hx, rfl⟩
    have hr := hf.rows _ hm
    exact ⟨(h x e hx).zero.2 ⟨hr.1, hr.2.1⟩, hf.bag.nz _ hm, (hf.small _ hm).1, (hf.small _ hm).2⟩

/-- A right bag lies there. -/
def RB (w : World) (X : List Cn) (a : Option Addr) (l : Nat) : Prop := Fit X ∧ ∃ M : List (Ct × Int), (M.map fun y => y.1.cn) = X ∧ BagIn w M a l ∧ RowsIn M ∧ bagE M = 0

theorem RB.below {w w' : World} (k : Below w.heap.size w w') {X : List Cn} {a : Option Addr} {l : Nat} (h : RB w X a l) : RB w' X a l := by
  obtain ⟨hf, M, h1, h2, h3, h4⟩ := h
  exact ⟨hf, M, h1, h2.below k, h3, h4⟩

/-- What may be said of a right bag's counts. -/
theorem RB.cts {w : World} {X : List Cn} {a : Option Addr} {l : Nat} (h : RB w X a l) : ∃ F : List Ct, F.map Ct.cn = X ∧ CtsAt w F a l ∧ l = X.length ∧ ∀ x ∈ F, LiesS w x.L x.a x.l ∧ x.l ≤ x.c ∧ x.l ≤ 30 ∧ RightR x.L ∧ SmallN x ∧ wtL x.L ≤ 274877906944 := by
  obtain ⟨hf, M, h1, h2, h3, h4⟩ := h
  refine ⟨M.map (·.1), by rw [List.map_map]; exact h1, h2.at', by rw [h2.at'.1, ← h1, List.length_map, List.length_map], fun x hx => ?_⟩
  obtain ⟨e, he⟩ := mem_fst hx
  have hr := hf.rows x.cn (by rw [← h1]; exact List.mem_map.2 ⟨(x, e), he, rfl⟩)
  have h0 := (bagE_zero h4).2 x e he
  have h5 := h3 x e he
  exact ⟨(h2.rows x e he).1, h5.1, (h5.2.2 h0.1).1, hr, h0.2, (h5.2.2 h0.1).2⟩

/-- Right counts that lie there are a right bag. -/
theorem rb_mk {B : Nat} {w : World} (hB : B ≤ w.heap.size) (hT : Tabs B w) {F : List Ct} {a : Option Addr} {l : Nat} (hf : Fit (F.map Ct.cn)) (hat : CtsAt w F a l) (hl : ∀ x ∈ F, LiesS w x.L x.a x.l ∧ x.l ≤ x.c) : RB w (F.map Ct.cn) a l := by
  have hr : ∀ x ∈ F, RightR x.L := fun x hx => hf.rows x.cn (List.mem_map.2 ⟨x, hx, rfl⟩)
  obtain ⟨O, o1, o2, o3⟩ := told_all B w hB hT F fun x hx => ⟨(hl x hx).1, (hr x hx).2.2, by have := (hr x hx).wt; omega⟩
  have e : (O.map fun y => y.1.cn) = F.map Ct.cn := by rw [← o1, List.map_map]; rfl
  refine ⟨hf, O, e, ⟨by rw [o1]; exact hat, o2⟩, fun x f hx => ?_, (fit_iff o3).2 (by rw [e]; exact hf)⟩
  have hm : x ∈ F := by rw [← o1]; exact List.mem_map.2 ⟨_, hx, rfl⟩
  refine ⟨(hl x hm).2, (hr x hm).2.2, fun _ => ⟨?_, (hr x hm).wt⟩⟩
  rw [(hl x hm).1.length.1]
  exact (hr x hm).1

/-- What tally answers, in plain words: the bag of what was counted, where that is right. -/
theorem tal_end {B B1 : Nat} {w' : World} (hB : B ≤ w'.heap.size) (hT : Tabs B w') {Ls : List Cn} {e : Ending} (h : TalEnd B1 w' Ls e) :
    ∃ X, IsBag X ∧ (∀ r, cnt X r = cnt Ls r) ∧ ((Fit X ∧ ∃ a l c, e = .returned (.tuple #[.slice a l c, .int .i64 0]) ∧ RB w' X a l) ∨ (¬ Fit X ∧ ∃ z, z ≠ 0 ∧ e = .returned (.tuple #[.slice none 0 0, .int .i64 z]))) := by
  obtain ⟨O, h1, h2, h3, h4⟩ := h
  refine ⟨O.map fun y => y.1.cn, h1, h2, ?_⟩
  have hi := fit_iff fun x e hx => (h3 x e hx).1
  rcases h4 with ⟨h4, rfl⟩ | ⟨h4, v, rfl, P, hP, hp⟩
  · exact .inr ⟨fun hf => h4 (hi.2 hf), _, h4, rfl⟩
  · have hf := hi.1 h4
    obtain ⟨a, l, c, rfl⟩ : ∃ a l c, v = .slice a l c := by
      rcases hP.2 with ⟨h0, _⟩ | ⟨g', cap', cur, h0, _⟩
      · exact ⟨_, _, _, h0⟩
      · exact ⟨_, _, _, h0⟩
    have hpl : P.length = O.length := by rw [hp.1, List.length_map]
    have hol : O.length ≤ 2000 := (bagE_zero h4).1
    have e : P.map Ct.cn = O.map fun y => y.1.cn := by
      refine List.ext_getElem? fun i => ?_
      rw [List.getElem?_map, List.getElem?_map]
      cases hx : P[i]? with
      | none =>
        have := List.getElem?_eq_none_iff.1 hx
        rw [List.getElem?_eq_none (by omega)]
        rfl
      | some p =>
        obtain ⟨x, hx2, hR⟩ := hp.left hx
        rw [List.getElem?_map] at hx2
        obtain ⟨y, hy, rfl⟩ := Option.map_eq_some_iff.1 hx2
        rw [hy]
        show some (p.L, p.n) = some (y.1.L, y.1.n)
        rw [hR.1, hR.2.1]
    refine .inl ⟨hf, a, l, c, rfl, ?_⟩
    rw [← e]
    refine rb_mk hB hT (by rw [e]; exact hf) (ctsOwn hP (by omega)) fun x hx => ?_
    obtain ⟨i, hi, hx⟩ := List.getElem_of_mem hx
    obtain ⟨y, hy, hR⟩ := hp.left (List.getElem?_eq_some_iff.2 ⟨hi, hx⟩)
    refine ⟨?_, hR.2.2.2.1⟩
    rw [hR.2.1]
    exact LieA.lies _ _ _ hR.2.2.2.2
end Go.Proofs.YtmjeanpjiogkiaaDoor
