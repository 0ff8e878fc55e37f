/-
  What is proved here: what the texts BDelF, GCheck3, GAround, GSlices prove, in one text.
-/
import Derived.Test.YtcfifihlfomccaaDoorQBAH
import Derived.Test.YtcfifihlfomccaaDoorQBAD
import Derived.Deep.AppendLies
import Derived.Deep.QuietTactic
import Derived.BigQuiet
namespace Go.Proofs.YtcfifihlfomccaaDoor
open Go.RowKit
set_option linter.unusedVariables false

set_option linter.unusedSimpArgs false

theorem setCells_putB (b : Nat) : ∀ (vs : List Value) (o : Nat) (w : World), w.setCells b o vs = putL w b o vs
  | [], _, _ => rfl
  | v :: vs, o, w => setCells_putB b vs (o + 1) _

theorem setL_sizeB : ∀ (vs : List Value) (o : Nat) (cs : Array Value), (setL cs o vs).size = cs.size
  | [], _, _ => rfl
  | v :: vs, o, cs => by
    show (setL (cs.setIfInBounds o v) (o + 1) vs).size = _
    rw [setL_sizeB vs]
    simp

theorem setL_takeB : ∀ (vs : List Value) (o m : Nat) (cs : Array Value), m ≤ o → (setL cs o vs).toList.take m = cs.toList.take m
  | [], _, _, _, _ => rfl
  | v :: vs, o, m, cs, h => by
    show (setL (cs.setIfInBounds o v) (o + 1) vs).toList.take m = _
    rw [setL_takeB vs (o + 1) m _ (by omega), Array.toList_setIfInBounds, List.take_set_of_le h]

/-- The end of a row of one's own is written over, and the row cut there. -/
theorem own_clear {w : World} {B g n cap i : Nat} {R : List Ct} (h : w.ownsRow B 39 2 (.slice (some ⟨g, 0, none⟩) n cap) n (ctRow R)) (hR : R.length = n) (hi : i ≤ n) (zs : List Value) :
    (w.setCells g (i * 2) zs).ownsRow B 39 2 (.slice (some ⟨g, 0, none⟩) i cap) i (ctRow (R.take i)) := by
  obtain ⟨_, h⟩ := h
  refine ⟨by rw [ctRow_len, List.length_take, hR, Nat.min_eq_left hi], .inr ?_⟩
  rcases h with ⟨h0, h1⟩ | ⟨g', cap', cur, h0, h1, h2, h3, h4, h5, h6⟩
  · cases h0
  · injection h0 with e1 _ e3
    injection e1 with e1
    injection e1 with e1
    subst e1 e3
    refine ⟨g, cap, _, rfl, h1, by rw [setCells_putB]; exact putL_here zs (i * 2) w cur h2, by omega, h4, by rw [setL_sizeB, h5], ?_⟩
    rw [setL_takeB _ _ _ _ (Nat.le_refl _), ← ctRow_take R i (by omega), ← h6, List.take_take, Nat.min_eq_left (Nat.mul_le_mul_right 2 hi)]

theorem zero_one (m : Nat) : ∀ v ∈ (Builtin.zeroCells (.agg #[.slice none 0 0, .int .i64 0] : Value).cells m).toList, v.oneCell' = true := by
  intro v hv
  have e : (.agg #[.slice none 0 0, .int .i64 0] : Value).cells = #[.slice none 0 0, .int .i64 0] := by simp [Value.cells]
  rw [e] at hv
  simp [Builtin.zeroCells] at hv
  obtain ⟨k, _, rfl⟩ := hv
  have : k % 2 = 0 ∨ k % 2 = 1 := by omega
  rcases this with h | h <;> simp [h, Value.oneCell']

theorem zero_len (m : Nat) : (Builtin.zeroCells (.agg #[.slice none 0 0, .int .i64 0] : Value).cells m).toList.length = m * 2 := by
  have e : (.agg #[.slice none 0 0, .int .i64 0] : Value).cells = #[.slice none 0 0, .int .i64 0] := by simp [Value.cells]
  rw [e]
  simp [Builtin.zeroCells]

theorem clear_run (w : World) (B g n cap i : Nat) (R : List Ct) (h : w.ownsRow B 39 2 (.slice (some ⟨g, 0, none⟩) n cap) n (ctRow R)) (hi : i < n) (ty : TypeId) (c' : Nat) :
    ∃ zs, (Builtin.clear_ #[23] ty #[.slice (some ⟨g, i * 2, none⟩) (n - i) c']).run Tryd.prog w = .ok (.tuple #[]) (w.setCells g (i * 2) zs) := by
  refine ⟨(Builtin.zeroCells (.agg #[.slice none 0 0, .int .i64 0] : Value).cells (n - i)).toList, ?_⟩
  obtain ⟨cur, hblk, hnc, hsz⟩ : ∃ cur, w.heap[g]? = some (.cells cur 39 (0, 0)) ∧ n ≤ cap ∧ cur.size = cap * 2 := by
    rcases h.2 with ⟨h0, _⟩ | ⟨g', cap', cur, h0, _, h2, h3, h4, h5, h6⟩
    · cases h0
    · injection h0 with e1 _ e3
      injection e1 with e1
      injection e1 with e1
      subst e1 e3
      exact ⟨cur, h2, h3, h5⟩
  have hst := run_storeCells_cells (P := Tryd.prog) g (i * 2) (Builtin.zeroCells (.agg #[.slice none 0 0, .int .i64 0] : Value).cells (n - i)).toList 0 w (fun j hj => by
      rw [cell_of hblk]
      rw [zero_len] at hj
      have hq : i * 2 + 0 + j < cur.size := by rw [hsz]; omega
      rw [Array.getElem?_eq_getElem hq]
      rfl) (fun j hj => free_of hblk _) (zero_one _)
  simp only [Nat.add_zero] at hst
  obtain ⟨m, hm⟩ : ∃ m, n - i = m + 1 := ⟨n - i - 1, by omega⟩
  rw [hm] at hst ⊢
  simp [Builtin.clear_, run_underlying Tryd.underlying23, Tryd.zeroValue39, hst]

theorem take_put {R O : List Ct} {i j : Nat} {x : Ct} (hi : i < R.length) (ht : R.take i = nzC (O.take j)) (hx : O[j]? = some x) (hn : x.n ≠ 0) : (R.set i x).take (i + 1) = nzC (O.take (j + 1)) := by
  rw [nz_snoc O j x hx, if_neg hn, ← ht, List.take_add_one, List.getElem?_set_self hi, List.take_set_of_le (Nat.le_refl _)]
  rfl

theorem first_nz : ∀ O : List Ct, (∀ x ∈ O, x.n ≠ 0) ∨ ∃ k : Nat, k < O.length ∧ (∃ x, O[k]? = some x ∧ x.n = 0) ∧ ∀ i y, i < k → O[i]? = some y → y.n ≠ 0
  | [] => .inl fun x hx => by cases hx
  | x :: O => by
    by_cases hx : x.n = 0
    · exact .inr ⟨0, by simp, ⟨x, rfl, hx⟩, fun i y hi => by omega⟩
    · rcases first_nz O with h | ⟨k, hk, ⟨z, hz, hz0⟩, hu⟩
      · refine .inl fun y hy => ?_
        rcases List.mem_cons.1 hy with rfl | hy
        · exact hx
        · exact h y hy
      · refine .inr ⟨k + 1, by simp; omega, ⟨z, by simpa using hz, hz0⟩, fun i y hi hy => ?_⟩
        cases i with
        | zero => simp at hy; rw [← hy]; exact hx
        | succ i => exact hu i y (by omega) (by simpa using hy)

theorem nz_self {O : List Ct} (h : ∀ x ∈ O, x.n ≠ 0) : nzC O = O := List.filter_eq_self.2 fun x hx => by simp [h x hx]

/-- Where a round of the deletion stands. -/
def DelAt (w : World) (B g n cap : Nat) (O : List Ct) (i j : Nat) (wr : World) : Prop := i < j ∧ j ≤ n ∧ Below B w wr ∧ ∃ R : List Ct, R.length = n ∧ R.take i = nzC (O.take j) ∧ R.drop j = O.drop j ∧ wr.ownsRow B 39 2 (.slice (some ⟨g, 0, none⟩) n cap) n (ctRow R)

set_option maxHeartbeats 4000000 in
set_option maxRecDepth 100000 in
theorem del_ok : DelOk := by
  intro w B v O hown hlen hBw
  obtain ⟨F, hF⟩ : ∃ F, F = O.filter fun c => !(c.n == 0) := ⟨_, rfl⟩
  rw [← hF]
  have HF := toHid hF
  clear hF
  have HOWN := toHid hown
  clear hown
  rcases first_nz O with hall | ⟨k, hk, hx, hu⟩
  · have HFO : Hid (F = O) := by
      show F = O
      rw [HF.out]
      exact nz_self hall
    obtain ⟨va, n, cap, rfl⟩ : ∃ va n cap, v = .slice va n cap := by
      rcases HOWN.out.2 with ⟨h0, _⟩ | ⟨g', cap', cur, h0, _⟩
      · exact ⟨_, _, _, h0⟩
      · exact ⟨_, _, _, h0⟩
    have HC := toHid (idxC_any O va n cap (-1) w (ctsOwn HOWN.out hlen) (.inl ⟨rfl, hall⟩))
    clear hall
    have HLT : Hid (∀ g, (Value.slice va n cap).ownBlock = some g → g < w.heap.size) := fun g hg => (rowLt HOWN.out hg).2
    go_enter Tryd.func67, Tryd.ntmps67
    go_wp2_with fail
    refine HC.out.mono ?_
    rintro e w1 ⟨rfl, k1⟩
    have HK := toHid k1
    clear k1
    go_wp2_with fail
    go_ret
    refine ⟨_, rfl, ?_, ?_⟩
    · rw [HFO.out]
      exact rowK1 HOWN.out fun g hg => HK.out.block g (HLT.out g hg)
    · exact HK.out.mono hBw
  · obtain ⟨g, cap, rfl, hgB, hgw⟩ := HOWN.out.form (by omega)
    obtain ⟨n, hn⟩ : ∃ n, n = O.length := ⟨_, rfl⟩
    rw [← hn] at hlen hk HOWN ⊢
    have HN := toHid hn
    have HC := toHid (idxC_any O (some ⟨g, 0, none⟩) n cap (k : Int) w (by have h := ctsOwn (by rw [← hn]; exact HOWN.out) (by rw [← hn]; exact hlen); exact h) (.inr ⟨k, rfl, hk, hx, hu⟩))
    have HST : Hid (∀ w1, Below w.heap.size w w1 → DelAt w B g n cap O k (k + 1) w1) := fun w1 k1 => by
      obtain ⟨x, hx1, hx0⟩ := hx
      refine ⟨Nat.lt_succ_self _, hk, k1.mono hBw, O, hn.symm, ?_, rfl, rowK1 HOWN.out fun g' hg' => k1.block g' (rowLt HOWN.out hg').2⟩
      rw [nz_snoc O k x hx1, if_pos hx0]
      refine (nz_self fun y hy => ?_).symm
      obtain ⟨t, ht⟩ := List.getElem?_of_mem hy
      have htk : t < k := by
        have := (List.getElem?_eq_some_iff.1 ht).1
        rw [List.length_take] at this
        omega
      rw [List.getElem?_take, if_pos htk] at ht
      exact hu t y htk ht
    have HX := toHid hx
    clear hx hu HOWN hn
    have hkn : ((k : Int) == -1) = false := by simp
    have hwk : wrap64 ((k : Int) + 1) = ((k + 1 : Nat) : Int) := by unfold wrap64; omega
    go_enter Tryd.func67, Tryd.ntmps67
    go_wp2_with fail
    refine HC.out.mono ?_
    rintro e w1 ⟨rfl, k1⟩
    have HS1 := toHid (HST.out w1 k1)
    clear k1 HST
    go_wp2_with fail
    go_loopg [5, 6] n (fun gq s5 s6 wr => ∃ i j : Nat, n - j ≤ gq ∧ s5 = .int .i64 i ∧ s6 = .int .i64 j ∧ DelAt w B g n cap O i j wr)
    case atStart => exact ⟨k, k + 1, by omega, rfl, rfl, HS1.out⟩
    case round =>
      obtain ⟨i, j, hgq, rfl, rfl, hij, hjn, hbw, R, hRn, hRt, hRd, hrow⟩ := hrel
      have HBW := toHid hbw
      have HROW := toHid hrow
      have HRT := toHid hRt
      have HRD := toHid hRd
      have HRN := toHid hRn
      clear hbw hrow hRt hRd hRn
      by_cases hlt : j < n
      · have hjl : (j : Int) < n := by omega
        obtain ⟨x, hx, _⟩ := drop_get (L := O) (i := j) (by have := HN.out; omega)
        have hxR : R[j]? = some x := by
          have h1 : (R.drop j)[0]? = (O.drop j)[0]? := by rw [HRD.out]
          rw [List.getElem?_drop, List.getElem?_drop] at h1
          exact h1.trans hx
        have d0 : wr.cell? ⟨g, j * 2, none⟩ = some (.slice x.a x.l x.c) := (HROW.out.cellAt (j * 2) (by omega)).trans (ctRow_at R j x hxR).1
        have d1 : wr.cell? ⟨g, j * 2 + 1, none⟩ = some (.int .i64 x.n) := (HROW.out.cellAt (j * 2 + 1) (by omega)).trans (ctRow_at R j x hxR).2
        have HXO := toHid hx
        have HXR := toHid hxR
        clear hx hxR
        have HX1 := toHid (alloc_new wr (cObj x))
        have HB1 := toHid (HBW.out.alloc (Nat.le_trans hBw HBW.out.size) (cObj x))
        have HR1 : Hid ((wr.alloc (cObj x)).ownsRow B 39 2 (.slice (some ⟨g, 0, none⟩) n cap) n (ctRow R)) := rowK1 HROW.out fun g' hg' => Below.heap_alloc _ _ _ (rowLt HROW.out hg').2
        by_cases hz : x.n = 0
        · have HD := toHid (del1_any x true (by simp [hz]) (wr.alloc (cObj x)))
          have HZ := toHid hz
          clear hz
          go_wp2_with fail
          refine HD.out.mono ?_
          rintro e u ⟨rfl, ku⟩
          have HBu := toHid (HB1.out.trans (ku.mono (Nat.le_trans hBw HB1.out.size)))
          have HRu := toHid (rowK1 HR1.out fun g' hg' => ku.block g' (rowLt HR1.out hg').2)
          clear ku d0 d1 HX1 HB1 HR1 HD
          go_wp2_with fail
          go_roundg (n - (j + 1))
          case measure => omega
          case rel =>
            refine ⟨i, j + 1, Nat.le_refl _, rfl, by go_num, by omega, by omega, HBu.out, R, HRN.out, ?_, ?_, HRu.out⟩
            · rw [nz_snoc O j x HXO.out, if_pos HZ.out]
              exact HRT.out
            · have h1 : (R.drop j).drop 1 = (O.drop j).drop 1 := by rw [HRD.out]
              rwa [List.drop_drop, List.drop_drop] at h1
        · have HD := toHid (del1_any x false (by simp [hz]) (wr.alloc (cObj x)))
          have HZ := toHid hz
          clear hz
          have hil : (i : Int) < n := by omega
          go_wp2_with fail
          refine HD.out.mono ?_
          rintro e u ⟨rfl, ku⟩
          have HBu := toHid (HB1.out.trans (ku.mono (Nat.le_trans hBw HB1.out.size)))
          have HRu := toHid (rowK1 HR1.out fun g' hg' => ku.block g' (rowLt HR1.out hg').2)
          have HXu := toHid ((ku.block _ (blkB_lt HX1.out)).trans HX1.out)
          clear ku d0 d1 HX1 HB1 HR1 HD
          generalize wr.heap.size = bx at HXu ⊢
          have y0 := cell_of HXu.out 0
          have y1 := cell_of HXu.out 1
          simp at y0 y1
          have f0 := HRu.out.frozenAt (i * 2)
          have f1 := HRu.out.frozenAt (i * 2 + 1)
          obtain ⟨z0, c0⟩ : ∃ z, u.cell? ⟨g, i * 2, none⟩ = some z := by
            obtain ⟨y, hy⟩ : ∃ y, R[i]? = some y := ⟨R[i]'(by have := HRN.out; omega), List.getElem?_eq_getElem _⟩
            exact ⟨_, (HRu.out.cellAt (i * 2) (by omega)).trans (ctRow_at R i y hy).1⟩
          obtain ⟨z1, c1⟩ : ∃ z, u.cell? ⟨g, i * 2 + 1, none⟩ = some z := by
            obtain ⟨y, hy⟩ : ∃ y, R[i]? = some y := ⟨R[i]'(by have := HRN.out; omega), List.getElem?_eq_getElem _⟩
            exact ⟨_, (HRu.out.cellAt (i * 2 + 1) (by omega)).trans (ctRow_at R i y hy).2⟩
          have HS : Hid (((u.setCell ⟨g, i * 2, none⟩ (.slice x.a x.l x.c)).setCell ⟨g, i * 2 + 1, none⟩ (.int .i64 x.n)).ownsRow B 39 2 (.slice (some ⟨g, 0, none⟩) n cap) n (ctRow (R.set i x))) := by
            have h1 := ((HRu.out.stored (i * 2) (.slice x.a x.l x.c)).1.stored (i * 2 + 1) (.int .i64 x.n)).1
            rw [ctRow_put R i x (by have := HRN.out; omega)] at h1
            exact h1
          have HSB : Hid (Below B w ((u.setCell ⟨g, i * 2, none⟩ (.slice x.a x.l x.c)).setCell ⟨g, i * 2 + 1, none⟩ (.int .i64 x.n))) := (HBu.out.setCell (p := ⟨g, i * 2, none⟩) hgB _).setCell (p := ⟨g, i * 2 + 1, none⟩) hgB _
          clear HBu HRu
          go_wp2_with fail
          go_roundg (n - (j + 1))
          case measure => omega
          case rel =>
            refine ⟨i + 1, j + 1, Nat.le_refl _, by go_num, by go_num, by omega, by omega, HSB.out, R.set i x, by rw [List.length_set]; exact HRN.out, take_put (by have := HRN.out; omega) HRT.out HXO.out HZ.out, ?_, HS.out⟩
            rw [List.drop_set_of_lt (by omega)]
            have h1 : (R.drop j).drop 1 = (O.drop j).drop 1 := by rw [HRD.out]
            rwa [List.drop_drop, List.drop_drop] at h1
      · have he : j = n := by omega
        subst he
        obtain ⟨cz, hcz⟩ : ∃ cz : List Value, Hid (∀ ty, (Builtin.clear_ #[23] ty #[.slice (some ⟨g, i * 2, none⟩) (j - i) (cap - i)]).run Tryd.prog wr = .ok (.tuple #[]) (wr.setCells g (i * 2) cz)) := by
          obtain ⟨zs, hzs⟩ := clear_run wr B g j cap i R HROW.out hij 0 (cap - i)
          exact ⟨zs, fun ty => hzs⟩
        have HCL := toHid (own_clear HROW.out HRN.out (Nat.le_of_lt hij) cz)
        have HCB : Hid (Below B w (wr.setCells g (i * 2) cz)) := by
          have h1 := (putL_bel g cz (i * 2) wr).mono hgB
          rw [← setCells_putB] at h1
          exact HBW.out.trans h1
        have hjc : j ≤ cap := by
          rcases HROW.out.2 with ⟨h0, _⟩ | ⟨g', cap', cur, h0, _, h2, h3, h4, h5, h6⟩
          · cases h0
          · injection h0 with e1 _ e3
            omega
        have HFN : Hid (R.take i = F) := by
          show _ = _
          rw [HRT.out, HF.out, List.take_of_length_le (by have := HN.out; omega)]
        have HLN : Hid (F.length = i) := by
          show _ = _
          rw [← HFN.out, List.length_take, HRN.out, Nat.min_eq_left (Nat.le_of_lt hij)]
        have hjj : ¬ ((j : Int) < (j : Int)) := by omega
        have hci : ¬ (cap = i) := by omega
        have hi1 : (i : Int) ≤ (j : Int) := by omega
        have hi2 : i ≤ j := by omega
        have hi3 : i ≤ cap := by omega
        have hcl := hcz.out
        go_wp2_with fail
        go_ret
        refine ⟨_, rfl, ?_, HCB.out⟩
        rw [HLN.out, ← HFN.out]
        exact HCL.out

def ndE : Int → List Nd → Int
  | _, [] => 0
  | ah, x :: r => if ndOne ah x = 0 then ndE x.id r else ndOne ah x

def edE (N : List Nd) : Int → List Ed → Int
  | _, [] => 0
  | ah, x :: r => if edOne N ah x = 0 then edE N x.id r else edOne N ah x

/-- The last number. -/
def lastI : Int → List Int → Int
  | ah, [] => ah
  | _, x :: r => lastI x r

/-- What is wrong with a graph. -/
def gE (N : List Nd) (E : List Ed) (next : Int) : Int :=
  if 40 < N.length ∨ 60 < E.length then 2 else if ndE 0 N = 0 then (if edE N 0 E = 0 then (if next ≤ lastI 0 (N.map Nd.id) ∨ next ≤ lastI 0 (E.map Ed.id) ∨ 1099511627776 < next then 9 else 0) else edE N 0 E) else ndE 0 N

theorem ndE_ok : ∀ (N : List Nd) (ah : Int), ndE ah N = 0 → Rise (N.map Nd.id) ∧ (∀ x ∈ N, ah < x.id ∧ labsE x.labs = 0 ∧ prsE x.props = 0)
  | [], ah, _ => ⟨fun i j x y _ h => by simp at h, fun x h => by cases h⟩
  | x :: r, ah, h => by
    unfold ndE at h
    split at h
    · rename_i h1
      have h2 : ¬ x.id ≤ ah ∧ labsE x.labs = 0 ∧ prsE x.props = 0 := by
        unfold ndOne at h1
        split at h1
        · exact absurd h1 (by decide)
        · split at h1
          · rename_i h3 h4
            exact ⟨h3, h4, h1⟩
          · rename_i h3 h4
            exact absurd h1 h4
      obtain ⟨hr, hall⟩ := ndE_ok r x.id h
      refine ⟨fun i j u v hij hu hv => ?_, fun y hy => ?_⟩
      · cases j with
        | zero => omega
        | succ j =>
          cases i with
          | zero =>
            simp only [List.map_cons, List.getElem?_cons_zero, Option.some.injEq] at hu
            simp only [List.map_cons, List.getElem?_cons_succ] at hv
            obtain ⟨y, hy, rfl⟩ := List.mem_map.1 (List.mem_of_getElem? hv)
            rw [← hu]
            exact (hall y hy).1
          | succ i =>
            simp only [List.map_cons, List.getElem?_cons_succ] at hu hv
            exact hr i j u v (by omega) hu hv
      · rcases List.mem_cons.1 hy with rfl | hy
        · exact ⟨by omega, h2.2⟩
        · have := hall y hy
          exact ⟨by omega, this.2⟩
    · rename_i h1
      exact absurd h h1

theorem info_int0 : (Tryd.prog.info? 3).map (fun i => (i.zero, i.size, i.bytes)) = some (some (.int .i64 0), 1, 8) := by kernel_rfl

theorem info_int : ∃ i, Tryd.prog.info? 3 = some i ∧ i.zero = some (.int .i64 0) ∧ i.size = 1 ∧ i.bytes = 8 := by
  obtain ⟨i, h, e⟩ := Option.map_eq_some_iff.1 info_int0
  simp only [Prod.mk.injEq] at e
  exact ⟨i, h, e⟩

theorem rowI_kept {B n : Nat} {e : TypeId} {size : Nat} {v : Value} {xs : List Value} {w w' : World} (h : w.ownsRow B e size v n xs) (hk : ∀ k, B ≤ k → k < w.heap.size → w'.heap[k]? = w.heap[k]?) : w'.ownsRow B e size v n xs := by
  refine ⟨h.1, ?_⟩
  rcases h.2 with h0 | ⟨g, cap, cur, e1, e2, e3, e4⟩
  · exact .inl h0
  · exact .inr ⟨g, cap, cur, e1, e2, by rw [hk g e2 (Array.getElem?_eq_some_iff.1 e3).1]; exact e3, e4⟩

theorem rowI_block {B n : Nat} {e : TypeId} {size : Nat} {v : Value} {xs : List Value} {w : World} (h : w.ownsRow B e size v n xs) (k : Nat) (hk : v.ownBlock = some k) : B ≤ k := by
  rcases h.2 with ⟨rfl, _⟩ | ⟨g, cap, cur, rfl, e2, _⟩
  · simp [Value.ownBlock] at hk
  · simp [Value.ownBlock] at hk
    omega

theorem alloc_2nd (w : World) (o1 o2 : Obj) : ((w.alloc o1).alloc o2).heap[w.heap.size + 1]? = some o2 := by
  have := alloc_new (w.alloc o1) o2
  rw [show (w.alloc o1).heap.size = w.heap.size + 1 from by simp] at this
  exact this

/-- Numbers as values. -/
def ints (L : List Int) : List Value := L.map (fun n => .int .i64 n)

theorem ints_more (L : List Int) (x : Int) : ints (L ++ [x]) = ints L ++ [.int .i64 x] := by simp [ints]

/-- Is it an edge of that kind from (to) that node? -/
def selE (id : Int) (kind : ByteArray) (inn : Bool) (x : Ed) : Bool := ((if inn = true then x.dst else x.frm) == id) && (kind.toList.isEmpty || kind.toList == x.typ.toList)

def arL (id : Int) (kind : ByteArray) (inn : Bool) (E : List Ed) : List Int := (E.filter (selE id kind inn)).map Ed.id

theorem arL_yes {id : Int} {kind : ByteArray} {inn : Bool} {x : Ed} {E : List Ed} (h : selE id kind inn x = true) : arL id kind inn (x :: E) = x.id :: arL id kind inn E := by
  simp [arL, h]

theorem arL_no {id : Int} {kind : ByteArray} {inn : Bool} {x : Ed} {E : List Ed} (h : selE id kind inn x = false) : arL id kind inn (x :: E) = arL id kind inn E := by
  simp [arL, h]

/-- What Around answers. -/
def AroundEnd (w w' : World) (er : Int) (has : Bool) (L : List Int) (e : Ending) : Prop :=
  (er ≠ 0 ∧ e = .returned (.tuple #[.slice none 0 0, .int .i64 er])) ∨ (er = 0 ∧ has = false ∧ e = .returned (.tuple #[.slice none 0 0, .int .i64 5])) ∨ (er = 0 ∧ has = true ∧ ∃ v, e = .returned (.tuple #[v, .int .i64 0]) ∧ w'.ownsRow w.heap.size 3 1 v L.length (ints L))

/-- Numbers lie where a slice says. -/
def IntsAt (w : World) (L : List Int) (a : Option Addr) (l : Nat) : Prop :=
  l = L.length ∧ l ≤ 9223372036854775807 ∧ (0 < l → ∃ b off, a = some ⟨b, off, none⟩ ∧ b < w.heap.size ∧ ∀ i x, L[i]? = some x → w.cell? ⟨b, off + i, none⟩ = some (.int .i64 x))

theorem IntsAt.below {w w' : World} (k : Below w.heap.size w w') {L : List Int} {a : Option Addr} {l : Nat} (h : IntsAt w L a l) : IntsAt w' L a l := by
  obtain ⟨h1, h2, h3⟩ := h
  refine ⟨h1, h2, fun h0 => ?_⟩
  obtain ⟨b, off, ha, hb, hc⟩ := h3 h0
  exact ⟨b, off, ha, Nat.lt_of_lt_of_le hb k.size, fun i s hs => (k.cell (p := ⟨b, off + i, none⟩) hb).trans (hc i s hs)⟩

/-- A row of the call's own, as numbers. -/
theorem ints_of_row {w : World} {B : Nat} {v : Value} {L : List Int} (h : w.ownsRow B 3 1 v L.length (ints L)) (hl : L.length ≤ 9223372036854775807) : ∃ a c, v = .slice a L.length c ∧ IntsAt w L a L.length := by
  rcases h.2 with ⟨h0, h1⟩ | ⟨g, cap, cur, h0, h1⟩
  · exact ⟨none, 0, by rw [h0, h1], rfl, hl, fun h => by omega⟩
  · refine ⟨some ⟨g, 0, none⟩, cap, h0, rfl, hl, fun hp => ?_⟩
    subst h0
    obtain ⟨g', cap', hv, _, hg⟩ := h.form (by omega)
    injection hv with hv1 hv2 hv3
    injection hv1 with hv1
    injection hv1 with hv1
    subst hv1
    refine ⟨g, 0, rfl, hg, fun i x hx => ?_⟩
    have hc := h.cells (g := g) rfl i (.int .i64 x) (by rw [ints, List.getElem?_map, hx]; rfl)
    by_cases h0 : i = 0
    · subst h0; simpa [Addr.add] using hc
    · simpa [Addr.add, h0] using hc

/-- A text is among others. -/
def hasS (L : List ByteArray) (t : ByteArray) : Bool := L.any (fun x => t.toList == x.toList)
end Go.Proofs.YtcfifihlfomccaaDoor
