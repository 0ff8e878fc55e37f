/-
  What is proved here: what the texts HDel, HDel2 prove, in one text.
-/
import Derived.Test.YtebbjmjgojekdaaGreatDoorQCAV
import Derived.Deep.RegionLaw
import Derived.Lib.SliceRun
namespace Go.Proofs.YtebbjmjgojekdaaGreatDoor
open Go.RowKit
set_option linter.unusedVariables false

theorem setCells_put (b : Nat) : ∀ (vs : List Value) (o : Nat) (w : World), w.setCells b o vs = putL w b o vs
  | [], _, _ => rfl
  | v :: vs, o, w => setCells_put b vs (o + 1) _

theorem setL_size : ∀ (vs : List Value) (o : Nat) (cs : Array Value), (setL cs o vs).size = cs.size
  | [], _, _ => rfl
  | v :: vs, o, cs => by
    show (setL (cs.setIfInBounds o v) (o + 1) vs).size = _
    rw [setL_size vs]
    simp

theorem setL_list : ∀ (vs : List Value) (o : Nat) (cs : Array Value), o + vs.length ≤ cs.size → (setL cs o vs).toList = cs.toList.take o ++ vs ++ cs.toList.drop (o + vs.length)
  | [], o, cs, _ => by simp [setL]
  | v :: vs, o, cs, h => by
    have h' : o + 1 + vs.length ≤ (cs.setIfInBounds o v).size := by simp at h ⊢; omega
    show (setL (cs.setIfInBounds o v) (o + 1) vs).toList = _
    rw [setL_list vs (o + 1) _ h']
    have ho : o < cs.toList.length := by simp at h ⊢; omega
    rw [Array.toList_setIfInBounds]
    have e1 : (cs.toList.set o v).take (o + 1) = cs.toList.take o ++ [v] := by
      rw [List.take_add_one, List.getElem?_set_self ho, List.take_set_of_le (Nat.le_refl _)]
      rfl
    have e2 : (cs.toList.set o v).drop (o + 1 + vs.length) = cs.toList.drop (o + 1 + vs.length) := by
      rw [List.drop_set_of_lt (by omega)]
    rw [e1, e2]
    simp [Nat.add_comm, Nat.add_left_comm]

theorem flat_len {α : Type} (f : α → List Value) (k : Nat) (hk : ∀ x, (f x).length = k) : ∀ L : List α, (L.map f).flatten.length = L.length * k
  | [] => by simp
  | x :: L => by
    simp only [List.map_cons, List.flatten_cons, List.length_append, List.length_cons, hk, flat_len f k hk L, Nat.add_mul]
    omega

theorem flat_take {α : Type} (f : α → List Value) (k : Nat) (hk : ∀ x, (f x).length = k) (L : List α) (i : Nat) (hi : i ≤ L.length) : ((L.map f).flatten).take (i * k) = ((L.take i).map f).flatten := by
  have e : (L.map f).flatten = ((L.take i).map f).flatten ++ ((L.drop i).map f).flatten := by
    rw [← List.flatten_append, ← List.map_append, List.take_append_drop]
  have hl : ((L.take i).map f).flatten.length = i * k := by rw [flat_len f k hk, List.length_take, Nat.min_eq_left hi]
  rw [e, List.take_append_of_le_length (by omega), List.take_of_length_le (by omega)]

/-- A row without one place: those behind it moved, the last one's cells written over. -/
theorem own_erase {α : Type} (f : α → List Value) (k : Nat) (hk : ∀ x, (f x).length = k) {w : World} {e : TypeId} {g cap : Nat} (L : List α) (i : Nat) (hi : i < L.length) (h : w.ownsRow 0 e k (.slice (some ⟨g, 0, none⟩) L.length cap) L.length ((L.map f).flatten)) (zs : List Value) (hz : zs.length = k) :
    ((w.setCells g (i * k) (((L.drop (i + 1)).map f).flatten)).setCells g ((L.length - 1) * k) zs).ownsRow 0 e k (.slice (some ⟨g, 0, none⟩) (L.length - 1) cap) (L.length - 1) (((L.eraseIdx i).map f).flatten) := by
  obtain ⟨_, h⟩ := h
  refine ⟨by rw [flat_len f k hk, List.length_eraseIdx_of_lt hi], .inr ?_⟩
  rcases h with ⟨h0, h1⟩ | ⟨g', cap', cur, h0, h1, h2, h3, h4, h5, h6⟩
  · omega
  · injection h0 with e1 _ e3
    injection e1 with e1
    injection e1 with e1
    subst e1 e3
    have hn : ((L.drop (i + 1)).map f).flatten.length = (L.length - 1 - i) * k := by rw [flat_len f k hk, List.length_drop]; congr 1; omega
    have hnk : L.length * k ≤ cur.size := by rw [h5]; exact Nat.mul_le_mul_right k h3
    have e7 : i * k + (L.length - 1 - i) * k = (L.length - 1) * k := by rw [← Nat.add_mul]; congr 1; omega
    have e8 : (L.length - 1) * k + k = L.length * k := by
      have : L.length = (L.length - 1) + 1 := by omega
      conv => rhs; rw [this, Nat.add_mul, Nat.one_mul]
    have q1 := putL_here (((L.drop (i + 1)).map f).flatten) (i * k) w cur h2
    have q2 := putL_here zs ((L.length - 1) * k) _ _ q1
    rw [← setCells_put, ← setCells_put] at q2
    refine ⟨g, cap, _, rfl, Nat.zero_le _, q2, by omega, h4, by rw [setL_size, setL_size, h5], ?_⟩
    have l1 : (setL cur (i * k) (((L.drop (i + 1)).map f).flatten)).toList = cur.toList.take (i * k) ++ ((L.drop (i + 1)).map f).flatten ++ cur.toList.drop (i * k + (((L.drop (i + 1)).map f).flatten).length) := setL_list _ _ _ (by omega)
    rw [setL_list zs _ _ (by rw [setL_size]; omega), l1]
    have l2 : (cur.toList.take (i * k) ++ ((L.drop (i + 1)).map f).flatten).length = (L.length - 1) * k := by
      rw [List.length_append, List.length_take, hn, Nat.min_eq_left (by simp; have := Nat.mul_le_mul_right k (Nat.le_of_lt hi); omega)]
      exact e7
    have l3 : ∀ (A B C D : List Value) (m : Nat), A.length = m → List.take m (List.take m (A ++ B) ++ C ++ D) = A := by
      intro A B C D m hm
      rw [List.append_assoc, List.take_append_of_le_length (by simp [hm]), List.take_take, Nat.min_self, List.take_append_of_le_length (by omega), List.take_of_length_le (by omega)]
    rw [l3 _ _ _ _ _ l2]
    have l4 : cur.toList.take (i * k) = ((L.take i).map f).flatten := by
      rw [← flat_take f k hk L i (Nat.le_of_lt hi), ← h6, List.take_take, Nat.min_eq_left (Nat.mul_le_mul_right k (Nat.le_of_lt hi))]
    rw [l4, List.eraseIdx_eq_take_drop_succ, List.map_append, List.flatten_append]

set_option maxHeartbeats 4000000 in
set_option maxRecDepth 100000 in
theorem deleteN_any (L : List Nd) (g cap i r : Nat) (w : World) (hn : L.length = i + 1 + r) (h : w.ownsRow 0 72 3 (.slice (some ⟨g, 0, none⟩) (i + 1 + r) cap) (i + 1 + r) (rowN L)) (hl : i + 1 + r ≤ 1000) :
    Calls Tryz.prog 123 #[.slice (some ⟨g, 0, none⟩) (i + 1 + r) cap, .int .i64 i, .int .i64 (i + 1)] w fun e w' => e = .returned (.slice (some ⟨g, 0, none⟩) (i + r) cap) ∧ w'.ownsRow 0 72 3 (.slice (some ⟨g, 0, none⟩) (i + r) cap) (i + r) (rowN (L.eraseIdx i)) ∧ Rest (fun j => j = g) w w' := by
  obtain ⟨news, hnews⟩ : ∃ z, z = ((L.drop (i + 1)).map Nd.cells).flatten := ⟨_, rfl⟩
  have hlen : news.length = r * 3 := by rw [hnews, flat_len Nd.cells 3 (fun _ => rfl), List.length_drop, hn]; congr 1; omega
  have hfl : rowN L = ((L.take (i + 1)).map Nd.cells).flatten ++ news := by rw [hnews, ← List.flatten_append, ← List.map_append, List.take_append_drop]; rfl
  have hft : ((L.take (i + 1)).map Nd.cells).flatten.length = (i + 1) * 3 := by rw [flat_len Nd.cells 3 (fun _ => rfl), List.length_take, hn, Nat.min_eq_left (by omega)]
  have hm : maxLen ≤ 9223372036854775807 := by unfold maxLen; decide
  obtain ⟨cur, hblk, hnc, hcm, hsz, htk⟩ : ∃ cur, w.heap[g]? = some (.cells cur 72 (0, 0)) ∧ i + 1 + r ≤ cap ∧ cap ≤ 9223372036854775807 ∧ cur.size = cap * 3 ∧ cur.toList.take ((i + 1 + r) * 3) = rowN L := by
    rcases h.2 with ⟨h0, _⟩ | ⟨g', cap', cur, h0, _, h2, h3, h4, h5, h6⟩
    · cases h0
    · injection h0 with e1 _ e3
      injection e1 with e1
      injection e1 with e1
      subst e1 e3
      exact ⟨cur, h2, h3, Nat.le_trans h4 hm, h5, h6⟩
  have hcell : ∀ o, w.cell? ⟨g, o, none⟩ = cur[o]? := fun o => cell_of hblk o
  have hfree : ∀ o, w.frozen? ⟨g, o, none⟩ = false := fun o => free_of hblk o
  have hread : ∀ t u, news[t]? = some u → w.cell? ⟨g, (i + 1) * 3 + t, none⟩ = some u := fun t u hu => by
    have ht : t < news.length := (List.getElem?_eq_some_iff.1 hu).1
    rw [hcell, ← Array.getElem?_toList]
    have e : (rowN L)[(i + 1) * 3 + t]? = some u := by rw [hfl, List.getElem?_append_right (by omega), hft, Nat.add_sub_cancel_left]; exact hu
    rw [← htk, List.getElem?_take] at e
    split at e
    · exact e
    · cases e
  obtain ⟨A, hA, hsrc⟩ : ∃ A : Addr, (if cap = i + 1 then some (⟨g, 0, none⟩ : Addr) else some ⟨g, (i + 1) * 3, none⟩) = some A ∧ Hid (∀ t u, news[t]? = some u → w.drew.cell? (A.add t) = some u) := by
    by_cases hc : cap = i + 1
    · refine ⟨⟨g, 0, none⟩, by simp [hc], fun t u hu => ?_⟩
      have ht : t < news.length := (List.getElem?_eq_some_iff.1 hu).1
      rw [hlen] at ht
      have : r = 0 := by omega
      subst this
      omega
    · refine ⟨⟨g, (i + 1) * 3, none⟩, by simp [hc], fun t u hu => ?_⟩
      rw [add_none]
      exact hread t u hu
  have s1 : Hid (news.length = r * 3) := hlen
  have s2 : Hid (∀ u ∈ news, u.oneCell' = true) := fun u hu => by
    rw [hnews] at hu
    obtain ⟨l, hl1, hl2⟩ := List.mem_flatten.1 hu
    obtain ⟨x, _, rfl⟩ := List.mem_map.1 hl1
    simp [Nd.cells] at hl2; rcases hl2 with rfl | rfl | rfl <;> rfl
  have s3 : Hid (∀ t, t < news.length → (w.drew.cell? ⟨g, 0 + i * 3 + t, none⟩).isSome = true ∧ w.drew.frozen? ⟨g, 0 + i * 3 + t, none⟩ = false) := fun t ht => by
    refine ⟨?_, hfree _⟩
    show (w.cell? _).isSome = true
    rw [hcell]
    have hq : 0 + i * 3 + t < cur.size := by rw [hlen] at ht; rw [hsz]; omega
    rw [Array.getElem?_eq_getElem hq]
    rfl
  obtain ⟨W1, hW1⟩ : ∃ W1, W1 = w.drew.setCells g (0 + i * 3) news := ⟨_, rfl⟩
  have hb1 : W1.heap[g]? = some (.cells (setL cur (0 + i * 3) news) 72 (0, 0)) := by rw [hW1, setCells_put]; exact putL_here news _ w.drew cur hblk
  have hcl : ∀ ty, (Builtin.clear_ #[22] ty #[.slice (some ⟨g, (i + r) * 3, none⟩) (i + 1 + r - (i + r)) (cap - (i + r))]).run Tryz.prog W1 = .ok (.tuple #[]) (W1.setCells g ((i + r) * 3) [.int .i64 0, .slice none 0 0, .slice none 0 0]) := fun ty => by
    have e1 : i + 1 + r - (i + r) = 1 := by omega
    rw [e1]
    have hst := run_storeCells_cells (P := Tryz.prog) g ((i + r) * 3) [.int .i64 0, .slice none 0 0, .slice none 0 0] 0 W1 (fun j hj => by
      rw [cell_of hb1]
      have hj' : j < 3 := hj
      have hq : (i + r) * 3 + 0 + j < (setL cur (0 + i * 3) news).size := by rw [setL_size, hsz]; omega
      rw [Array.getElem?_eq_getElem hq]
      rfl) (fun j hj => free_of hb1 _) (by simp [Value.oneCell'])
    simp only [Nat.add_zero] at hst
    have hzc : (Builtin.zeroCells (.agg #[.int .i64 0, .slice none 0 0, .slice none 0 0] : Value).cells 1).toList = [.int .i64 0, .slice none 0 0, .slice none 0 0] := by simp [Builtin.zeroCells, Value.cells, Array.range]
    simp [Builtin.clear_, run_underlying Tryz.underlying22, Tryz.zeroValue72, hzc, hst]
  have X1 := toHid hW1
  have HH := toHid h
  have HN := toHid hn
  have HNEWS := toHid hnews
  have hic : i + 1 ≤ cap := by omega
  have hcne : ¬ (cap = i + r) := by omega
  have hii : i ≤ cap := by omega
  have hp0 : (0 : Int) ≤ (i : Int) + 1 := by omega
  have hb2 : (i : Int) + 1 ≤ (i : Int) + 1 + (r : Int) := by omega
  have hb3 : (i : Int) + (r : Int) ≤ (i : Int) + 1 + (r : Int) := by omega
  have hb4 : i + 1 + r ≤ cap := by omega
  have hne : ((i : Int) == (i : Int) + 1) = false := by simp; omega
  have hroom : i + r ≤ cap := by omega
  obtain ⟨i0, hi0, hiz, his, hib⟩ := info_Node
  have HI0 := toHid hi0
  have HIS := toHid his
  clear h hn hnews hlen hfl hft hread hcell hfree hblk hb1 hW1 htk hsz hi0 hiz his hib hm
  go_enter Tryz.func123, Tryz.ntmps123
  go_upto_region 5 with fail
  go_region_law (first
    | (refine step_append_room (by rfl) (.tmp 22) (.tmp 25) 22 (by rfl) 72 i0 3 Tryz.underlying22 HI0.out HIS.out g 0 i cap (by simp [Act.eval, Act.put]) A r (cap - (i + 1)) news (by simp [Act.eval, Act.put]) s1.out hsrc.out s2.out hroom s3.out ?_; rw [← X1.out]))
  go_wp2_with fail
  go_ret
  refine ⟨rfl, ?_, ?_⟩
  · have h' : w.drew.ownsRow 0 72 3 (.slice (some ⟨g, 0, none⟩) L.length cap) L.length ((L.map Nd.cells).flatten) := by rw [HN.out]; exact HH.out
    have q := own_erase Nd.cells 3 (fun _ => rfl) L i (by rw [HN.out]; omega) h' [.int .i64 0, .slice none 0 0, .slice none 0 0] rfl
    have e : i + 1 + r - 1 = i + r := by omega
    rw [HN.out, ← HNEWS.out, e] at q
    rw [X1.out, Nat.zero_add]
    exact q
  · rw [X1.out, setCells_put, setCells_put]
    have k1 := putL_bel g news (0 + i * 3) w.drew
    have k2 := putL_bel g [.int .i64 0, .slice none 0 0, .slice none 0 0] ((i + r) * 3) (putL w.drew g (0 + i * 3) news)
    exact ⟨k2.os.trans k1.os, k2.tape.trans k1.tape, k2.output.trans k1.output, Nat.le_trans k1.size k2.size, fun j _ hj => (putL_other g _ _ _ j hj).trans (putL_other g news _ w.drew j hj)⟩

set_option maxHeartbeats 4000000 in
set_option maxRecDepth 100000 in
theorem deleteE_any (L : List Ed) (g cap i r : Nat) (w : World) (hn : L.length = i + 1 + r) (h : w.ownsRow 0 47 5 (.slice (some ⟨g, 0, none⟩) (i + 1 + r) cap) (i + 1 + r) (rowX L)) (hl : i + 1 + r ≤ 1000) :
    Calls Tryz.prog 125 #[.slice (some ⟨g, 0, none⟩) (i + 1 + r) cap, .int .i64 i, .int .i64 (i + 1)] w fun e w' => e = .returned (.slice (some ⟨g, 0, none⟩) (i + r) cap) ∧ w'.ownsRow 0 47 5 (.slice (some ⟨g, 0, none⟩) (i + r) cap) (i + r) (rowX (L.eraseIdx i)) ∧ Rest (fun j => j = g) w w' := by
  obtain ⟨news, hnews⟩ : ∃ z, z = ((L.drop (i + 1)).map Ed.cells).flatten := ⟨_, rfl⟩
  have hlen : news.length = r * 5 := by rw [hnews, flat_len Ed.cells 5 (fun _ => rfl), List.length_drop, hn]; congr 1; omega
  have hfl : rowX L = ((L.take (i + 1)).map Ed.cells).flatten ++ news := by rw [hnews, ← List.flatten_append, ← List.map_append, List.take_append_drop]; rfl
  have hft : ((L.take (i + 1)).map Ed.cells).flatten.length = (i + 1) * 5 := by rw [flat_len Ed.cells 5 (fun _ => rfl), List.length_take, hn, Nat.min_eq_left (by omega)]
  have hm : maxLen ≤ 9223372036854775807 := by unfold maxLen; decide
  obtain ⟨cur, hblk, hnc, hcm, hsz, htk⟩ : ∃ cur, w.heap[g]? = some (.cells cur 47 (0, 0)) ∧ i + 1 + r ≤ cap ∧ cap ≤ 9223372036854775807 ∧ cur.size = cap * 5 ∧ cur.toList.take ((i + 1 + r) * 5) = rowX L := by
    rcases h.2 with ⟨h0, _⟩ | ⟨g', cap', cur, h0, _, h2, h3, h4, h5, h6⟩
    · cases h0
    · injection h0 with e1 _ e3
      injection e1 with e1
      injection e1 with e1
      subst e1 e3
      exact ⟨cur, h2, h3, Nat.le_trans h4 hm, h5, h6⟩
  have hcell : ∀ o, w.cell? ⟨g, o, none⟩ = cur[o]? := fun o => cell_of hblk o
  have hfree : ∀ o, w.frozen? ⟨g, o, none⟩ = false := fun o => free_of hblk o
  have hread : ∀ t u, news[t]? = some u → w.cell? ⟨g, (i + 1) * 5 + t, none⟩ = some u := fun t u hu => by
    have ht : t < news.length := (List.getElem?_eq_some_iff.1 hu).1
    rw [hcell, ← Array.getElem?_toList]
    have e : (rowX L)[(i + 1) * 5 + t]? = some u := by rw [hfl, List.getElem?_append_right (by omega), hft, Nat.add_sub_cancel_left]; exact hu
    rw [← htk, List.getElem?_take] at e
    split at e
    · exact e
    · cases e
  obtain ⟨A, hA, hsrc⟩ : ∃ A : Addr, (if cap = i + 1 then some (⟨g, 0, none⟩ : Addr) else some ⟨g, (i + 1) * 5, none⟩) = some A ∧ Hid (∀ t u, news[t]? = some u → w.drew.cell? (A.add t) = some u) := by
    by_cases hc : cap = i + 1
    · refine ⟨⟨g, 0, none⟩, by simp [hc], fun t u hu => ?_⟩
      have ht : t < news.length := (List.getElem?_eq_some_iff.1 hu).1
      rw [hlen] at ht
      have : r = 0 := by omega
      subst this
      omega
    · refine ⟨⟨g, (i + 1) * 5, none⟩, by simp [hc], fun t u hu => ?_⟩
      rw [add_none]
      exact hread t u hu
  have s1 : Hid (news.length = r * 5) := hlen
  have s2 : Hid (∀ u ∈ news, u.oneCell' = true) := fun u hu => by
    rw [hnews] at hu
    obtain ⟨l, hl1, hl2⟩ := List.mem_flatten.1 hu
    obtain ⟨x, _, rfl⟩ := List.mem_map.1 hl1
    simp [Ed.cells] at hl2; rcases hl2 with rfl | rfl | rfl | rfl | rfl <;> rfl
  have s3 : Hid (∀ t, t < news.length → (w.drew.cell? ⟨g, 0 + i * 5 + t, none⟩).isSome = true ∧ w.drew.frozen? ⟨g, 0 + i * 5 + t, none⟩ = false) := fun t ht => by
    refine ⟨?_, hfree _⟩
    show (w.cell? _).isSome = true
    rw [hcell]
    have hq : 0 + i * 5 + t < cur.size := by rw [hlen] at ht; rw [hsz]; omega
    rw [Array.getElem?_eq_getElem hq]
    rfl
  obtain ⟨W1, hW1⟩ : ∃ W1, W1 = w.drew.setCells g (0 + i * 5) news := ⟨_, rfl⟩
  have hb1 : W1.heap[g]? = some (.cells (setL cur (0 + i * 5) news) 47 (0, 0)) := by rw [hW1, setCells_put]; exact putL_here news _ w.drew cur hblk
  have hcl : ∀ ty, (Builtin.clear_ #[23] ty #[.slice (some ⟨g, (i + r) * 5, none⟩) (i + 1 + r - (i + r)) (cap - (i + r))]).run Tryz.prog W1 = .ok (.tuple #[]) (W1.setCells g ((i + r) * 5) [.int .i64 0, .int .i64 0, .int .i64 0, .string ⟨#[]⟩, .slice none 0 0]) := fun ty => by
    have e1 : i + 1 + r - (i + r) = 1 := by omega
    rw [e1]
    have hst := run_storeCells_cells (P := Tryz.prog) g ((i + r) * 5) [.int .i64 0, .int .i64 0, .int .i64 0, .string ⟨#[]⟩, .slice none 0 0] 0 W1 (fun j hj => by
      rw [cell_of hb1]
      have hj' : j < 5 := hj
      have hq : (i + r) * 5 + 0 + j < (setL cur (0 + i * 5) news).size := by rw [setL_size, hsz]; omega
      rw [Array.getElem?_eq_getElem hq]
      rfl) (fun j hj => free_of hb1 _) (by simp [Value.oneCell'])
    simp only [Nat.add_zero] at hst
    have hzc : (Builtin.zeroCells (.agg #[.int .i64 0, .int .i64 0, .int .i64 0, .string ⟨#[]⟩, .slice none 0 0] : Value).cells 1).toList = [.int .i64 0, .int .i64 0, .int .i64 0, .string ⟨#[]⟩, .slice none 0 0] := by simp [Builtin.zeroCells, Value.cells, Array.range]
    simp [Builtin.clear_, run_underlying Tryz.underlying23, Tryz.zeroValue47, hzc, hst]
  have X1 := toHid hW1
  have HH := toHid h
  have HN := toHid hn
  have HNEWS := toHid hnews
  have hic : i + 1 ≤ cap := by omega
  have hcne : ¬ (cap = i + r) := by omega
  have hii : i ≤ cap := by omega
  have hp0 : (0 : Int) ≤ (i : Int) + 1 := by omega
  have hb2 : (i : Int) + 1 ≤ (i : Int) + 1 + (r : Int) := by omega
  have hb3 : (i : Int) + (r : Int) ≤ (i : Int) + 1 + (r : Int) := by omega
  have hb4 : i + 1 + r ≤ cap := by omega
  have hne : ((i : Int) == (i : Int) + 1) = false := by simp; omega
  have hroom : i + r ≤ cap := by omega
  obtain ⟨i0, hi0, hiz, his, hib⟩ := info_Edge
  have HI0 := toHid hi0
  have HIS := toHid his
  clear h hn hnews hlen hfl hft hread hcell hfree hblk hb1 hW1 htk hsz hi0 hiz his hib hm
  go_enter Tryz.func125, Tryz.ntmps125
  go_upto_region 5 with fail
  go_region_law (first
    | (refine step_append_room (by rfl) (.tmp 22) (.tmp 25) 23 (by rfl) 47 i0 5 Tryz.underlying23 HI0.out HIS.out g 0 i cap (by simp [Act.eval, Act.put]) A r (cap - (i + 1)) news (by simp [Act.eval, Act.put]) s1.out hsrc.out s2.out hroom s3.out ?_; rw [← X1.out]))
  go_wp2_with fail
  go_ret
  refine ⟨rfl, ?_, ?_⟩
  · have h' : w.drew.ownsRow 0 47 5 (.slice (some ⟨g, 0, none⟩) L.length cap) L.length ((L.map Ed.cells).flatten) := by rw [HN.out]; exact HH.out
    have q := own_erase Ed.cells 5 (fun _ => rfl) L i (by rw [HN.out]; omega) h' [.int .i64 0, .int .i64 0, .int .i64 0, .string ⟨#[]⟩, .slice none 0 0] rfl
    have e : i + 1 + r - 1 = i + r := by omega
    rw [HN.out, ← HNEWS.out, e] at q
    rw [X1.out, Nat.zero_add]
    exact q
  · rw [X1.out, setCells_put, setCells_put]
    have k1 := putL_bel g news (0 + i * 5) w.drew
    have k2 := putL_bel g [.int .i64 0, .int .i64 0, .int .i64 0, .string ⟨#[]⟩, .slice none 0 0] ((i + r) * 5) (putL w.drew g (0 + i * 5) news)
    exact ⟨k2.os.trans k1.os, k2.tape.trans k1.tape, k2.output.trans k1.output, Nat.le_trans k1.size k2.size, fun j _ hj => (putL_other g _ _ _ j hj).trans (putL_other g news _ w.drew j hj)⟩

set_option maxHeartbeats 4000000 in
set_option maxRecDepth 100000 in
theorem deleteP_any (L : List Pr) (g cap i r : Nat) (w : World) (hn : L.length = i + 1 + r) (h : w.ownsRow 0 102 5 (.slice (some ⟨g, 0, none⟩) (i + 1 + r) cap) (i + 1 + r) (rowP L)) (hl : i + 1 + r ≤ 1000) :
    Calls Tryz.prog 163 #[.slice (some ⟨g, 0, none⟩) (i + 1 + r) cap, .int .i64 i, .int .i64 (i + 1)] w fun e w' => e = .returned (.slice (some ⟨g, 0, none⟩) (i + r) cap) ∧ w'.ownsRow 0 102 5 (.slice (some ⟨g, 0, none⟩) (i + r) cap) (i + r) (rowP (L.eraseIdx i)) ∧ Rest (fun j => j = g) w w' := by
  obtain ⟨news, hnews⟩ : ∃ z, z = ((L.drop (i + 1)).map Pr.cells).flatten := ⟨_, rfl⟩
  have hlen : news.length = r * 5 := by rw [hnews, flat_len Pr.cells 5 (fun _ => rfl), List.length_drop, hn]; congr 1; omega
  have hfl : rowP L = ((L.take (i + 1)).map Pr.cells).flatten ++ news := by rw [hnews, ← List.flatten_append, ← List.map_append, List.take_append_drop]; rfl
  have hft : ((L.take (i + 1)).map Pr.cells).flatten.length = (i + 1) * 5 := by rw [flat_len Pr.cells 5 (fun _ => rfl), List.length_take, hn, Nat.min_eq_left (by omega)]
  have hm : maxLen ≤ 9223372036854775807 := by unfold maxLen; decide
  obtain ⟨cur, hblk, hnc, hcm, hsz, htk⟩ : ∃ cur, w.heap[g]? = some (.cells cur 102 (0, 0)) ∧ i + 1 + r ≤ cap ∧ cap ≤ 9223372036854775807 ∧ cur.size = cap * 5 ∧ cur.toList.take ((i + 1 + r) * 5) = rowP L := by
    rcases h.2 with ⟨h0, _⟩ | ⟨g', cap', cur, h0, _, h2, h3, h4, h5, h6⟩
    · cases h0
    · injection h0 with e1 _ e3
      injection e1 with e1
      injection e1 with e1
      subst e1 e3
      exact ⟨cur, h2, h3, Nat.le_trans h4 hm, h5, h6⟩
  have hcell : ∀ o, w.cell? ⟨g, o, none⟩ = cur[o]? := fun o => cell_of hblk o
  have hfree : ∀ o, w.frozen? ⟨g, o, none⟩ = false := fun o => free_of hblk o
  have hread : ∀ t u, news[t]? = some u → w.cell? ⟨g, (i + 1) * 5 + t, none⟩ = some u := fun t u hu => by
    have ht : t < news.length := (List.getElem?_eq_some_iff.1 hu).1
    rw [hcell, ← Array.getElem?_toList]
    have e : (rowP L)[(i + 1) * 5 + t]? = some u := by rw [hfl, List.getElem?_append_right (by omega), hft, Nat.add_sub_cancel_left]; exact hu
    rw [← htk, List.getElem?_take] at e
    split at e
    · exact e
    · cases e
  obtain ⟨A, hA, hsrc⟩ : ∃ A : Addr, (if cap = i + 1 then some (⟨g, 0, none⟩ : Addr) else some ⟨g, (i + 1) * 5, none⟩) = some A ∧ Hid (∀ t u, news[t]? = some u → w.drew.cell? (A.add t) = some u) := by
    by_cases hc : cap = i + 1
    · refine ⟨⟨g, 0, none⟩, by simp [hc], fun t u hu => ?_⟩
      have ht : t < news.length := (List.getElem?_eq_some_iff.1 hu).1
      rw [hlen] at ht
      have : r = 0 := by omega
      subst this
      omega
    · refine ⟨⟨g, (i + 1) * 5, none⟩, by simp [hc], fun t u hu => ?_⟩
      rw [add_none]
      exact hread t u hu
  have s1 : Hid (news.length = r * 5) := hlen
  have s2 : Hid (∀ u ∈ news, u.oneCell' = true) := fun u hu => by
    rw [hnews] at hu
    obtain ⟨l, hl1, hl2⟩ := List.mem_flatten.1 hu
    obtain ⟨x, _, rfl⟩ := List.mem_map.1 hl1
    simp [Pr.cells] at hl2; rcases hl2 with rfl | rfl | rfl | rfl | rfl <;> rfl
  have s3 : Hid (∀ t, t < news.length → (w.drew.cell? ⟨g, 0 + i * 5 + t, none⟩).isSome = true ∧ w.drew.frozen? ⟨g, 0 + i * 5 + t, none⟩ = false) := fun t ht => by
    refine ⟨?_, hfree _⟩
    show (w.cell? _).isSome = true
    rw [hcell]
    have hq : 0 + i * 5 + t < cur.size := by rw [hlen] at ht; rw [hsz]; omega
    rw [Array.getElem?_eq_getElem hq]
    rfl
  obtain ⟨W1, hW1⟩ : ∃ W1, W1 = w.drew.setCells g (0 + i * 5) news := ⟨_, rfl⟩
  have hb1 : W1.heap[g]? = some (.cells (setL cur (0 + i * 5) news) 102 (0, 0)) := by rw [hW1, setCells_put]; exact putL_here news _ w.drew cur hblk
  have hcl : ∀ ty, (Builtin.clear_ #[45] ty #[.slice (some ⟨g, (i + r) * 5, none⟩) (i + 1 + r - (i + r)) (cap - (i + r))]).run Tryz.prog W1 = .ok (.tuple #[]) (W1.setCells g ((i + r) * 5) [.string ⟨#[]⟩, .int .i64 0, .int .i64 0, .string ⟨#[]⟩, .slice none 0 0]) := fun ty => by
    have e1 : i + 1 + r - (i + r) = 1 := by omega
    rw [e1]
    have hst := run_storeCells_cells (P := Tryz.prog) g ((i + r) * 5) [.string ⟨#[]⟩, .int .i64 0, .int .i64 0, .string ⟨#[]⟩, .slice none 0 0] 0 W1 (fun j hj => by
      rw [cell_of hb1]
      have hj' : j < 5 := hj
      have hq : (i + r) * 5 + 0 + j < (setL cur (0 + i * 5) news).size := by rw [setL_size, hsz]; omega
      rw [Array.getElem?_eq_getElem hq]
      rfl) (fun j hj => free_of hb1 _) (by simp [Value.oneCell'])
    simp only [Nat.add_zero] at hst
    have hzc : (Builtin.zeroCells (.agg #[.string ⟨#[]⟩, .int .i64 0, .int .i64 0, .string ⟨#[]⟩, .slice none 0 0] : Value).cells 1).toList = [.string ⟨#[]⟩, .int .i64 0, .int .i64 0, .string ⟨#[]⟩, .slice none 0 0] := by simp [Builtin.zeroCells, Value.cells, Array.range]
    simp [Builtin.clear_, run_underlying Tryz.underlying45, Tryz.zeroValue102, hzc, hst]
  have X1 := toHid hW1
  have HH := toHid h
  have HN := toHid hn
  have HNEWS := toHid hnews
  have hic : i + 1 ≤ cap := by omega
  have hcne : ¬ (cap = i + r) := by omega
  have hii : i ≤ cap := by omega
  have hp0 : (0 : Int) ≤ (i : Int) + 1 := by omega
  have hb2 : (i : Int) + 1 ≤ (i : Int) + 1 + (r : Int) := by omega
  have hb3 : (i : Int) + (r : Int) ≤ (i : Int) + 1 + (r : Int) := by omega
  have hb4 : i + 1 + r ≤ cap := by omega
  have hne : ((i : Int) == (i : Int) + 1) = false := by simp; omega
  have hroom : i + r ≤ cap := by omega
  obtain ⟨i0, hi0, hiz, his, hib⟩ := info_prop
  have HI0 := toHid hi0
  have HIS := toHid his
  clear h hn hnews hlen hfl hft hread hcell hfree hblk hb1 hW1 htk hsz hi0 hiz his hib hm
  go_enter Tryz.func163, Tryz.ntmps163
  go_upto_region 5 with fail
  go_region_law (first
    | (refine step_append_room (by rfl) (.tmp 22) (.tmp 25) 45 (by rfl) 102 i0 5 Tryz.underlying45 HI0.out HIS.out g 0 i cap (by simp [Act.eval, Act.put]) A r (cap - (i + 1)) news (by simp [Act.eval, Act.put]) s1.out hsrc.out s2.out hroom s3.out ?_; rw [← X1.out]))
  go_wp2_with fail
  go_ret
  refine ⟨rfl, ?_, ?_⟩
  · have h' : w.drew.ownsRow 0 102 5 (.slice (some ⟨g, 0, none⟩) L.length cap) L.length ((L.map Pr.cells).flatten) := by rw [HN.out]; exact HH.out
    have q := own_erase Pr.cells 5 (fun _ => rfl) L i (by rw [HN.out]; omega) h' [.string ⟨#[]⟩, .int .i64 0, .int .i64 0, .string ⟨#[]⟩, .slice none 0 0] rfl
    have e : i + 1 + r - 1 = i + r := by omega
    rw [HN.out, ← HNEWS.out, e] at q
    rw [X1.out, Nat.zero_add]
    exact q
  · rw [X1.out, setCells_put, setCells_put]
    have k1 := putL_bel g news (0 + i * 5) w.drew
    have k2 := putL_bel g [.string ⟨#[]⟩, .int .i64 0, .int .i64 0, .string ⟨#[]⟩, .slice none 0 0] ((i + r) * 5) (putL w.drew g (0 + i * 5) news)
    exact ⟨k2.os.trans k1.os, k2.tape.trans k1.tape, k2.output.trans k1.output, Nat.le_trans k1.size k2.size, fun j _ hj => (putL_other g _ _ _ j hj).trans (putL_other g news _ w.drew j hj)⟩

def strCell (s : ByteArray) : List Value := [.string s]
theorem strs_flat (L : List ByteArray) : strs L = (L.map strCell).flatten := by
  induction L with
  | nil => rfl
  | cons s L ih => rw [List.map_cons, List.flatten_cons, ← ih]; rfl

set_option maxHeartbeats 4000000 in
set_option maxRecDepth 100000 in
theorem deleteS_any (L : List ByteArray) (g cap i r : Nat) (w : World) (hn : L.length = i + 1 + r) (h : w.ownsRow 0 9 1 (.slice (some ⟨g, 0, none⟩) (i + 1 + r) cap) (i + 1 + r) (strs L)) (hl : i + 1 + r ≤ 1000) :
    Calls Tryz.prog 186 #[.slice (some ⟨g, 0, none⟩) (i + 1 + r) cap, .int .i64 i, .int .i64 (i + 1)] w fun e w' => e = .returned (.slice (some ⟨g, 0, none⟩) (i + r) cap) ∧ w'.ownsRow 0 9 1 (.slice (some ⟨g, 0, none⟩) (i + r) cap) (i + r) (strs (L.eraseIdx i)) ∧ Rest (fun j => j = g) w w' := by
  obtain ⟨news, hnews⟩ : ∃ z, z = ((L.drop (i + 1)).map strCell).flatten := ⟨_, rfl⟩
  have hlen : news.length = r * 1 := by rw [hnews, flat_len strCell 1 (fun _ => rfl), List.length_drop, hn]; congr 1; omega
  have hfl : strs L = ((L.take (i + 1)).map strCell).flatten ++ news := by rw [hnews, ← List.flatten_append, ← List.map_append, List.take_append_drop]; exact strs_flat L
  have hft : ((L.take (i + 1)).map strCell).flatten.length = (i + 1) * 1 := by rw [flat_len strCell 1 (fun _ => rfl), List.length_take, hn, Nat.min_eq_left (by omega)]
  have hm : maxLen ≤ 9223372036854775807 := by unfold maxLen; decide
  obtain ⟨cur, hblk, hnc, hcm, hsz, htk⟩ : ∃ cur, w.heap[g]? = some (.cells cur 9 (0, 0)) ∧ i + 1 + r ≤ cap ∧ cap ≤ 9223372036854775807 ∧ cur.size = cap * 1 ∧ cur.toList.take ((i + 1 + r) * 1) = strs L := by
    rcases h.2 with ⟨h0, _⟩ | ⟨g', cap', cur, h0, _, h2, h3, h4, h5, h6⟩
    · cases h0
    · injection h0 with e1 _ e3
      injection e1 with e1
      injection e1 with e1
      subst e1 e3
      exact ⟨cur, h2, h3, Nat.le_trans h4 hm, h5, h6⟩
  have hcell : ∀ o, w.cell? ⟨g, o, none⟩ = cur[o]? := fun o => cell_of hblk o
  have hfree : ∀ o, w.frozen? ⟨g, o, none⟩ = false := fun o => free_of hblk o
  have hread : ∀ t u, news[t]? = some u → w.cell? ⟨g, i + 1 + t, none⟩ = some u := fun t u hu => by
    have ht : t < news.length := (List.getElem?_eq_some_iff.1 hu).1
    rw [hcell, ← Array.getElem?_toList]
    have e : (strs L)[i + 1 + t]? = some u := by rw [hfl, List.getElem?_append_right (by omega), hft, Nat.mul_one, Nat.add_sub_cancel_left]; exact hu
    rw [← htk, List.getElem?_take] at e
    split at e
    · exact e
    · cases e
  obtain ⟨A, hA, hsrc⟩ : ∃ A : Addr, (if cap = i + 1 then some (⟨g, 0, none⟩ : Addr) else some ⟨g, i + 1, none⟩) = some A ∧ Hid (∀ t u, news[t]? = some u → w.drew.cell? (A.add t) = some u) := by
    by_cases hc : cap = i + 1
    · refine ⟨⟨g, 0, none⟩, by simp [hc], fun t u hu => ?_⟩
      have ht : t < news.length := (List.getElem?_eq_some_iff.1 hu).1
      rw [hlen] at ht
      have : r = 0 := by omega
      subst this
      omega
    · refine ⟨⟨g, i + 1, none⟩, by simp [hc], fun t u hu => ?_⟩
      rw [add_none]
      exact hread t u hu
  have s1 : Hid (news.length = r * 1) := hlen
  have s2 : Hid (∀ u ∈ news, u.oneCell' = true) := fun u hu => by
    rw [hnews] at hu
    obtain ⟨l, hl1, hl2⟩ := List.mem_flatten.1 hu
    obtain ⟨x, _, rfl⟩ := List.mem_map.1 hl1
    rw [List.mem_singleton.1 hl2]; rfl
  have s3 : Hid (∀ t, t < news.length → (w.drew.cell? ⟨g, 0 + i * 1 + t, none⟩).isSome = true ∧ w.drew.frozen? ⟨g, 0 + i * 1 + t, none⟩ = false) := fun t ht => by
    refine ⟨?_, hfree _⟩
    show (w.cell? _).isSome = true
    rw [hcell]
    have hq : 0 + i * 1 + t < cur.size := by rw [hlen] at ht; rw [hsz]; omega
    rw [Array.getElem?_eq_getElem hq]
    rfl
  obtain ⟨W1, hW1⟩ : ∃ W1, W1 = w.drew.setCells g (0 + i * 1) news := ⟨_, rfl⟩
  have hb1 : W1.heap[g]? = some (.cells (setL cur (0 + i * 1) news) 9 (0, 0)) := by rw [hW1, setCells_put]; exact putL_here news _ w.drew cur hblk
  have hcl : ∀ ty, (Builtin.clear_ #[66] ty #[.slice (some ⟨g, i + r, none⟩) (i + 1 + r - (i + r)) (cap - (i + r))]).run Tryz.prog W1 = .ok (.tuple #[]) (W1.setCells g (i + r) [.string ⟨#[]⟩]) := fun ty => by
    have e1 : i + 1 + r - (i + r) = 1 := by omega
    rw [e1]
    have hst := run_storeCells_cells (P := Tryz.prog) g (i + r) [.string ⟨#[]⟩] 0 W1 (fun j hj => by
      rw [cell_of hb1]
      have hj' : j < 1 := hj
      have hq : i + r + 0 + j < (setL cur (0 + i * 1) news).size := by rw [setL_size, hsz]; omega
      rw [Array.getElem?_eq_getElem hq]
      rfl) (fun j hj => free_of hb1 _) (by simp [Value.oneCell'])
    simp only [Nat.add_zero] at hst
    have hzc : (Builtin.zeroCells (.string ⟨#[]⟩ : Value).cells 1).toList = [.string ⟨#[]⟩] := by simp [Builtin.zeroCells, Value.cells, Array.range]
    simp [Builtin.clear_, run_underlying Tryz.underlying66, Tryz.zeroValue9, hzc, hst]
  have X1 := toHid hW1
  have HH := toHid h
  have HN := toHid hn
  have HNEWS := toHid hnews
  have hic : i + 1 ≤ cap := by omega
  have hcne : ¬ (cap = i + r) := by omega
  have hii : i ≤ cap := by omega
  have hp0 : (0 : Int) ≤ (i : Int) + 1 := by omega
  have hb2 : (i : Int) + 1 ≤ (i : Int) + 1 + (r : Int) := by omega
  have hb3 : (i : Int) + (r : Int) ≤ (i : Int) + 1 + (r : Int) := by omega
  have hb4 : i + 1 + r ≤ cap := by omega
  have hne : ((i : Int) == (i : Int) + 1) = false := by simp; omega
  have hroom : i + r ≤ cap := by omega
  obtain ⟨i0, hi0, hiz, his, hib⟩ := info_str
  have HI0 := toHid hi0
  have HIS := toHid his
  clear h hn hnews hlen hfl hft hread hcell hfree hblk hb1 hW1 htk hsz hi0 hiz his hib hm
  go_enter Tryz.func186, Tryz.ntmps186
  go_upto_region 5 with fail
  go_region_law (first
    | (refine step_append_room (by rfl) (.tmp 22) (.tmp 25) 66 (by rfl) 9 i0 1 Tryz.underlying66 HI0.out HIS.out g 0 i cap (by simp [Act.eval, Act.put]) A r (cap - (i + 1)) news (by simp [Act.eval, Act.put]) s1.out hsrc.out s2.out hroom s3.out ?_; rw [← X1.out]))
  go_wp2_with fail
  go_ret
  refine ⟨rfl, ?_, ?_⟩
  · have h' : w.drew.ownsRow 0 9 1 (.slice (some ⟨g, 0, none⟩) L.length cap) L.length ((L.map strCell).flatten) := by rw [HN.out, ← strs_flat]; exact HH.out
    have q := own_erase strCell 1 (fun _ => rfl) L i (by rw [HN.out]; omega) h' [.string ⟨#[]⟩] rfl
    have e : i + 1 + r - 1 = i + r := by omega
    rw [HN.out, ← HNEWS.out, e] at q
    rw [X1.out, Nat.zero_add, strs_flat]
    simp only [Nat.mul_one] at q ⊢
    exact q
  · rw [X1.out, setCells_put, setCells_put]
    have k1 := putL_bel g news (0 + i * 1) w.drew
    have k2 := putL_bel g [.string ⟨#[]⟩] (i + r) (putL w.drew g (0 + i * 1) news)
    exact ⟨k2.os.trans k1.os, k2.tape.trans k1.tape, k2.output.trans k1.output, Nat.le_trans k1.size k2.size, fun j _ hj => (putL_other g _ _ _ j hj).trans (putL_other g news _ w.drew j hj)⟩
end Go.Proofs.YtebbjmjgojekdaaGreatDoor
