/-
  What is proved here: what the texts HDel2, KFind, KCopy, KApp prove, in one text.
-/
import Derived.Test.YtdlmlpddkfnfmaaGreatDoorQMAO
import Derived.Test.YtdlmlpddkfnfmaaGreatDoorQMAN
import Derived.Laws.CopyRow
import Derived.Deep.AppendLies
import Derived.Lib.AppendZerosOnto
import Derived.Lib.Overlaps
import Derived.Laws.Externs
import Derived.Laws.OwnMore
namespace Go.Proofs.YtdlmlpddkfnfmaaGreatDoor
open Go.RowKit
set_option linter.unusedVariables false

set_option maxHeartbeats 4000000 in
set_option maxRecDepth 100000 in
theorem deleteP_any (L : List Pr) (g cap i r : Nat) (w : World) (hn : L.length = i + 1 + r) (h : w.ownsRow 0 99 5 (.slice (some ⟨g, 0, none⟩) (i + 1 + r) cap) (i + 1 + r) (rowP L)) (hl : i + 1 + r ≤ 1000) :
    Calls Tryz.prog 155 #[.slice (some ⟨g, 0, none⟩) (i + 1 + r) cap, .int .i64 i, .int .i64 (i + 1)] w fun e w' => e = .returned (.slice (some ⟨g, 0, none⟩) (i + r) cap) ∧ w'.ownsRow 0 99 5 (.slice (some ⟨g, 0, none⟩) (i + r) cap) (i + r) (rowP (L.eraseIdx i)) ∧ Rest (fun j => j = g) w w' := by
  obtain ⟨news, hnews⟩ : ∃ z, z = ((L.drop (i + 1)).map Pr.cells).flatten := ⟨_, rfl⟩
  have hlen : news.length = r * 5 := by rw [hnews, flat_len Pr.cells 5 (fun _ => rfl), List.length_drop, hn]; congr 1; omega
  have hfl : rowP L = ((L.take (i + 1)).map Pr.cells).flatten ++ news := by rw [hnews, ← List.flatten_append, ← List.map_append, List.take_append_drop]; rfl
  have hft : ((L.take (i + 1)).map Pr.cells).flatten.length = (i + 1) * 5 := by rw [flat_len Pr.cells 5 (fun _ => rfl), List.length_take, hn, Nat.min_eq_left (by omega)]
  have hm : maxLen ≤ 9223372036854775807 := by unfold maxLen; decide
  obtain ⟨cur, hblk, hnc, hcm, hsz, htk⟩ : ∃ cur, w.heap[g]? = some (.cells cur 99 (0, 0)) ∧ i + 1 + r ≤ cap ∧ cap ≤ 9223372036854775807 ∧ cur.size = cap * 5 ∧ cur.toList.take ((i + 1 + r) * 5) = rowP L := by
    rcases h.2 with ⟨h0, _⟩ | ⟨g', cap', cur, h0, _, h2, h3, h4, h5, h6⟩
    · cases h0
    · injection h0 with e1 _ e3
      injection e1 with e1
      injection e1 with e1
      subst e1 e3
      exact ⟨cur, h2, h3, Nat.le_trans h4 hm, h5, h6⟩
  have hcell : ∀ o, w.cell? ⟨g, o, none⟩ = cur[o]? := fun o => cell_of hblk o
  have hfree : ∀ o, w.frozen? ⟨g, o, none⟩ = false := fun o => free_of hblk o
  have hread : ∀ t u, news[t]? = some u → w.cell? ⟨g, (i + 1) * 5 + t, none⟩ = some u := fun t u hu => by
    have ht : t < news.length := (List.getElem?_eq_some_iff.1 hu).1
    rw [hcell, ← Array.getElem?_toList]
    have e : (rowP L)[(i + 1) * 5 + t]? = some u := by rw [hfl, List.getElem?_append_right (by omega), hft, Nat.add_sub_cancel_left]; exact hu
    rw [← htk, List.getElem?_take] at e
    split at e
    · exact e
    · cases e
  obtain ⟨A, hA, hsrc⟩ : ∃ A : Addr, (if cap = i + 1 then some (⟨g, 0, none⟩ : Addr) else some ⟨g, (i + 1) * 5, none⟩) = some A ∧ Hid (∀ t u, news[t]? = some u → w.drew.cell? (A.add t) = some u) := by
    by_cases hc : cap = i + 1
    · refine ⟨⟨g, 0, none⟩, by simp [hc], fun t u hu => ?_⟩
      have ht : t < news.length := (List.getElem?_eq_some_iff.1 hu).1
      rw [hlen] at ht
      have : r = 0 := by omega
      subst this
      omega
    · refine ⟨⟨g, (i + 1) * 5, none⟩, by simp [hc], fun t u hu => ?_⟩
      rw [add_none]
      exact hread t u hu
  have s1 : Hid (news.length = r * 5) := hlen
  have s2 : Hid (∀ u ∈ news, u.oneCell' = true) := fun u hu => by
    rw [hnews] at hu
    obtain ⟨l, hl1, hl2⟩ := List.mem_flatten.1 hu
    obtain ⟨x, _, rfl⟩ := List.mem_map.1 hl1
    simp [Pr.cells] at hl2; rcases hl2 with rfl | rfl | rfl | rfl | rfl <;> rfl
  have s3 : Hid (∀ t, t < news.length → (w.drew.cell? ⟨g, 0 + i * 5 + t, none⟩).isSome = true ∧ w.drew.frozen? ⟨g, 0 + i * 5 + t, none⟩ = false) := fun t ht => by
    refine ⟨?_, hfree _⟩
    show (w.cell? _).isSome = true
    rw [hcell]
    have hq : 0 + i * 5 + t < cur.size := by rw [hlen] at ht; rw [hsz]; omega
    rw [Array.getElem?_eq_getElem hq]
    rfl
  obtain ⟨W1, hW1⟩ : ∃ W1, W1 = w.drew.setCells g (0 + i * 5) news := ⟨_, rfl⟩
  have hb1 : W1.heap[g]? = some (.cells (setL cur (0 + i * 5) news) 99 (0, 0)) := by rw [hW1, setCells_put]; exact putL_here news _ w.drew cur hblk
  have hcl : ∀ ty, (Builtin.clear_ #[47] ty #[.slice (some ⟨g, (i + r) * 5, none⟩) (i + 1 + r - (i + r)) (cap - (i + r))]).run Tryz.prog W1 = .ok (.tuple #[]) (W1.setCells g ((i + r) * 5) [.string ⟨#[]⟩, .int .i64 0, .int .i64 0, .string ⟨#[]⟩, .slice none 0 0]) := fun ty => by
    have e1 : i + 1 + r - (i + r) = 1 := by omega
    rw [e1]
    have hst := run_storeCells_cells (P := Tryz.prog) g ((i + r) * 5) [.string ⟨#[]⟩, .int .i64 0, .int .i64 0, .string ⟨#[]⟩, .slice none 0 0] 0 W1 (fun j hj => by
      rw [cell_of hb1]
      have hj' : j < 5 := hj
      have hq : (i + r) * 5 + 0 + j < (setL cur (0 + i * 5) news).size := by rw [setL_size, hsz]; omega
      rw [Array.getElem?_eq_getElem hq]
      rfl) (fun j hj => free_of hb1 _) (by simp [Value.oneCell'])
    simp only [Nat.add_zero] at hst
    have hzc : (Builtin.zeroCells (.agg #[.string ⟨#[]⟩, .int .i64 0, .int .i64 0, .string ⟨#[]⟩, .slice none 0 0] : Value).cells 1).toList = [.string ⟨#[]⟩, .int .i64 0, .int .i64 0, .string ⟨#[]⟩, .slice none 0 0] := by simp [Builtin.zeroCells, Value.cells, Array.range]
    simp [Builtin.clear_, run_underlying Tryz.underlying47, Tryz.zeroValue99, hzc, hst]
  have X1 := toHid hW1
  have HH := toHid h
  have HN := toHid hn
  have HNEWS := toHid hnews
  have hic : i + 1 ≤ cap := by omega
  have hcne : ¬ (cap = i + r) := by omega
  have hii : i ≤ cap := by omega
  have hp0 : (0 : Int) ≤ (i : Int) + 1 := by omega
  have hb2 : (i : Int) + 1 ≤ (i : Int) + 1 + (r : Int) := by omega
  have hb3 : (i : Int) + (r : Int) ≤ (i : Int) + 1 + (r : Int) := by omega
  have hb4 : i + 1 + r ≤ cap := by omega
  have hne : ((i : Int) == (i : Int) + 1) = false := by simp; omega
  have hroom : i + r ≤ cap := by omega
  obtain ⟨i0, hi0, hiz, his, hib⟩ := info_prop
  have HI0 := toHid hi0
  have HIS := toHid his
  clear h hn hnews hlen hfl hft hread hcell hfree hblk hb1 hW1 htk hsz hi0 hiz his hib hm
  go_enter Tryz.func155, Tryz.ntmps155
  go_upto_region 5 with fail
  go_region_law (first
    | (refine step_append_room (by rfl) (.tmp 22) (.tmp 25) 47 (by rfl) 99 i0 5 Tryz.underlying47 HI0.out HIS.out g 0 i cap (by simp [Act.eval, Act.put]) A r (cap - (i + 1)) news (by simp [Act.eval, Act.put]) s1.out hsrc.out s2.out hroom s3.out ?_; rw [← X1.out]))
  go_wp2_with fail
  go_ret
  refine ⟨rfl, ?_, ?_⟩
  · have h' : w.drew.ownsRow 0 99 5 (.slice (some ⟨g, 0, none⟩) L.length cap) L.length ((L.map Pr.cells).flatten) := by rw [HN.out]; exact HH.out
    have q := own_erase Pr.cells 5 (fun _ => rfl) L i (by rw [HN.out]; omega) h' [.string ⟨#[]⟩, .int .i64 0, .int .i64 0, .string ⟨#[]⟩, .slice none 0 0] rfl
    have e : i + 1 + r - 1 = i + r := by omega
    rw [HN.out, ← HNEWS.out, e] at q
    rw [X1.out, Nat.zero_add]
    exact q
  · rw [X1.out, setCells_put, setCells_put]
    have k1 := putL_bel g news (0 + i * 5) w.drew
    have k2 := putL_bel g [.string ⟨#[]⟩, .int .i64 0, .int .i64 0, .string ⟨#[]⟩, .slice none 0 0] ((i + r) * 5) (putL w.drew g (0 + i * 5) news)
    exact ⟨k2.os.trans k1.os, k2.tape.trans k1.tape, k2.output.trans k1.output, Nat.le_trans k1.size k2.size, fun j _ hj => (putL_other g _ _ _ j hj).trans (putL_other g news _ w.drew j hj)⟩

def strCell (s : ByteArray) : List Value := [.string s]
theorem strs_flat (L : List ByteArray) : strs L = (L.map strCell).flatten := by
  induction L with
  | nil => rfl
  | cons s L ih => rw [List.map_cons, List.flatten_cons, ← ih]; rfl

set_option maxHeartbeats 4000000 in
set_option maxRecDepth 100000 in
theorem deleteS_any (L : List ByteArray) (g cap i r : Nat) (w : World) (hn : L.length = i + 1 + r) (h : w.ownsRow 0 9 1 (.slice (some ⟨g, 0, none⟩) (i + 1 + r) cap) (i + 1 + r) (strs L)) (hl : i + 1 + r ≤ 1000) :
    Calls Tryz.prog 197 #[.slice (some ⟨g, 0, none⟩) (i + 1 + r) cap, .int .i64 i, .int .i64 (i + 1)] w fun e w' => e = .returned (.slice (some ⟨g, 0, none⟩) (i + r) cap) ∧ w'.ownsRow 0 9 1 (.slice (some ⟨g, 0, none⟩) (i + r) cap) (i + r) (strs (L.eraseIdx i)) ∧ Rest (fun j => j = g) w w' := by
  obtain ⟨news, hnews⟩ : ∃ z, z = ((L.drop (i + 1)).map strCell).flatten := ⟨_, rfl⟩
  have hlen : news.length = r * 1 := by rw [hnews, flat_len strCell 1 (fun _ => rfl), List.length_drop, hn]; congr 1; omega
  have hfl : strs L = ((L.take (i + 1)).map strCell).flatten ++ news := by rw [hnews, ← List.flatten_append, ← List.map_append, List.take_append_drop]; exact strs_flat L
  have hft : ((L.take (i + 1)).map strCell).flatten.length = (i + 1) * 1 := by rw [flat_len strCell 1 (fun _ => rfl), List.length_take, hn, Nat.min_eq_left (by omega)]
  have hm : maxLen ≤ 9223372036854775807 := by unfold maxLen; decide
  obtain ⟨cur, hblk, hnc, hcm, hsz, htk⟩ : ∃ cur, w.heap[g]? = some (.cells cur 9 (0, 0)) ∧ i + 1 + r ≤ cap ∧ cap ≤ 9223372036854775807 ∧ cur.size = cap * 1 ∧ cur.toList.take ((i + 1 + r) * 1) = strs L := by
    rcases h.2 with ⟨h0, _⟩ | ⟨g', cap', cur, h0, _, h2, h3, h4, h5, h6⟩
    · cases h0
    · injection h0 with e1 _ e3
      injection e1 with e1
      injection e1 with e1
      subst e1 e3
      exact ⟨cur, h2, h3, Nat.le_trans h4 hm, h5, h6⟩
  have hcell : ∀ o, w.cell? ⟨g, o, none⟩ = cur[o]? := fun o => cell_of hblk o
  have hfree : ∀ o, w.frozen? ⟨g, o, none⟩ = false := fun o => free_of hblk o
  have hread : ∀ t u, news[t]? = some u → w.cell? ⟨g, i + 1 + t, none⟩ = some u := fun t u hu => by
    have ht : t < news.length := (List.getElem?_eq_some_iff.1 hu).1
    rw [hcell, ← Array.getElem?_toList]
    have e : (strs L)[i + 1 + t]? = some u := by rw [hfl, List.getElem?_append_right (by omega), hft, Nat.mul_one, Nat.add_sub_cancel_left]; exact hu
    rw [← htk, List.getElem?_take] at e
    split at e
    · exact e
    · cases e
  obtain ⟨A, hA, hsrc⟩ : ∃ A : Addr, (if cap = i + 1 then some (⟨g, 0, none⟩ : Addr) else some ⟨g, i + 1, none⟩) = some A ∧ Hid (∀ t u, news[t]? = some u → w.drew.cell? (A.add t) = some u) := by
    by_cases hc : cap = i + 1
    · refine ⟨⟨g, 0, none⟩, by simp [hc], fun t u hu => ?_⟩
      have ht : t < news.length := (List.getElem?_eq_some_iff.1 hu).1
      rw [hlen] at ht
      have : r = 0 := by omega
      subst this
      omega
    · refine ⟨⟨g, i + 1, none⟩, by simp [hc], fun t u hu => ?_⟩
      rw [add_none]
      exact hread t u hu
  have s1 : Hid (news.length = r * 1) := hlen
  have s2 : Hid (∀ u ∈ news, u.oneCell' = true) := fun u hu => by
    rw [hnews] at hu
    obtain ⟨l, hl1, hl2⟩ := List.mem_flatten.1 hu
    obtain ⟨x, _, rfl⟩ := List.mem_map.1 hl1
    rw [List.mem_singleton.1 hl2]; rfl
  have s3 : Hid (∀ t, t < news.length → (w.drew.cell? ⟨g, 0 + i * 1 + t, none⟩).isSome = true ∧ w.drew.frozen? ⟨g, 0 + i * 1 + t, none⟩ = false) := fun t ht => by
    refine ⟨?_, hfree _⟩
    show (w.cell? _).isSome = true
    rw [hcell]
    have hq : 0 + i * 1 + t < cur.size := by rw [hlen] at ht; rw [hsz]; omega
    rw [Array.getElem?_eq_getElem hq]
    rfl
  obtain ⟨W1, hW1⟩ : ∃ W1, W1 = w.drew.setCells g (0 + i * 1) news := ⟨_, rfl⟩
  have hb1 : W1.heap[g]? = some (.cells (setL cur (0 + i * 1) news) 9 (0, 0)) := by rw [hW1, setCells_put]; exact putL_here news _ w.drew cur hblk
  have hcl : ∀ ty, (Builtin.clear_ #[46] ty #[.slice (some ⟨g, i + r, none⟩) (i + 1 + r - (i + r)) (cap - (i + r))]).run Tryz.prog W1 = .ok (.tuple #[]) (W1.setCells g (i + r) [.string ⟨#[]⟩]) := fun ty => by
    have e1 : i + 1 + r - (i + r) = 1 := by omega
    rw [e1]
    have hst := run_storeCells_cells (P := Tryz.prog) g (i + r) [.string ⟨#[]⟩] 0 W1 (fun j hj => by
      rw [cell_of hb1]
      have hj' : j < 1 := hj
      have hq : i + r + 0 + j < (setL cur (0 + i * 1) news).size := by rw [setL_size, hsz]; omega
      rw [Array.getElem?_eq_getElem hq]
      rfl) (fun j hj => free_of hb1 _) (by simp [Value.oneCell'])
    simp only [Nat.add_zero] at hst
    have hzc : (Builtin.zeroCells (.string ⟨#[]⟩ : Value).cells 1).toList = [.string ⟨#[]⟩] := by simp [Builtin.zeroCells, Value.cells, Array.range]
    simp [Builtin.clear_, run_underlying Tryz.underlying46, Tryz.zeroValue9, hzc, hst]
  have X1 := toHid hW1
  have HH := toHid h
  have HN := toHid hn
  have HNEWS := toHid hnews
  have hic : i + 1 ≤ cap := by omega
  have hcne : ¬ (cap = i + r) := by omega
  have hii : i ≤ cap := by omega
  have hp0 : (0 : Int) ≤ (i : Int) + 1 := by omega
  have hb2 : (i : Int) + 1 ≤ (i : Int) + 1 + (r : Int) := by omega
  have hb3 : (i : Int) + (r : Int) ≤ (i : Int) + 1 + (r : Int) := by omega
  have hb4 : i + 1 + r ≤ cap := by omega
  have hne : ((i : Int) == (i : Int) + 1) = false := by simp; omega
  have hroom : i + r ≤ cap := by omega
  obtain ⟨i0, hi0, hiz, his, hib⟩ := info_str
  have HI0 := toHid hi0
  have HIS := toHid his
  clear h hn hnews hlen hfl hft hread hcell hfree hblk hb1 hW1 htk hsz hi0 hiz his hib hm
  go_enter Tryz.func197, Tryz.ntmps197
  go_upto_region 5 with fail
  go_region_law (first
    | (refine step_append_room (by rfl) (.tmp 22) (.tmp 25) 46 (by rfl) 9 i0 1 Tryz.underlying46 HI0.out HIS.out g 0 i cap (by simp [Act.eval, Act.put]) A r (cap - (i + 1)) news (by simp [Act.eval, Act.put]) s1.out hsrc.out s2.out hroom s3.out ?_; rw [← X1.out]))
  go_wp2_with fail
  go_ret
  refine ⟨rfl, ?_, ?_⟩
  · have h' : w.drew.ownsRow 0 9 1 (.slice (some ⟨g, 0, none⟩) L.length cap) L.length ((L.map strCell).flatten) := by rw [HN.out, ← strs_flat]; exact HH.out
    have q := own_erase strCell 1 (fun _ => rfl) L i (by rw [HN.out]; omega) h' [.string ⟨#[]⟩] rfl
    have e : i + 1 + r - 1 = i + r := by omega
    rw [HN.out, ← HNEWS.out, e] at q
    rw [X1.out, Nat.zero_add, strs_flat]
    simp only [Nat.mul_one] at q ⊢
    exact q
  · rw [X1.out, setCells_put, setCells_put]
    have k1 := putL_bel g news (0 + i * 1) w.drew
    have k2 := putL_bel g [.string ⟨#[]⟩] (i + r) (putL w.drew g (0 + i * 1) news)
    exact ⟨k2.os.trans k1.os, k2.tape.trans k1.tape, k2.output.trans k1.output, Nat.le_trans k1.size k2.size, fun j _ hj => (putL_other g _ _ _ j hj).trans (putL_other g news _ w.drew j hj)⟩

theorem propK_name (x : Pr) (w : World) : Calls Tryz.prog 125 #[.agg #[.string x.name, .int .i64 x.k, .int .i64 x.n, .string x.s, .slice x.a x.l x.c]] w fun e w' => e = .returned (.string x.name) ∧ Below w.heap.size w w' := by
  go_enter Tryz.func125, Tryz.ntmps125
  go_wp2
  go_ret
  exact ⟨rfl, (Below.refl _ _).alloc (Nat.le_refl _) _⟩

theorem propK_cmp (x : Pr) (t : ByteArray) (q : Nat) (w : World) (hq : w.cell? ⟨q, 0, none⟩ = some (.func (.func 125) #[] #[])) (hq2 : q < w.heap.size) : Calls Tryz.prog 152 #[.agg #[.string x.name, .int .i64 x.k, .int .i64 x.n, .string x.s, .slice x.a x.l x.c], .string t, .pointer (some ⟨q, 0, none⟩)] w fun e w' => e = .returned (.int .i64 (cmpS x.name t)) ∧ Below w.heap.size w w' := by
  have HI : Hid (∀ W, Calls Tryz.prog 125 #[.agg #[.string x.name, .int .i64 x.k, .int .i64 x.n, .string x.s, .slice x.a x.l x.c]] W fun e w' => e = .returned (.string x.name) ∧ Below W.heap.size W w') := fun W => propK_name x W
  go_enter Tryz.func152, Tryz.ntmps152
  go_wp2_with fail
  refine (HI.out _).mono ?_
  rintro e w1 ⟨rfl, k1⟩
  have hb1 : Below w.heap.size w w1 := ((Below.refl _ _).alloc (Nat.le_refl _) _).trans (k1.mono (by simp))
  clear k1
  go_wp2_with (go_at_call 153; refine (compare_str _ _ _).mono ?_; rintro e w' ⟨rfl, rfl⟩)
  go_ret
  exact ⟨rfl, hb1⟩

set_option maxHeartbeats 4000000 in
set_option maxRecDepth 100000 in
theorem propK_search (L : List Pr) (a : Option Addr) (l c : Nat) (t : ByteArray) (q : Nat) (w : World) (hq : w.cell? ⟨q, 0, none⟩ = some (.func (.func 125) #[] #[])) (hq2 : q < w.heap.size) (h : PropsAt w L a l) (h60 : l ≤ 60) (hr : RiseS (L.map Pr.name)) :
    Calls Tryz.prog 151 #[.slice a l c, .string t, .func (.func 152) #[] #[.pointer (some ⟨q, 0, none⟩)]] w fun e w' => FoundS (L.map Pr.name) t e ∧ Below w.heap.size w w' := by
  obtain ⟨hl, hmx, hat⟩ := h
  have HAT := toHid hat
  have HL := toHid hl
  have HRI := toHid hr
  have HQ := toHid hq
  have HQ2 := toHid hq2
  have HLM : Hid ((L.map Pr.name).length = l) := toHid (by rw [List.length_map, hl])
  clear hat hl hr hq hq2
  have HNM : Hid (∀ (k : Nat) (x : Pr), L[k]? = some x → (L.map Pr.name)[k]? = some x.name) := fun k x h => by rw [List.getElem?_map, h]; rfl
  go_enter Tryz.func151, Tryz.ntmps151
  go_wp2_with fail
  go_loopg [9, 10] l (fun g s9 s10 wr => ∃ (i j : Nat), i ≤ j ∧ j ≤ l ∧ j - i ≤ g ∧ s9 = .int .i64 i ∧ s10 = .int .i64 j ∧ Below w.heap.size w wr ∧ (∀ k x, k < i → (L.map Pr.name)[k]? = some x → cmpS x t < 0) ∧ (∀ k x, j ≤ k → (L.map Pr.name)[k]? = some x → cmpS t x ≤ 0))
  case atStart => exact ⟨0, l, Nat.zero_le _, Nat.le_refl _, by omega, rfl, rfl, Below.refl _ _, (fun k x hk => absurd hk (Nat.not_lt_zero _)), (fun k x hk hx => by rw [List.getElem?_eq_none (by have := HLM.out; omega)] at hx; cases hx)⟩
  case round =>
    obtain ⟨i, j, hij, hjl, hg, rfl, rfl, hbw, hlo, hhi⟩ := hrel
    have HLO := toHid hlo
    have HHI := toHid hhi
    clear hlo hhi
    by_cases hlt : i < j
    · obtain ⟨m, hm⟩ : ∃ m, m = (i + j) / 2 := ⟨_, rfl⟩
      have hmi : ((i : Int) + (j : Int)) / 2 = (m : Int) := by omega
      have him : i ≤ m := by omega
      have hmj : m < j := by omega
      have HM := toHid hm
      clear hm
      obtain ⟨b, off, ha, hb, hc⟩ := HAT.out (by omega)
      subst ha
      obtain ⟨x, hx, _⟩ := drop_get (L := L) (i := m) (by have := HL.out; omega)
      obtain ⟨c0, c1, c2, c3, c4, c5⟩ := hc m x hx
      have qc : ∀ o, wr.cell? ⟨b, o, none⟩ = w.cell? ⟨b, o, none⟩ := fun o => hbw.cell (p := ⟨b, o, none⟩) hb
      have d1 := (qc _).trans c1
      have d2 := (qc _).trans c2
      have d3 := (qc _).trans c3
      have d4 := (qc _).trans c4
      have d5 := (qc _).trans c5
      clear c0 c1 c2 c3 c4 c5 qc
      have HX := toHid (HNM.out _ _ hx)
      clear hc hx
      have hml : (m : Int) < l := by omega
      go_wp2_with fail
      refine (propK_cmp x t q _ ((hbw.cell (p := ⟨q, 0, none⟩) HQ2.out).trans HQ.out) (Nat.lt_of_lt_of_le HQ2.out hbw.size)).mono ?_
      rintro e w1 ⟨rfl, k1⟩
      have hb1 := hbw.trans (k1.mono hbw.size)
      clear k1 d1 d2 d3 d4 d5
      by_cases hxt : cmpS x.name t < 0
      · have HXT := toHid hxt
        go_wp2_with fail
        go_roundg (j - (m + 1))
        case measure => omega
        case rel =>
          refine ⟨m + 1, j, by omega, hjl, Nat.le_refl _, by go_num, rfl, hb1, fun k y hk hy => ?_, HHI.out⟩
          by_cases hkm : k = m
          · subst hkm
            rw [HX.out] at hy
            injection hy with hy
            subst hy
            exact HXT.out
          · exact cmpS_trans (HRI.out k m y x.name (by omega) hy HX.out) (by have := HXT.out; omega)
      · have HXT := toHid hxt
        go_wp2_with fail
        go_roundg (m - i)
        case measure => omega
        case rel =>
          have hge : cmpS t x.name ≤ 0 := by rw [cmpS_neg]; have := HXT.out; omega
          refine ⟨i, m, him, by omega, Nat.le_refl _, rfl, rfl, hb1, HLO.out, fun k y hk hy => ?_⟩
          by_cases hkm : k = m
          · subst hkm
            rw [HX.out] at hy
            injection hy with hy
            subst hy
            exact hge
          · have := cmpS_trans2 hge (HRI.out m k x.name y (by omega) HX.out hy)
            omega
    · have hjj : j = i := by omega
      subst hjj
      by_cases hil : j < l
      · obtain ⟨b, off, ha, hb, hc⟩ := HAT.out (by omega)
        subst ha
        obtain ⟨x, hx, _⟩ := drop_get (L := L) (i := j) (by have := HL.out; omega)
        obtain ⟨c0, c1, c2, c3, c4, c5⟩ := hc j x hx
        have qc : ∀ o, wr.cell? ⟨b, o, none⟩ = w.cell? ⟨b, o, none⟩ := fun o => hbw.cell (p := ⟨b, o, none⟩) hb
        have d1 := (qc _).trans c1
        have d2 := (qc _).trans c2
        have d3 := (qc _).trans c3
        have d4 := (qc _).trans c4
        have d5 := (qc _).trans c5
        clear c0 c1 c2 c3 c4 c5 qc
        have HX := toHid (HNM.out _ _ hx)
        clear hc hx
        have hml : (j : Int) < l := by omega
        go_wp2_with fail
        refine (propK_cmp x t q _ ((hbw.cell (p := ⟨q, 0, none⟩) HQ2.out).trans HQ.out) (Nat.lt_of_lt_of_le HQ2.out hbw.size)).mono ?_
        rintro e w1 ⟨rfl, k1⟩
        have hb1 := hbw.trans (k1.mono hbw.size)
        clear k1 d1 d2 d3 d4 d5
        by_cases hxt : cmpS x.name t = 0
        · have HXT := toHid (cmpS_zero hxt)
          go_wp2_with fail
          refine bodyPost_ret (v := .tuple #[.int .i64 j, .bool true]) (by simp [results, Tryz.results151, go_sem]) rfl ⟨⟨j, true, rfl, by rw [HLM.out]; omega, HLO.out, HHI.out, fun _ => by rw [HX.out, HXT.out], fun h => by cases h⟩, hb1⟩
        · have hcm : (cmpS x.name t == 0) = false := by simpa using hxt
          have HXT := toHid hxt
          clear hxt
          go_wp2_with fail
          refine bodyPost_ret (v := .tuple #[.int .i64 j, .bool false]) (by simp [results, Tryz.results151, go_sem]) rfl ⟨⟨j, false, rfl, by rw [HLM.out]; omega, HLO.out, HHI.out, fun h => by (cases h), fun _ hin => ?_⟩, hb1⟩
          obtain ⟨k, hk⟩ := List.getElem?_of_mem hin
          rcases Nat.lt_or_ge k j with h | h
          · have := HLO.out k t h hk
            rw [cmpS_self] at this
            omega
          · by_cases hkj : k = j
            · subst hkj
              rw [HX.out] at hk
              injection hk with hk
              exact HXT.out (by rw [hk]; exact cmpS_self t)
            · have h1 := HRI.out j k x.name t (by omega) HX.out hk
              have h2 := HHI.out j x.name (Nat.le_refl _) HX.out
              rw [cmpS_neg] at h2
              omega
      · have hml : ¬ (j : Int) < l := by omega
        go_wp2_with fail
        refine bodyPost_ret (v := .tuple #[.int .i64 j, .bool false]) (by simp [results, Tryz.results151, go_sem]) rfl ⟨⟨j, false, rfl, by rw [HLM.out]; omega, HLO.out, HHI.out, fun h => by (cases h), fun _ hin => ?_⟩, hbw⟩
        obtain ⟨k, hk⟩ := List.getElem?_of_mem hin
        have hkl := (List.getElem?_eq_some_iff.1 hk).1
        have := HLO.out k t (by rw [HLM.out] at hkl; omega) hk
        rw [cmpS_self] at this
        omega

theorem strK_name (x : ByteArray) (w : World) : Calls Tryz.prog 157 #[.string x] w fun e w' => e = .returned (.string x) ∧ Below w.heap.size w w' := by
  go_enter Tryz.func157, Tryz.ntmps157
  go_wp2
  go_ret
  exact ⟨rfl, Below.refl _ _⟩

theorem strK_cmp (x : ByteArray) (t : ByteArray) (q : Nat) (w : World) (hq : w.cell? ⟨q, 0, none⟩ = some (.func (.func 157) #[] #[])) (hq2 : q < w.heap.size) : Calls Tryz.prog 195 #[.string x, .string t, .pointer (some ⟨q, 0, none⟩)] w fun e w' => e = .returned (.int .i64 (cmpS x t)) ∧ Below w.heap.size w w' := by
  have HI : Hid (∀ W, Calls Tryz.prog 157 #[.string x] W fun e w' => e = .returned (.string x) ∧ Below W.heap.size W w') := fun W => strK_name x W
  go_enter Tryz.func195, Tryz.ntmps195
  go_wp2_with fail
  refine (HI.out _).mono ?_
  rintro e w1 ⟨rfl, k1⟩
  have hb1 : Below w.heap.size w w1 := k1
  clear k1
  go_wp2_with (go_at_call 153; refine (compare_str _ _ _).mono ?_; rintro e w' ⟨rfl, rfl⟩)
  go_ret
  exact ⟨rfl, hb1⟩

set_option maxHeartbeats 4000000 in
set_option maxRecDepth 100000 in
theorem strK_search (L : List ByteArray) (a : Option Addr) (l c : Nat) (t : ByteArray) (q : Nat) (w : World) (hq : w.cell? ⟨q, 0, none⟩ = some (.func (.func 157) #[] #[])) (hq2 : q < w.heap.size) (h : StrsAt w L a l) (h60 : l ≤ 60) (hr : RiseS L) :
    Calls Tryz.prog 194 #[.slice a l c, .string t, .func (.func 195) #[] #[.pointer (some ⟨q, 0, none⟩)]] w fun e w' => FoundS L t e ∧ Below w.heap.size w w' := by
  obtain ⟨hl, hmx, hat⟩ := h
  have HAT := toHid hat
  have HL := toHid hl
  have HRI := toHid hr
  have HQ := toHid hq
  have HQ2 := toHid hq2
  have HLM : Hid (L.length = l) := toHid (by rw [hl])
  clear hat hl hr hq hq2
  have HNM : Hid (∀ (k : Nat) (x : ByteArray), L[k]? = some x → L[k]? = some x) := fun k x h => by exact h
  go_enter Tryz.func194, Tryz.ntmps194
  go_wp2_with fail
  go_loopg [9, 10] l (fun g s9 s10 wr => ∃ (i j : Nat), i ≤ j ∧ j ≤ l ∧ j - i ≤ g ∧ s9 = .int .i64 i ∧ s10 = .int .i64 j ∧ Below w.heap.size w wr ∧ (∀ k x, k < i → L[k]? = some x → cmpS x t < 0) ∧ (∀ k x, j ≤ k → L[k]? = some x → cmpS t x ≤ 0))
  case atStart => exact ⟨0, l, Nat.zero_le _, Nat.le_refl _, by omega, rfl, rfl, Below.refl _ _, (fun k x hk => absurd hk (Nat.not_lt_zero _)), (fun k x hk hx => by rw [List.getElem?_eq_none (by have := HLM.out; omega)] at hx; cases hx)⟩
  case round =>
    obtain ⟨i, j, hij, hjl, hg, rfl, rfl, hbw, hlo, hhi⟩ := hrel
    have HLO := toHid hlo
    have HHI := toHid hhi
    clear hlo hhi
    by_cases hlt : i < j
    · obtain ⟨m, hm⟩ : ∃ m, m = (i + j) / 2 := ⟨_, rfl⟩
      have hmi : ((i : Int) + (j : Int)) / 2 = (m : Int) := by omega
      have him : i ≤ m := by omega
      have hmj : m < j := by omega
      have HM := toHid hm
      clear hm
      obtain ⟨b, off, ha, hb, hc⟩ := HAT.out (by omega)
      subst ha
      obtain ⟨x, hx, _⟩ := drop_get (L := L) (i := m) (by have := HL.out; omega)
      obtain ⟨c0, c1⟩ := hc m x hx
      have qc : ∀ o, wr.cell? ⟨b, o, none⟩ = w.cell? ⟨b, o, none⟩ := fun o => hbw.cell (p := ⟨b, o, none⟩) hb
      have d1 := (qc _).trans c1
      clear c0 c1 qc
      have HX := toHid (HNM.out _ _ hx)
      clear hc hx
      have hml : (m : Int) < l := by omega
      go_wp2_with fail
      refine (strK_cmp x t q _ ((hbw.cell (p := ⟨q, 0, none⟩) HQ2.out).trans HQ.out) (Nat.lt_of_lt_of_le HQ2.out hbw.size)).mono ?_
      rintro e w1 ⟨rfl, k1⟩
      have hb1 := hbw.trans (k1.mono hbw.size)
      clear k1 d1
      by_cases hxt : cmpS x t < 0
      · have HXT := toHid hxt
        go_wp2_with fail
        go_roundg (j - (m + 1))
        case measure => omega
        case rel =>
          refine ⟨m + 1, j, by omega, hjl, Nat.le_refl _, by go_num, rfl, hb1, fun k y hk hy => ?_, HHI.out⟩
          by_cases hkm : k = m
          · subst hkm
            rw [HX.out] at hy
            injection hy with hy
            subst hy
            exact HXT.out
          · exact cmpS_trans (HRI.out k m y x (by omega) hy HX.out) (by have := HXT.out; omega)
      · have HXT := toHid hxt
        go_wp2_with fail
        go_roundg (m - i)
        case measure => omega
        case rel =>
          have hge : cmpS t x ≤ 0 := by rw [cmpS_neg]; have := HXT.out; omega
          refine ⟨i, m, him, by omega, Nat.le_refl _, rfl, rfl, hb1, HLO.out, fun k y hk hy => ?_⟩
          by_cases hkm : k = m
          · subst hkm
            rw [HX.out] at hy
            injection hy with hy
            subst hy
            exact hge
          · have := cmpS_trans2 hge (HRI.out m k x y (by omega) HX.out hy)
            omega
    · have hjj : j = i := by omega
      subst hjj
      by_cases hil : j < l
      · obtain ⟨b, off, ha, hb, hc⟩ := HAT.out (by omega)
        subst ha
        obtain ⟨x, hx, _⟩ := drop_get (L := L) (i := j) (by have := HL.out; omega)
        obtain ⟨c0, c1⟩ := hc j x hx
        have qc : ∀ o, wr.cell? ⟨b, o, none⟩ = w.cell? ⟨b, o, none⟩ := fun o => hbw.cell (p := ⟨b, o, none⟩) hb
        have d1 := (qc _).trans c1
        clear c0 c1 qc
        have HX := toHid (HNM.out _ _ hx)
        clear hc hx
        have hml : (j : Int) < l := by omega
        go_wp2_with fail
        refine (strK_cmp x t q _ ((hbw.cell (p := ⟨q, 0, none⟩) HQ2.out).trans HQ.out) (Nat.lt_of_lt_of_le HQ2.out hbw.size)).mono ?_
        rintro e w1 ⟨rfl, k1⟩
        have hb1 := hbw.trans (k1.mono hbw.size)
        clear k1 d1
        by_cases hxt : cmpS x t = 0
        · have HXT := toHid (cmpS_zero hxt)
          go_wp2_with fail
          refine bodyPost_ret (v := .tuple #[.int .i64 j, .bool true]) (by simp [results, Tryz.results194, go_sem]) rfl ⟨⟨j, true, rfl, by rw [HLM.out]; omega, HLO.out, HHI.out, fun _ => by rw [HX.out, HXT.out], fun h => by cases h⟩, hb1⟩
        · have hcm : (cmpS x t == 0) = false := by simpa using hxt
          have HXT := toHid hxt
          clear hxt
          go_wp2_with fail
          refine bodyPost_ret (v := .tuple #[.int .i64 j, .bool false]) (by simp [results, Tryz.results194, go_sem]) rfl ⟨⟨j, false, rfl, by rw [HLM.out]; omega, HLO.out, HHI.out, fun h => by (cases h), fun _ hin => ?_⟩, hb1⟩
          obtain ⟨k, hk⟩ := List.getElem?_of_mem hin
          rcases Nat.lt_or_ge k j with h | h
          · have := HLO.out k t h hk
            rw [cmpS_self] at this
            omega
          · by_cases hkj : k = j
            · subst hkj
              rw [HX.out] at hk
              injection hk with hk
              exact HXT.out (by rw [hk]; exact cmpS_self t)
            · have h1 := HRI.out j k x t (by omega) HX.out hk
              have h2 := HHI.out j x (Nat.le_refl _) HX.out
              rw [cmpS_neg] at h2
              omega
      · have hml : ¬ (j : Int) < l := by omega
        go_wp2_with fail
        refine bodyPost_ret (v := .tuple #[.int .i64 j, .bool false]) (by simp [results, Tryz.results194, go_sem]) rfl ⟨⟨j, false, rfl, by rw [HLM.out]; omega, HLO.out, HHI.out, fun h => by (cases h), fun _ hin => ?_⟩, hbw⟩
        obtain ⟨k, hk⟩ := List.getElem?_of_mem hin
        have hkl := (List.getElem?_eq_some_iff.1 hk).1
        have := HLO.out k t (by rw [HLM.out] at hkl; omega) hk
        rw [cmpS_self] at this
        omega

theorem run_copy_more {P : Program} (w : World) (dT sT ty elem : TypeId) (g o dLen dCap : Nat) (a : Addr) (sLen sCap : Nat) (cur : Array Value) (t : TypeId) (cs : List Value) (i : TypeInfo) (k n : Nat)
    (hu : P.underlying dT = some (.slice elem)) (hi : P.info? elem = some i) (hk : i.size = k)
    (hg : w.heap[g]? = some (.cells cur t (0, 0))) (hn : n = Nat.min sLen dLen) (hl : cs.length = n * k)
    (hsrc : ∀ j v, cs[j]? = some v → w.cell? (a.add j) = some v) (hfit : o + cs.length ≤ cur.size) (h1 : ∀ v ∈ cs, v.oneCell' = true) :
    (Builtin.copy_ #[dT, sT] ty #[.slice (some ⟨g, o, none⟩) dLen dCap, .slice (some a) sLen sCap]).run P w =
      .ok (goInt n) (w.setRow g (cur.toList.take o ++ cs ++ cur.toList.drop (o + cs.length)).toArray) := by
  have hld := run_loadCells_list (P := P) w a cs hsrc
  have hst := run_storeCells_at P g o t cs 0 cur w hg (by simpa using hfit) h1
  rw [hl] at hld
  simp [Builtin.copy_, run_underlying hu, Builtin.lenOf, Builtin.firstCells, sizeOf, typeInfo, hi, hk, ← hn, hld, hst]

theorem wp_copy_eq {P : Program} (w : World) {o : Oper} {a : Act} {K : Act → World → Prop} {Q : Exit → Act → World → Prop} (d s : Operand) (t t' : TypeId)
    (ho : o.op = .call { callee := .builtin .copy, args := #[d, s], argTypes := #[t, t'] }) (v u : Value) (hd : a.eval d = v) (hs : a.eval s = u) (v' : Value) (w' : World)
    (hr : (Builtin.copy_ #[t, t'] o.type #[v, u]).run P w = .ok v' w') (h : K (a.put o.dst v') w') : o.wp P a w K Q := by
  unfold Oper.wp
  simp [execOp, ho, resolve, invoke, builtin, hd, hs, hr, Result.andThen]
  exact h

theorem list_copy_eq {P : Program} (w : World) {ops : Array Oper} {rest : List Oper} {o : Oper} {a : Act} {Q : Exit → Act → World → Prop} (hgd : o.guard = none) (d s : Operand) (t t' : TypeId)
    (ho : o.op = .call { callee := .builtin .copy, args := #[d, s], argTypes := #[t, t'] }) (v u : Value) (hd : a.eval d = v) (hs : a.eval s = u) (v' : Value) (w' : World)
    (hr : (Builtin.copy_ #[t, t'] o.type #[v, u]).run P w = .ok v' w') (h : wpList P ops Q rest (a.put o.dst v') w') : wpList P ops Q (o :: rest) a w :=
  wpList_plain hgd fun _ hK => wp_copy_eq w d s t t' ho v u hd hs v' w' hr (hK _ _ h)

theorem step_copy_eq {P : Program} {ops : Array Oper} {o : Oper} {a : Act} {w : World} {K : Act → World → Prop} {Q : Exit → Act → World → Prop} {E : Prop} (hgd : o.guard = none) (d s : Operand) (t t' : TypeId)
    (ho : o.op = .call { callee := .builtin .copy, args := #[d, s], argTypes := #[t, t'] }) (v u : Value) (hd : a.eval d = v) (hs : a.eval s = u) (v' : Value) (w' : World)
    (hr : (Builtin.copy_ #[t, t'] o.type #[v, u]).run P w = .ok v' w') (h : K (a.put o.dst v') w') :
    if Region.wanted o (yielded ops a.tmps) = true then Oper.wp P o a w K Q else E := by
  have hw : Region.wanted o (yielded ops a.tmps) = true := by simp [Region.wanted, hgd]
  rw [if_pos hw]
  exact wp_copy_eq w d s t t' ho v u hd hs v' w' hr h

theorem list_append_eq {P : Program} (w : World) {ops : Array Oper} {rest : List Oper} {o : Oper} {a : Act} {Q : Exit → Act → World → Prop} (hgd : o.guard = none) (d s : Operand) (t t' : TypeId)
    (ho : o.op = .call { callee := .builtin .append, args := #[d, s], argTypes := #[t, t'] }) (v u : Value) (hd : a.eval d = v) (hs : a.eval s = u) (v' : Value) (w' : World)
    (hr : (Builtin.append_ #[t, t'] o.type #[v, u]).run P w = .ok v' w') (h : wpList P ops Q rest (a.put o.dst v') w') : wpList P ops Q (o :: rest) a w := by
  refine wpList_plain hgd fun _ hK => ?_
  unfold Oper.wp
  simp [execOp, ho, resolve, invoke, builtin, hd, hs, hr, Result.andThen]
  exact hK _ _ h

/-- An element laid into a list. -/
def insL {α : Type} (L : List α) (i : Nat) (x : α) : List α := L.take i ++ x :: L.drop i

theorem insL_len {α : Type} (L : List α) (i : Nat) (x : α) (hi : i ≤ L.length) : (insL L i x).length = L.length + 1 := by
  simp [insL]
  omega

theorem flat_ins {α : Type} (f : α → List Value) (L : List α) (i : Nat) (x : α) : ((insL L i x).map f).flatten = ((L.take i).map f).flatten ++ f x ++ ((L.drop i).map f).flatten := by
  simp [insL]

/-- In place: first the others are moved up, then it is laid down. -/
theorem shift_list {α : Type} (f : α → List Value) (k : Nat) (hk : ∀ x, (f x).length = k) (L : List α) (i : Nat) (x : α) (hi : i ≤ L.length) (cur cur1 cur2 : List Value) (hc : (L.length + 1) * k ≤ cur.length) (ht : cur.take (L.length * k) = (L.map f).flatten)
    (h1 : cur1 = cur.take ((i + 1) * k) ++ ((L.drop i).map f).flatten ++ cur.drop ((i + 1) * k + ((L.drop i).map f).flatten.length))
    (h2 : cur2 = cur1.take (i * k) ++ f x ++ cur1.drop (i * k + (f x).length)) : cur2.length = cur.length ∧ cur2.take ((L.length + 1) * k) = ((insL L i x).map f).flatten := by
  have hd : ((L.drop i).map f).flatten.length = (L.length - i) * k := by rw [flat_len f k hk, List.length_drop]
  have hx := hk x
  have e1 : (i + 1) * k = i * k + k := Nat.succ_mul i k
  have e2 : (L.length + 1) * k = L.length * k + k := Nat.succ_mul _ k
  have e3 : (L.length - i) * k + i * k = L.length * k := by rw [← Nat.add_mul]; congr 1; omega
  have hle : i * k ≤ L.length * k := Nat.mul_le_mul_right k hi
  have l1 : (cur.take ((i + 1) * k)).length = i * k + k := by rw [List.length_take]; omega
  have c1 : cur1.take (i * k) = ((L.take i).map f).flatten := by
    rw [h1, List.append_assoc, List.take_append_of_le_length (by omega), List.take_take, Nat.min_eq_left (by omega)]
    rw [show cur.take (i * k) = (cur.take (L.length * k)).take (i * k) by rw [List.take_take, Nat.min_eq_left hle], ht, flat_take f k hk L i hi]
  have c2 : cur1.drop (i * k + (f x).length) = ((L.drop i).map f).flatten ++ cur.drop ((i + 1) * k + ((L.drop i).map f).flatten.length) := by
    rw [h1, List.append_assoc, hx, ← l1, List.drop_left]
  have l2 : ((L.take i).map f).flatten.length = i * k := by rw [flat_len f k hk, List.length_take, Nat.min_eq_left hi]
  rw [c1, c2] at h2
  refine ⟨?_, ?_⟩
  · rw [h2]
    simp only [List.length_append, List.length_drop, hd, l2, hx]
    omega
  · rw [h2, flat_ins]
    have e : (L.length + 1) * k = (((L.take i).map f).flatten ++ f x ++ ((L.drop i).map f).flatten).length := by
      simp only [List.length_append, hd, l2, hx]
      omega
    rw [e, ← List.append_assoc, List.take_left]

/-- In a new row: first it is laid down, then the others behind it. -/
theorem grow_list {α : Type} (f : α → List Value) (k : Nat) (hk : ∀ x, (f x).length = k) (L : List α) (i : Nat) (x : α) (hi : i ≤ L.length) (cur cur1 cur2 : List Value) (hc : (L.length + 1) * k ≤ cur.length) (ht : cur.take (i * k) = ((L.take i).map f).flatten)
    (h1 : cur1 = cur.take (i * k) ++ f x ++ cur.drop (i * k + (f x).length))
    (h2 : cur2 = cur1.take ((i + 1) * k) ++ ((L.drop i).map f).flatten ++ cur1.drop ((i + 1) * k + ((L.drop i).map f).flatten.length)) : cur2.length = cur.length ∧ cur2.take ((L.length + 1) * k) = ((insL L i x).map f).flatten := by
  have hd : ((L.drop i).map f).flatten.length = (L.length - i) * k := by rw [flat_len f k hk, List.length_drop]
  have hx := hk x
  have e1 : (i + 1) * k = i * k + k := Nat.succ_mul i k
  have e2 : (L.length + 1) * k = L.length * k + k := Nat.succ_mul _ k
  have e3 : (L.length - i) * k + i * k = L.length * k := by rw [← Nat.add_mul]; congr 1; omega
  have hle : i * k ≤ L.length * k := Nat.mul_le_mul_right k hi
  have l2 : ((L.take i).map f).flatten.length = i * k := by rw [flat_len f k hk, List.length_take, Nat.min_eq_left hi]
  have hl1 : cur1.length = cur.length := by
    rw [h1, ht]
    simp only [List.length_append, List.length_drop, l2, hx]
    omega
  have c1 : cur1.take ((i + 1) * k) = ((L.take i).map f).flatten ++ f x := by
    have e : (i + 1) * k = (((L.take i).map f).flatten ++ f x).length := by rw [List.length_append, l2, hx]; omega
    rw [h1, ht, e, List.take_left]
  rw [c1] at h2
  refine ⟨?_, ?_⟩
  · rw [h2]
    simp only [List.length_append, List.length_drop, hd, l2, hx, hl1]
    omega
  · rw [h2, flat_ins]
    have e : (L.length + 1) * k = (((L.take i).map f).flatten ++ f x ++ ((L.drop i).map f).flatten).length := by
      simp only [List.length_append, hd, l2, hx]
      omega
    rw [e, List.take_left]

section
variable {P : Program} (w : World)

theorem run_append_both (t ty : TypeId) (base : Nat) (e : TypeId) (i : TypeInfo) (z : Value) (size bytes : Nat) (ht : P.underlying t = some (.slice e)) (hi : P.info? e = some i) (hz : i.zero = some z)
    (hsize : i.size = size) (hby : i.bytes = bytes) (hzs : z.cells.size = size) (hsz : 0 < size)
    (v : Value) (n : Nat) (xs : List Value) (hown : w.ownsRow base e size v n xs)
    (ax : Option Addr) (m c : Nat) (news : List Value) (hl : news.length = m * size) (hnews : ∀ j u, news[j]? = some u → ∃ ad, ax = some ad ∧ w.cell? (ad.add j) = some u) (h1 : ∀ u ∈ news, u.oneCell' = true)
    (h63 : n + m ≤ maxLen) (hbytes : (n + m) * bytes ≤ 140737488355328) (hbase : base ≤ w.heap.size) :
    ∃ v' w', (Builtin.append_ #[t, t] ty #[v, .slice ax m c]).run P w = .ok v' w' ∧
      w'.ownsRow base e size v' (n + m) (xs ++ news) ∧ w.grownBy w' v.ownBlock ∧ (v'.ownBlock = v.ownBlock ∨ v'.ownBlock = some w.heap.size) := by
  cases ax with
  | some ad =>
    obtain ⟨v', w', hr, h2, h3, _, h5⟩ := run_append_own_at (P := P) w base t ty e i z size bytes ht hi hz hsize hby hzs hsz v n xs hown ad m c news hl (fun j u hu => by
      obtain ⟨ad', e1, e2⟩ := hnews j u hu
      cases e1
      exact e2) h1 h63 hbytes hbase
    exact ⟨v', w', hr, h2, h3, h5⟩
  | none =>
    have hn : news = [] := by
      cases news with
      | nil => rfl
      | cons u us =>
        obtain ⟨_, e1, _⟩ := hnews 0 u rfl
        cases e1
    subst hn
    have hm : m = 0 := by
      rcases Nat.eq_zero_or_pos m with h | h
      · exact h
      · have := Nat.mul_pos h hsz
        simp at hl
        omega
    subst hm
    refine ⟨v, w, ?_, by simpa using hown, ⟨rfl, rfl, rfl, Nat.le_refl _, fun _ _ _ => rfl⟩, .inl rfl⟩
    rcases hown.2 with ⟨rfl, rfl⟩ | ⟨g, cap, cur, rfl, _, _, hnc, _⟩
    · simp [Builtin.append_, run_underlying ht, sizeOf, typeInfo, hi, Builtin.lenOf, Builtin.firstCells]
    · simp [Builtin.append_, run_underlying ht, sizeOf, typeInfo, hi, Builtin.lenOf, Builtin.firstCells, hnc, storeCells]

theorem wp_append_both {o : Oper} {a : Act} {K : Act → World → Prop} {Q : Exit → Act → World → Prop} (s x : Operand) (t : TypeId)
    (ho : o.op = .call { callee := .builtin .append, args := #[s, x], argTypes := #[t, t] })
    (base : Nat) (e : TypeId) (i : TypeInfo) (z : Value) (size bytes : Nat) (ht : P.underlying t = some (.slice e)) (hi : P.info? e = some i) (hz : i.zero = some z)
    (hsize : i.size = size) (hby : i.bytes = bytes) (hzs : z.cells.size = size) (hsz : 0 < size)
    (v : Value) (n : Nat) (xs : List Value) (hs : a.eval s = v) (hown : w.ownsRow base e size v n xs)
    (ax : Option Addr) (m c : Nat) (news : List Value) (hx : a.eval x = .slice ax m c) (hl : news.length = m * size) (hnews : ∀ j u, news[j]? = some u → ∃ ad, ax = some ad ∧ w.cell? (ad.add j) = some u) (h1 : ∀ u ∈ news, u.oneCell' = true)
    (h63 : n + m ≤ maxLen) (hbytes : (n + m) * bytes ≤ 140737488355328) (hbase : base ≤ w.heap.size)
    (h : ∀ v' w', w'.ownsRow base e size v' (n + m) (xs ++ news) → w.grownBy w' v.ownBlock → (v'.ownBlock = v.ownBlock ∨ v'.ownBlock = some w.heap.size) → K (a.put o.dst v') w') : o.wp P a w K Q := by
  obtain ⟨v', w', hr, h2, h3, h4⟩ := run_append_both (P := P) w t o.type base e i z size bytes ht hi hz hsize hby hzs hsz v n xs hown ax m c news hl hnews h1 h63 hbytes hbase
  unfold Oper.wp execOp
  simp only [ho, resolve, invoke, builtin, Sem.run_bind, Sem.run_pure, Result.andThen_ok, List.map_toArray, List.map_cons, List.map_nil, hs, hx, hr]
  exact h v' w' h2 h3 h4

theorem wpList_append_both {ops : Array Oper} {rest : List Oper} {o : Oper} {a : Act} {Q : Exit → Act → World → Prop} (hgd : o.guard = none) (s x : Operand) (t : TypeId)
    (ho : o.op = .call { callee := .builtin .append, args := #[s, x], argTypes := #[t, t] })
    (base : Nat) (e : TypeId) (i : TypeInfo) (z : Value) (size bytes : Nat) (ht : P.underlying t = some (.slice e)) (hi : P.info? e = some i) (hz : i.zero = some z)
    (hsize : i.size = size) (hby : i.bytes = bytes) (hzs : z.cells.size = size) (hsz : 0 < size)
    (v : Value) (n : Nat) (xs : List Value) (hs : a.eval s = v) (hown : w.ownsRow base e size v n xs)
    (ax : Option Addr) (m c : Nat) (news : List Value) (hx : a.eval x = .slice ax m c) (hl : news.length = m * size) (hnews : ∀ j u, news[j]? = some u → ∃ ad, ax = some ad ∧ w.cell? (ad.add j) = some u) (h1 : ∀ u ∈ news, u.oneCell' = true)
    (h63 : n + m ≤ maxLen) (hbytes : (n + m) * bytes ≤ 140737488355328) (hbase : base ≤ w.heap.size)
    (h : ∀ v' w', w'.ownsRow base e size v' (n + m) (xs ++ news) → w.grownBy w' v.ownBlock → (v'.ownBlock = v.ownBlock ∨ v'.ownBlock = some w.heap.size) → wpList P ops Q rest (a.put o.dst v') w') : wpList P ops Q (o :: rest) a w :=
  wpList_plain hgd fun _ hK => wp_append_both w s x t ho base e i z size bytes ht hi hz hsize hby hzs hsz v n xs hs hown ax m c news hx hl hnews h1 h63 hbytes hbase fun v' w' h2 h3 h4 => hK _ _ (h v' w' h2 h3 h4)

theorem step_append_both {ops : Array Oper} {o : Oper} {a : Act} {K : Act → World → Prop} {Q : Exit → Act → World → Prop} {E : Prop} (hgd : o.guard = none) (s x : Operand) (t : TypeId)
    (ho : o.op = .call { callee := .builtin .append, args := #[s, x], argTypes := #[t, t] })
    (base : Nat) (e : TypeId) (i : TypeInfo) (z : Value) (size bytes : Nat) (ht : P.underlying t = some (.slice e)) (hi : P.info? e = some i) (hz : i.zero = some z)
    (hsize : i.size = size) (hby : i.bytes = bytes) (hzs : z.cells.size = size) (hsz : 0 < size)
    (v : Value) (n : Nat) (xs : List Value) (hs : a.eval s = v) (hown : w.ownsRow base e size v n xs)
    (ax : Option Addr) (m c : Nat) (news : List Value) (hx : a.eval x = .slice ax m c) (hl : news.length = m * size) (hnews : ∀ j u, news[j]? = some u → ∃ ad, ax = some ad ∧ w.cell? (ad.add j) = some u) (h1 : ∀ u ∈ news, u.oneCell' = true)
    (h63 : n + m ≤ maxLen) (hbytes : (n + m) * bytes ≤ 140737488355328) (hbase : base ≤ w.heap.size)
    (h : ∀ v' w', w'.ownsRow base e size v' (n + m) (xs ++ news) → w.grownBy w' v.ownBlock → (v'.ownBlock = v.ownBlock ∨ v'.ownBlock = some w.heap.size) → K (a.put o.dst v') w') :
    if Region.wanted o (yielded ops a.tmps) = true then Oper.wp P o a w K Q else E := by
  have hw : Region.wanted o (yielded ops a.tmps) = true := by simp [Region.wanted, hgd]
  rw [if_pos hw]
  exact wp_append_both w s x t ho base e i z size bytes ht hi hz hsize hby hzs hsz v n xs hs hown ax m c news hx hl hnews h1 h63 hbytes hbase h

end
end Go.Proofs.YtdlmlpddkfnfmaaGreatDoor
