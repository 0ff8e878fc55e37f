/-
  What is proved here: what slices.Insert answers of one property, and of one text, laid into a row of one's own: at its end, in place, or in a new row.
-/
import Derived.Test.YtebbjmjgojekdaaGreatDoorQCAG
import Derived.Test.YtebbjmjgojekdaaGreatDoorKCopy
import Derived.Deep.RegionLaw
namespace Go.Proofs.YtebbjmjgojekdaaGreatDoor
open Go.RowKit
set_option linter.unusedVariables false

/-- What Insert leaves. -/
def InsEnd {α : Type} (f : α → List Value) (k : Nat) (T : TypeId) (L : List α) (i : Nat) (x : α) (v : Value) (w w' : World) (e : Ending) : Prop :=
  (∃ v', e = .returned v' ∧ w'.ownsRow 0 T k v' (L.length + 1) (((insL L i x).map f).flatten) ∧ ∀ g, v'.ownBlock = some g → v.ownBlock = some g ∨ w.heap.size ≤ g) ∧ Rest (fun j => v.ownBlock = some j) w w'

theorem Rest.setRow {O : Nat → Prop} {w u : World} (h : Rest O w u) (g : Nat) (hg : O g ∨ w.heap.size ≤ g) (cs : Array Value) : Rest O w (u.setRow g cs) :=
  ⟨h.os, h.tape, h.output, Nat.le_trans h.size (by simp), fun i hi hn => (setRow_other u g i cs (fun e => hg.elim (fun q => hn (e ▸ q)) (fun q => by omega))).trans (h.block i hi hn)⟩

theorem Rest.drew {O : Nat → Prop} {w u : World} (h : Rest O w u) : Rest O w u.drew := ⟨h.os, h.tape, h.output, h.size, h.block⟩

set_option maxHeartbeats 4000000 in
set_option maxRecDepth 100000 in
theorem insP_end (L : List Pr) (a : Option Addr) (n cap : Nat) (x : Pr) (vb : Nat) (w : World) (h : w.ownsRow 0 102 5 (.slice a n cap) n ((L.map Pr.cells).flatten)) (hn : n = L.length) (hl : n ≤ 1000) (hx : w.heap[vb]? = some (.cells (Pr.cells x).toArray 102 (0, 0))) :
    Calls Tryz.prog 162 #[.slice a n cap, .int .i64 n, .slice (some ⟨vb, 0, none⟩) 1 1] w fun e w' => InsEnd Pr.cells 5 102 L n x (.slice a n cap) w w' e := by
  obtain ⟨i0, hi0, hiz, his, hib⟩ := info_prop
  have HI0 := toHid hi0
  have HIZ := toHid hiz
  have HIS := toHid his
  have HIB := toHid hib
  have HH := toHid h
  have HX : Hid (∀ j u, (Pr.cells x)[j]? = some u → ∃ ad, (some ⟨vb, 0, none⟩ : Option Addr) = some ad ∧ w.cell? (ad.add j) = some u) := fun j u hu => ⟨_, rfl, by
    rw [add_none, cell_of hx, List.getElem?_toArray, Nat.zero_add]
    exact hu⟩
  have HONE : Hid (∀ u ∈ Pr.cells x, u.oneCell' = true) := fun u hu => by
    simp [Pr.cells] at hu; rcases hu with rfl | rfl | rfl | rfl | rfl <;> rfl
  have HN := toHid hn
  obtain ⟨hrl, hlc, _⟩ := row_len h
  have HB1 : n + 1 ≤ maxLen := by unfold maxLen; omega
  have HB2 : (n + 1) * 72 ≤ 140737488355328 := by omega
  have hc63 : cap ≤ 9223372036854775807 := by
    have hm : maxLen ≤ 9223372036854775807 := by unfold maxLen; decide
    rcases h.2 with ⟨h0, _⟩ | ⟨g', cap', cur, h0, _, h2, h3, h4, _⟩
    · injection h0 with _ _ e3
      omega
    · injection h0 with _ _ e3
      omega
  clear h hn hi0 hiz his hib
  rcases Nat.eq_or_lt_of_le hlc with hcn | hcn
  · subst hcn
    go_enter Tryz.func162, Tryz.ntmps162
    go_wp2_with (at_builtin; refine wpList_append_both _ rfl _ _ 45 rfl 0 102 i0 _ 5 72 Tryz.underlying45 HI0.out HIZ.out HIS.out HIB.out rfl (by omega) (.slice a n n) n _ rfl HH.out (some ⟨vb, 0, none⟩) 1 1 (Pr.cells x) rfl rfl HX.out HONE.out HB1 HB2 (Nat.zero_le _) ?_)
    intro v1 w1 hown hg hat
    have HOWN := toHid hown
    have HG := toHid hg
    have HAT := toHid hat
    obtain ⟨av, cv, hv, hcv⟩ := slice_of_row hown
    subst hv
    clear hown hg hat
    go_wp2_with fail
    go_ret
    refine ⟨⟨_, rfl, ?_, fun g hg => ?_⟩, HG.out.os, HG.out.tape, HG.out.output, HG.out.size, fun i hi hn => HG.out.block i hi (fun e => hn e.symm)⟩
    · have h := HOWN.out
      rw [flat_ins, HN.out, List.take_length, List.drop_length]
      rw [HN.out] at h
      simpa using h
    · rcases HAT.out with e | e
      · exact .inl (e ▸ hg)
      · have hg' : (Value.slice av (n + 1) cv).ownBlock = some g := hg
        rw [e] at hg'
        injection hg' with hg'
        exact .inr (by omega)
  · have hcn' : ¬ cap = n := by omega
    go_enter Tryz.func162, Tryz.ntmps162
    go_wp2_with (at_builtin; refine wpList_append_both _ rfl _ _ 45 rfl 0 102 i0 _ 5 72 Tryz.underlying45 HI0.out HIZ.out HIS.out HIB.out rfl (by omega) (.slice a n cap) n _ rfl HH.out (some ⟨vb, 0, none⟩) 1 1 (Pr.cells x) rfl rfl HX.out HONE.out HB1 HB2 (Nat.zero_le _) ?_)
    intro v1 w1 hown hg hat
    have HOWN := toHid hown
    have HG := toHid hg
    have HAT := toHid hat
    obtain ⟨av, cv, hv, hcv⟩ := slice_of_row hown
    subst hv
    clear hown hg hat
    go_wp2_with fail
    go_ret
    refine ⟨⟨_, rfl, ?_, fun g hg => ?_⟩, HG.out.os, HG.out.tape, HG.out.output, HG.out.size, fun i hi hn => HG.out.block i hi (fun e => hn e.symm)⟩
    · have h := HOWN.out
      rw [flat_ins, HN.out, List.take_length, List.drop_length]
      rw [HN.out] at h
      simpa using h
    · rcases HAT.out with e | e
      · exact .inl (e ▸ hg)
      · have hg' : (Value.slice av (n + 1) cv).ownBlock = some g := hg
        rw [e] at hg'
        injection hg' with hg'
        exact .inr (by omega)

set_option maxHeartbeats 8000000 in
set_option maxRecDepth 100000 in
theorem insP_shift (L : List Pr) (g n cap i : Nat) (x : Pr) (vb : Nat) (w : World) (h : w.ownsRow 0 102 5 (.slice (some ⟨g, 0, none⟩) n cap) n ((L.map Pr.cells).flatten)) (hn : n = L.length) (hl : n ≤ 1000) (hi : i < n) (hroom : n + 1 ≤ cap) (hx : w.heap[vb]? = some (.cells (Pr.cells x).toArray 102 (0, 0))) (hne : vb ≠ g) :
    Calls Tryz.prog 162 #[.slice (some ⟨g, 0, none⟩) n cap, .int .i64 i, .slice (some ⟨vb, 0, none⟩) 1 1] w fun e w' => InsEnd Pr.cells 5 102 L i x (.slice (some ⟨g, 0, none⟩) n cap) w w' e := by
  obtain ⟨i0, hi0, hiz, his, hib⟩ := info_prop
  have hm : maxLen ≤ 9223372036854775807 := by unfold maxLen; decide
  obtain ⟨cur, hblk, hcm, hcapm, hsz, htk⟩ : ∃ cur, w.heap[g]? = some (.cells cur 102 (0, 0)) ∧ cap ≤ 9223372036854775807 ∧ cap ≤ maxLen ∧ cur.size = cap * 5 ∧ cur.toList.take (n * 5) = (L.map Pr.cells).flatten := by
    rcases h.2 with ⟨h0, _⟩ | ⟨g', cap', cur, h0, _, h2, h3, h4, h5, h6⟩
    · cases h0
    · injection h0 with e1 _ e3
      injection e1 with e1
      injection e1 with e1
      subst e1 e3
      exact ⟨cur, h2, Nat.le_trans h4 hm, h4, h5, h6⟩
  have hfx : (Pr.cells x).length = 5 := rfl
  have hxs : ∀ j u, (Pr.cells x)[j]? = some u → w.cell? ⟨vb, 0 + j, none⟩ = some u := fun j u hu => by
    rw [cell_of hx, List.getElem?_toArray, Nat.zero_add]
    exact hu
  have hone : ∀ y : Pr, ∀ u ∈ Pr.cells y, u.oneCell' = true := fun x u hu => by
    simp [Pr.cells] at hu; rcases hu with rfl | rfl | rfl | rfl | rfl <;> rfl
  obtain ⟨news, hnews⟩ : ∃ z, z = ((L.drop i).map Pr.cells).flatten := ⟨_, rfl⟩
  have hlen : news.length = (n - i) * 5 := by rw [hnews, flat_len Pr.cells 5 (fun _ => rfl), List.length_drop, hn]
  have hone2 : ∀ u ∈ news, u.oneCell' = true := fun u hu => by
    rw [hnews] at hu
    obtain ⟨l, hl1, hl2⟩ := List.mem_flatten.1 hu
    obtain ⟨y, _, rfl⟩ := List.mem_map.1 hl1
    exact hone y u hl2
  have hread : ∀ t u, news[t]? = some u → w.cell? ⟨g, i * 5 + t, none⟩ = some u := fun t u hu => by
    have ht : t < news.length := (List.getElem?_eq_some_iff.1 hu).1
    rw [cell_of hblk, ← Array.getElem?_toList]
    have hft : ((L.take i).map Pr.cells).flatten.length = i * 5 := by rw [flat_len Pr.cells 5 (fun _ => rfl), List.length_take, ← hn, Nat.min_eq_left (by omega)]
    have hfl : (L.map Pr.cells).flatten = ((L.take i).map Pr.cells).flatten ++ news := by rw [hnews, ← List.flatten_append, ← List.map_append, List.take_append_drop]
    have e : ((L.map Pr.cells).flatten)[i * 5 + t]? = some u := by rw [hfl, List.getElem?_append_right (by omega), hft, Nat.add_sub_cancel_left]; exact hu
    rw [← htk, List.getElem?_take] at e
    split at e
    · exact e
    · cases e
  have hov : ∀ lb cb, (callFunc 181 #[.slice (some ⟨vb, 0, none⟩) 1 1, .slice (some ⟨g, (i + 1) * 5, none⟩) lb cb]).run Tryz.prog w = .ok (.value (.bool false)) w := fun lb cb => by
    rw [run_callFunc_extern Tryz.func181 (by kernel_rfl) (by kernel_rfl) (by kernel_rfl) (e := Extern.SlicesOverlaps.overlaps #[45, 45] #[4]) (by kernel_rfl),
      Lib.run_overlaps_apart w 45 4 102 Tryz.underlying45 5 Tryz.sizeOf102 ⟨vb, 0, none⟩ ⟨g, (i + 1) * 5, none⟩ 1 1 lb cb hne 102 102 5 cur.size (by simp [World.shape?, hx, hfx]) (by simp [World.shape?, hblk]) (by omega) (free_of hx 0) (free_of hx 5)]
    rfl
  obtain ⟨cur1, hcur1⟩ : ∃ z, z = (cur.toList.take ((i + 1) * 5) ++ news ++ cur.toList.drop ((i + 1) * 5 + news.length)).toArray := ⟨_, rfl⟩
  obtain ⟨W1, hW1⟩ : ∃ z, z = w.drew.setRow g cur1 := ⟨_, rfl⟩
  have hsz1 : cur1.size = cur.size := by
    rw [hcur1]
    simp only [List.size_toArray, List.length_append, List.length_take, List.length_drop, Array.length_toList]
    omega
  have hcp1 : ∀ ty dc sc, (Builtin.copy_ #[45, 45] ty #[.slice (some ⟨g, (i + 1) * 5, none⟩) (n - i) dc, .slice (some ⟨g, i * 5, none⟩) (n + 1 - i) sc]).run Tryz.prog w.drew = .ok (goInt ((n - i : Nat) : Int)) W1 := fun ty dc sc => by
    rw [hW1, hcur1]
    exact (run_copy_more w.drew 45 45 ty 102 g ((i + 1) * 5) (n - i) dc ⟨g, i * 5, none⟩ (n + 1 - i) sc cur 102 news i0 5 (n - i) Tryz.underlying45 hi0 his hblk (by simp only [Nat.min_def]; split <;> omega) hlen (fun j v hj => by rw [add_none]; exact hread j v hj) (by rw [hlen]; omega) hone2)
  have hb1 : W1.heap[g]? = some (.cells cur1 102 (0, 0)) := by rw [hW1]; exact setRow_heap w.drew g cur _ 102 _ hblk
  have hv1 : W1.heap[vb]? = some (.cells (Pr.cells x).toArray 102 (0, 0)) := by rw [hW1]; exact (setRow_other w.drew g vb _ hne).trans hx
  obtain ⟨cur2, hcur2⟩ : ∃ z, z = (cur1.toList.take (i * 5) ++ Pr.cells x ++ cur1.toList.drop (i * 5 + (Pr.cells x).length)).toArray := ⟨_, rfl⟩
  obtain ⟨W2, hW2⟩ : ∃ z, z = W1.setRow g cur2 := ⟨_, rfl⟩
  have hcp2 : ∀ ty dc, (Builtin.copy_ #[45, 45] ty #[.slice (some ⟨g, i * 5, none⟩) (n + 1 - i) dc, .slice (some ⟨vb, 0, none⟩) 1 1]).run Tryz.prog W1 = .ok (goInt 1) W2 := fun ty dc => by
    rw [hW2, hcur2]
    exact (run_copy_more W1 45 45 ty 102 g (i * 5) (n + 1 - i) dc ⟨vb, 0, none⟩ 1 1 cur1 102 (Pr.cells x) i0 5 1 Tryz.underlying45 hi0 his hb1 (by simp only [Nat.min_def]; split <;> omega) rfl (fun j v hj => by
      rw [add_none, cell_of hv1, List.getElem?_toArray, Nat.zero_add]
      exact hj) (by rw [hsz1, hfx, hsz]; omega) (hone x))
  have hb2 : W2.heap[g]? = some (.cells cur2 102 (0, 0)) := by rw [hW2]; exact setRow_heap W1 g cur1 _ 102 _ hb1
  have hfin := shift_list Pr.cells 5 (fun _ => rfl) L i x (by omega) cur.toList cur1.toList cur2.toList (by rw [← hn]; have e : cur.toList.length = cur.size := Array.length_toList; omega) (by rw [← hn]; exact htk) (by rw [hcur1, hnews]) (by rw [hcur2])
  have hrest : Rest (fun j => (Value.slice (some ⟨g, 0, none⟩) n cap).ownBlock = some j) w W2 := by
    rw [hW2, hW1]
    exact Rest.setRow (Rest.setRow (Rest.drew (Rest.refl (fun j => (Value.slice (some ⟨g, 0, none⟩) n cap).ownBlock = some j) w)) g (.inl rfl) _) g (.inl rfl) _
  have HOV := toHid hov
  have HCP1 := toHid hcp1
  have HCP2 := toHid hcp2
  have HB2 := toHid hb2
  have HFIN := toHid hfin
  have HREST := toHid hrest
  have HSZ := toHid hsz
  have HN := toHid hn
  clear h hn hblk hsz htk hread hov hcp1 hcp2 hb1 hb2 hv1 hfin hrest hx hxs hone hone2 hlen hnews hcur1 hcur2 hW1 hW2 hsz1 hi0 hiz his hib hm hfx
  have hz2 : ¬ ((i : Int) = (n : Int)) := by omega
  have hw1 : IntKind.i64.wrap ((i : Int) + 1) = (i : Int) + 1 := by rw [IntKind.wrap_i64]; omega
  have htn : ((i : Int) + 1).toNat = i + 1 := by omega
  have hp1 : (0 : Int) ≤ (i : Int) + 1 := by omega
  have hin : i ≤ n := by omega
  have hb3 : ¬ (cap = i + 1) := by omega
  have hb4 : (i : Int) ≤ (n : Int) + 1 := by omega
  have hb5 : ¬ (cap = i) := by omega
  have hb6 : (i : Int) + 1 ≤ (n : Int) + 1 := by omega
  have hb7 : ¬ ((cap : Int) < (n : Int) + 1) := by omega
  have hb8 : (n : Int) + 1 ≤ (cap : Int) := by omega
  have hb9 : (i : Int) ≤ (n : Int) := by omega
  go_enter Tryz.func162, Tryz.ntmps162
  go_wp2_with (simp only [HOV.out])
  go_region_law (first
    | (refine step_copy_eq (by rfl) (.tmp 73) (.tmp 76) 45 45 (by rfl) (.slice (some ⟨g, (i + 1) * 5, none⟩) (n - i) (cap - (i + 1))) (.slice (some ⟨g, i * 5, none⟩) (n + 1 - i) (cap - i)) (by simp [Act.eval, Act.put]) (by simp [Act.eval, Act.put]) (goInt ((n - i : Nat) : Int)) W1 (HCP1.out _ _ _) ?_))
  go_wp2_with (simp only [HCP2.out])
  go_wp2_with fail
  go_ret
  refine ⟨⟨_, rfl, ⟨?_, .inr ⟨g, cap, cur2, (by rw [← HN.out]; rfl), Nat.zero_le _, HB2.out, ?_, hcapm, ?_, ?_⟩⟩, fun j hj => .inl hj⟩, HREST.out⟩
  · rw [flat_len Pr.cells 5 (fun _ => rfl), insL_len L i x (by have := HN.out; omega)]
  · have := HN.out; omega
  · have h1 := HFIN.out.1
    have h2 := HSZ.out
    simp only [Array.length_toList] at h1
    omega
  · exact HFIN.out.2


set_option maxHeartbeats 8000000 in
set_option maxRecDepth 100000 in
theorem insP_grow (L : List Pr) (g n cap i : Nat) (x : Pr) (vb : Nat) (w : World) (h : w.ownsRow 0 102 5 (.slice (some ⟨g, 0, none⟩) n cap) n ((L.map Pr.cells).flatten)) (hn : n = L.length) (hl : n ≤ 1000) (hi : i < n) (hroom : cap < n + 1) (hx : w.heap[vb]? = some (.cells (Pr.cells x).toArray 102 (0, 0))) :
    Calls Tryz.prog 162 #[.slice (some ⟨g, 0, none⟩) n cap, .int .i64 i, .slice (some ⟨vb, 0, none⟩) 1 1] w fun e w' => InsEnd Pr.cells 5 102 L i x (.slice (some ⟨g, 0, none⟩) n cap) w w' e := by
  obtain ⟨i0, hi0, hiz, his, hib⟩ := info_prop
  have hm : maxLen ≤ 9223372036854775807 := by unfold maxLen; decide
  obtain ⟨cur, hblk, hnc, hsz, htk⟩ : ∃ cur, w.heap[g]? = some (.cells cur 102 (0, 0)) ∧ n ≤ cap ∧ cur.size = cap * 5 ∧ cur.toList.take (n * 5) = (L.map Pr.cells).flatten := by
    rcases h.2 with ⟨h0, _⟩ | ⟨g', cap', cur, h0, _, h2, h3, h4, h5, h6⟩
    · cases h0
    · injection h0 with e1 _ e3
      injection e1 with e1
      injection e1 with e1
      subst e1 e3
      exact ⟨cur, h2, h3, h5, h6⟩
  have hfx : (Pr.cells x).length = 5 := rfl
  have hone : ∀ y : Pr, ∀ u ∈ Pr.cells y, u.oneCell' = true := fun x u hu => by
    simp [Pr.cells] at hu; rcases hu with rfl | rfl | rfl | rfl | rfl <;> rfl
  have hgw : g < w.heap.size := (Array.getElem?_eq_some_iff.1 hblk).1
  have hvw : vb < w.heap.size := (Array.getElem?_eq_some_iff.1 hx).1
  obtain ⟨news, hnews⟩ : ∃ z, z = ((L.drop i).map Pr.cells).flatten := ⟨_, rfl⟩
  obtain ⟨olds, holds⟩ : ∃ z, z = ((L.take i).map Pr.cells).flatten := ⟨_, rfl⟩
  have hlen : news.length = (n - i) * 5 := by rw [hnews, flat_len Pr.cells 5 (fun _ => rfl), List.length_drop, hn]
  have hleno : olds.length = i * 5 := by rw [holds, flat_len Pr.cells 5 (fun _ => rfl), List.length_take, ← hn, Nat.min_eq_left (by omega)]
  have hone2 : ∀ u ∈ news, u.oneCell' = true := fun u hu => by
    rw [hnews] at hu
    obtain ⟨l, hl1, hl2⟩ := List.mem_flatten.1 hu
    obtain ⟨y, _, rfl⟩ := List.mem_map.1 hl1
    exact hone y u hl2
  have hfl : (L.map Pr.cells).flatten = olds ++ news := by rw [hnews, holds, ← List.flatten_append, ← List.map_append, List.take_append_drop]
  have hcellg : ∀ t u, (olds ++ news)[t]? = some u → w.cell? ⟨g, t, none⟩ = some u := fun t u hu => by
    rw [cell_of hblk, ← Array.getElem?_toList]
    rw [← hfl, ← htk, List.getElem?_take] at hu
    split at hu
    · exact hu
    · cases hu
  have hread : ∀ t u, news[t]? = some u → w.cell? ⟨g, i * 5 + t, none⟩ = some u := fun t u hu => hcellg _ _ (by rw [List.getElem?_append_right (by omega), hleno, Nat.add_sub_cancel_left]; exact hu)
  have hreado : ∀ t u, olds[t]? = some u → w.cell? ⟨g, 0 + t, none⟩ = some u := fun t u hu => hcellg _ _ (by rw [Nat.zero_add, List.getElem?_append_left (List.getElem?_eq_some_iff.1 hu).1]; exact hu)
  obtain ⟨G, hG⟩ : ∃ G, G = grownCap w (n + 1) cap 102 := ⟨_, rfl⟩
  have hG1 : n + 1 ≤ G := by rw [hG]; exact grownCap_ge _ _ _ _
  have hG2 : G ≤ maxLen := by rw [hG]; exact grownCap_le_maxLen _ _ _ _ (by unfold maxLen; omega)
  obtain ⟨ROW, hROW⟩ : ∃ z : Array Value, z = olds.toArray ++ Builtin.zeroCells (.agg #[.string ⟨#[]⟩, .int .i64 0, .int .i64 0, .string ⟨#[]⟩, .slice none 0 0] : Value).cells (n + 1 - i) ++ Builtin.zeroCells (.agg #[.string ⟨#[]⟩, .int .i64 0, .int .i64 0, .string ⟨#[]⟩, .slice none 0 0] : Value).cells (G - (n + 1)) := ⟨_, rfl⟩
  obtain ⟨W1, hW1⟩ : ∃ z, z = w.drew.alloc (.cells ROW 102) := ⟨_, rfl⟩
  have hrz : ∀ ty, (Builtin.append_ #[45, 3] ty #[.slice (some ⟨g, 0, none⟩) i cap, .int .i64 ((n : Int) + 1 - (i : Int))]).run Tryz.prog w = .ok (.slice (some ⟨w.heap.size, 0, none⟩) (n + 1) G) W1 := fun ty => by
    have hold : (Builtin.firstCells i0.size i (.slice (some ⟨g, 0, none⟩) i cap)).run Tryz.prog w.drew = .ok olds.toArray w.drew := by
      rw [his]
      exact run_firstCells_some w.drew 5 i ⟨g, 0, none⟩ i cap olds hleno (fun j v hj => by rw [add_none]; exact hreado j v hj)
    have h := Lib.run_append_grow_zeros w 45 3 ty 102 i0 _ .i64 .i64 Tryz.underlying45 Tryz.underlying3 hi0 hiz (some ⟨g, 0, none⟩) i cap olds hold (n + 1 - i) (by omega) (by omega) (by omega) (by omega) (by rw [hib]; omega) (by rw [hib, show i + (n + 1 - i) = n + 1 by omega]; exact growslice_fits hroom (by omega))
    rw [show i + (n + 1 - i) = n + 1 by omega, ← hG, ← hROW, ← hW1] at h
    rw [show (n : Int) + 1 - (i : Int) = ((n + 1 - i : Nat) : Int) by omega]
    exact h
  have hRs : ROW.size = G * 5 := by
    rw [hROW]
    simp only [Array.size_append, List.size_toArray, size_zeroCells, hleno]
    have e : (.agg #[.string ⟨#[]⟩, .int .i64 0, .int .i64 0, .string ⟨#[]⟩, .slice none 0 0] : Value).cells.size = 5 := rfl
    rw [e, ← Nat.add_mul, ← Nat.add_mul]
    congr 1
    omega
  have hRt : ROW.toList.take (i * 5) = olds := by
    rw [hROW]
    simp only [Array.toList_append, List.append_assoc]
    rw [← hleno]
    exact List.take_left
  have hb0 : W1.heap[w.heap.size]? = some (.cells ROW 102 (0, 0)) := by rw [hW1]; exact heap_alloc_new w.drew _
  have hold1 : ∀ j, j < w.heap.size → W1.heap[j]? = w.heap[j]? := fun j hj => by rw [hW1]; exact Below.heap_alloc w.drew _ j hj
  have hv1 : W1.heap[vb]? = some (.cells (Pr.cells x).toArray 102 (0, 0)) := (hold1 vb hvw).trans hx
  obtain ⟨cur1, hcur1⟩ : ∃ z, z = (ROW.toList.take (i * 5) ++ Pr.cells x ++ ROW.toList.drop (i * 5 + (Pr.cells x).length)).toArray := ⟨_, rfl⟩
  obtain ⟨W2, hW2⟩ : ∃ z, z = W1.setRow w.heap.size cur1 := ⟨_, rfl⟩
  have hcp1 : ∀ ty dc, (Builtin.copy_ #[45, 45] ty #[.slice (some ⟨w.heap.size, i * 5, none⟩) (n + 1 - i) dc, .slice (some ⟨vb, 0, none⟩) 1 1]).run Tryz.prog W1 = .ok (goInt 1) W2 := fun ty dc => by
    rw [hW2, hcur1]
    exact (run_copy_more W1 45 45 ty 102 w.heap.size (i * 5) (n + 1 - i) dc ⟨vb, 0, none⟩ 1 1 ROW 102 (Pr.cells x) i0 5 1 Tryz.underlying45 hi0 his hb0 (by simp only [Nat.min_def]; split <;> omega) rfl (fun j v hj => by
      rw [add_none, cell_of hv1, List.getElem?_toArray, Nat.zero_add]
      exact hj) (by rw [hfx, hRs]; omega) (hone x))
  have hb1 : W2.heap[w.heap.size]? = some (.cells cur1 102 (0, 0)) := by rw [hW2]; exact setRow_heap W1 w.heap.size ROW _ 102 _ hb0
  have hsz1 : cur1.size = ROW.size := by
    rw [hcur1]
    simp only [List.size_toArray, List.length_append, List.length_take, List.length_drop, Array.length_toList, hfx]
    omega
  have hold2 : ∀ j, j < w.heap.size → W2.heap[j]? = w.heap[j]? := fun j hj => by rw [hW2]; exact (setRow_other W1 w.heap.size j _ (by omega)).trans (hold1 j hj)
  obtain ⟨cur2, hcur2⟩ : ∃ z, z = (cur1.toList.take ((i + 1) * 5) ++ news ++ cur1.toList.drop ((i + 1) * 5 + news.length)).toArray := ⟨_, rfl⟩
  obtain ⟨W3, hW3⟩ : ∃ z, z = W2.drew.setRow w.heap.size cur2 := ⟨_, rfl⟩
  have hcp2 : ∀ ty dc sc, (Builtin.copy_ #[45, 45] ty #[.slice (some ⟨w.heap.size, (i + 1) * 5, none⟩) (n - i) dc, .slice (some ⟨g, i * 5, none⟩) (n - i) sc]).run Tryz.prog W2.drew = .ok (goInt ((n - i : Nat) : Int)) W3 := fun ty dc sc => by
    rw [hW3, hcur2]
    exact (run_copy_more W2.drew 45 45 ty 102 w.heap.size ((i + 1) * 5) (n - i) dc ⟨g, i * 5, none⟩ (n - i) sc cur1 102 news i0 5 (n - i) Tryz.underlying45 hi0 his hb1 (by simp only [Nat.min_def]; split <;> omega) hlen (fun j v hj => by
      rw [add_none]
      exact (cell_same (w := w) (w' := W2) (hold2 g hgw) _).trans (hread j v hj)) (by rw [hlen, hsz1, hRs]; omega) hone2)
  have hb2 : W3.heap[w.heap.size]? = some (.cells cur2 102 (0, 0)) := by rw [hW3]; exact setRow_heap W2.drew w.heap.size cur1 _ 102 _ hb1
  have hfin := grow_list Pr.cells 5 (fun _ => rfl) L i x (by omega) ROW.toList cur1.toList cur2.toList (by rw [← hn]; have e : ROW.toList.length = ROW.size := Array.length_toList; omega) (by rw [← holds]; exact hRt) (by rw [hcur1]) (by rw [hcur2, hnews])
  have hrest : Rest (fun j => (Value.slice (some ⟨g, 0, none⟩) n cap).ownBlock = some j) w W3 := by
    have r1 : Rest (fun j => (Value.slice (some ⟨g, 0, none⟩) n cap).ownBlock = some j) w W1 := by rw [hW1]; exact (Rest.refl _ w).drew.alloc _
    rw [hW3]
    refine Rest.setRow (Rest.drew ?_) w.heap.size (.inr (Nat.le_refl _)) _
    rw [hW2]
    exact Rest.setRow r1 w.heap.size (.inr (Nat.le_refl _)) _
  have HRZ := toHid hrz
  have HCP1 := toHid hcp1
  have HCP2 := toHid hcp2
  have HB2 := toHid hb2
  have HFIN := toHid hfin
  have HREST := toHid hrest
  have HRS := toHid hRs
  have HN := toHid hn
  clear h hn hblk hsz htk hread hreado hcellg hfl hrz hcp1 hcp2 hb0 hb1 hb2 hv1 hfin hrest hx hone hone2 hlen hleno hnews holds hcur1 hcur2 hW1 hW2 hW3 hsz1 hRs hRt hROW hG hold1 hold2 hi0 hiz his hib hm hfx
  have hz2 : ¬ ((i : Int) = (n : Int)) := by omega
  have hw1 : IntKind.i64.wrap ((i : Int) + 1) = (i : Int) + 1 := by rw [IntKind.wrap_i64]; omega
  have htn : ((i : Int) + 1).toNat = i + 1 := by omega
  have hp1 : (0 : Int) ≤ (i : Int) + 1 := by omega
  have hin : i ≤ n := by omega
  have hb3 : ¬ (G = i + 1) := by omega
  have hb4 : (i : Int) ≤ (n : Int) + 1 := by omega
  have hb5 : ¬ (cap = i) := by omega
  have hb51 : ¬ (G = i) := by omega
  have hb6 : (i : Int) + 1 ≤ (n : Int) + 1 := by omega
  have hb7 : (cap : Int) < (n : Int) + 1 := by omega
  have hb8 : (i : Int) ≤ (cap : Int) := by omega
  have hb9 : (i : Int) ≤ (n : Int) := by omega
  have hc63 : (cap : Int) ≤ 9223372036854775807 := by omega
  go_enter Tryz.func162, Tryz.ntmps162
  go_wp2_with (at_builtin; refine list_append_eqK _ (by rfl) (.tmp 34) (.tmp 39) 45 3 (by rfl) (.slice (some ⟨g, 0, none⟩) i cap) (.int .i64 ((n : Int) + 1 - (i : Int))) (by rfl) (by rfl) (.slice (some ⟨w.heap.size, 0, none⟩) (n + 1) G) W1 (HRZ.out _) ?_)
  go_wp2_with (simp only [HCP1.out])
  go_region_law (first
    | (refine step_copy_eq (by rfl) (.tmp 50) (.tmp 53) 45 45 (by rfl) (.slice (some ⟨w.heap.size, (i + 1) * 5, none⟩) (n - i) (G - (i + 1))) (.slice (some ⟨g, i * 5, none⟩) (n - i) (cap - i)) (by simp [Act.eval, Act.put]) (by simp [Act.eval, Act.put]) (goInt ((n - i : Nat) : Int)) W3 (HCP2.out _ _ _) ?_))
  go_wp2_with fail
  go_ret
  refine ⟨⟨_, rfl, ⟨?_, .inr ⟨w.heap.size, G, cur2, (by rw [← HN.out]; rfl), Nat.zero_le _, HB2.out, ?_, hG2, ?_, ?_⟩⟩, fun j hj => .inr (Nat.le_of_eq (Option.some.inj hj))⟩, HREST.out⟩
  · rw [flat_len Pr.cells 5 (fun _ => rfl), insL_len L i x (by have := HN.out; omega)]
  · have := HN.out; omega
  · have h1 := HFIN.out.1
    have h2 := HRS.out
    simp only [Array.length_toList] at h1
    omega
  · exact HFIN.out.2


theorem insP_any (L : List Pr) (a : Option Addr) (n cap i : Nat) (x : Pr) (vb : Nat) (w : World) (h : w.ownsRow 0 102 5 (.slice a n cap) n ((L.map Pr.cells).flatten)) (hn : n = L.length) (hl : n ≤ 1000) (hi : i ≤ n) (hx : w.heap[vb]? = some (.cells (Pr.cells x).toArray 102 (0, 0))) (hne : ∀ g, (Value.slice a n cap).ownBlock = some g → vb ≠ g) :
    Calls Tryz.prog 162 #[.slice a n cap, .int .i64 i, .slice (some ⟨vb, 0, none⟩) 1 1] w fun e w' => InsEnd Pr.cells 5 102 L i x (.slice a n cap) w w' e := by
  rcases Nat.eq_or_lt_of_le hi with rfl | hi'
  · exact insP_end L a i cap x vb w h hn hl hx
  · obtain ⟨g, cap', hv, _, _⟩ := h.form (by omega)
    injection hv with h1 h2 h3
    subst h1
    rcases Nat.lt_or_ge cap (n + 1) with hr | hr
    · exact insP_grow L g n cap i x vb w h hn hl hi' hr hx
    · exact insP_shift L g n cap i x vb w h hn hl hi' hr hx (hne g rfl)

set_option maxHeartbeats 4000000 in
set_option maxRecDepth 100000 in
theorem insS_end (L : List ByteArray) (a : Option Addr) (n cap : Nat) (x : ByteArray) (vb : Nat) (w : World) (h : w.ownsRow 0 9 1 (.slice a n cap) n ((L.map strCell).flatten)) (hn : n = L.length) (hl : n ≤ 1000) (hx : w.heap[vb]? = some (.cells (strCell x).toArray 9 (0, 0))) :
    Calls Tryz.prog 185 #[.slice a n cap, .int .i64 n, .slice (some ⟨vb, 0, none⟩) 1 1] w fun e w' => InsEnd strCell 1 9 L n x (.slice a n cap) w w' e := by
  obtain ⟨i0, hi0, hiz, his, hib⟩ := info_str
  have HI0 := toHid hi0
  have HIZ := toHid hiz
  have HIS := toHid his
  have HIB := toHid hib
  have HH := toHid h
  have HX : Hid (∀ j u, (strCell x)[j]? = some u → ∃ ad, (some ⟨vb, 0, none⟩ : Option Addr) = some ad ∧ w.cell? (ad.add j) = some u) := fun j u hu => ⟨_, rfl, by
    rw [add_none, cell_of hx, List.getElem?_toArray, Nat.zero_add]
    exact hu⟩
  have HONE : Hid (∀ u ∈ strCell x, u.oneCell' = true) := fun u hu => by
    simp [strCell] at hu; rcases hu with rfl; rfl
  have HN := toHid hn
  obtain ⟨hrl, hlc, _⟩ := row_len h
  have HB1 : n + 1 ≤ maxLen := by unfold maxLen; omega
  have HB2 : (n + 1) * 16 ≤ 140737488355328 := by omega
  have hc63 : cap ≤ 9223372036854775807 := by
    have hm : maxLen ≤ 9223372036854775807 := by unfold maxLen; decide
    rcases h.2 with ⟨h0, _⟩ | ⟨g', cap', cur, h0, _, h2, h3, h4, _⟩
    · injection h0 with _ _ e3
      omega
    · injection h0 with _ _ e3
      omega
  clear h hn hi0 hiz his hib
  rcases Nat.eq_or_lt_of_le hlc with hcn | hcn
  · subst hcn
    go_enter Tryz.func185, Tryz.ntmps185
    go_wp2_with (at_builtin; refine wpList_append_both _ rfl _ _ 66 rfl 0 9 i0 _ 1 16 Tryz.underlying66 HI0.out HIZ.out HIS.out HIB.out rfl (by omega) (.slice a n n) n _ rfl HH.out (some ⟨vb, 0, none⟩) 1 1 (strCell x) rfl rfl HX.out HONE.out HB1 HB2 (Nat.zero_le _) ?_)
    intro v1 w1 hown hg hat
    have HOWN := toHid hown
    have HG := toHid hg
    have HAT := toHid hat
    obtain ⟨av, cv, hv, hcv⟩ := slice_of_row hown
    subst hv
    clear hown hg hat
    go_wp2_with fail
    go_ret
    refine ⟨⟨_, rfl, ?_, fun g hg => ?_⟩, HG.out.os, HG.out.tape, HG.out.output, HG.out.size, fun i hi hn => HG.out.block i hi (fun e => hn e.symm)⟩
    · have h := HOWN.out
      rw [flat_ins, HN.out, List.take_length, List.drop_length]
      rw [HN.out] at h
      simpa using h
    · rcases HAT.out with e | e
      · exact .inl (e ▸ hg)
      · have hg' : (Value.slice av (n + 1) cv).ownBlock = some g := hg
        rw [e] at hg'
        injection hg' with hg'
        exact .inr (by omega)
  · have hcn' : ¬ cap = n := by omega
    go_enter Tryz.func185, Tryz.ntmps185
    go_wp2_with (at_builtin; refine wpList_append_both _ rfl _ _ 66 rfl 0 9 i0 _ 1 16 Tryz.underlying66 HI0.out HIZ.out HIS.out HIB.out rfl (by omega) (.slice a n cap) n _ rfl HH.out (some ⟨vb, 0, none⟩) 1 1 (strCell x) rfl rfl HX.out HONE.out HB1 HB2 (Nat.zero_le _) ?_)
    intro v1 w1 hown hg hat
    have HOWN := toHid hown
    have HG := toHid hg
    have HAT := toHid hat
    obtain ⟨av, cv, hv, hcv⟩ := slice_of_row hown
    subst hv
    clear hown hg hat
    go_wp2_with fail
    go_ret
    refine ⟨⟨_, rfl, ?_, fun g hg => ?_⟩, HG.out.os, HG.out.tape, HG.out.output, HG.out.size, fun i hi hn => HG.out.block i hi (fun e => hn e.symm)⟩
    · have h := HOWN.out
      rw [flat_ins, HN.out, List.take_length, List.drop_length]
      rw [HN.out] at h
      simpa using h
    · rcases HAT.out with e | e
      · exact .inl (e ▸ hg)
      · have hg' : (Value.slice av (n + 1) cv).ownBlock = some g := hg
        rw [e] at hg'
        injection hg' with hg'
        exact .inr (by omega)

set_option maxHeartbeats 8000000 in
set_option maxRecDepth 100000 in
theorem insS_shift (L : List ByteArray) (g n cap i : Nat) (x : ByteArray) (vb : Nat) (w : World) (h : w.ownsRow 0 9 1 (.slice (some ⟨g, 0, none⟩) n cap) n ((L.map strCell).flatten)) (hn : n = L.length) (hl : n ≤ 1000) (hi : i < n) (hroom : n + 1 ≤ cap) (hx : w.heap[vb]? = some (.cells (strCell x).toArray 9 (0, 0))) (hne : vb ≠ g) :
    Calls Tryz.prog 185 #[.slice (some ⟨g, 0, none⟩) n cap, .int .i64 i, .slice (some ⟨vb, 0, none⟩) 1 1] w fun e w' => InsEnd strCell 1 9 L i x (.slice (some ⟨g, 0, none⟩) n cap) w w' e := by
  obtain ⟨i0, hi0, hiz, his, hib⟩ := info_str
  have hm : maxLen ≤ 9223372036854775807 := by unfold maxLen; decide
  obtain ⟨cur, hblk, hcm, hcapm, hsz, htk⟩ : ∃ cur, w.heap[g]? = some (.cells cur 9 (0, 0)) ∧ cap ≤ 9223372036854775807 ∧ cap ≤ maxLen ∧ cur.size = cap * 1 ∧ cur.toList.take (n * 1) = (L.map strCell).flatten := by
    rcases h.2 with ⟨h0, _⟩ | ⟨g', cap', cur, h0, _, h2, h3, h4, h5, h6⟩
    · cases h0
    · injection h0 with e1 _ e3
      injection e1 with e1
      injection e1 with e1
      subst e1 e3
      exact ⟨cur, h2, Nat.le_trans h4 hm, h4, h5, h6⟩
  have hfx : (strCell x).length = 1 := rfl
  have hxs : ∀ j u, (strCell x)[j]? = some u → w.cell? ⟨vb, 0 + j, none⟩ = some u := fun j u hu => by
    rw [cell_of hx, List.getElem?_toArray, Nat.zero_add]
    exact hu
  have hone : ∀ y : ByteArray, ∀ u ∈ strCell y, u.oneCell' = true := fun x u hu => by
    simp [strCell] at hu; rcases hu with rfl; rfl
  obtain ⟨news, hnews⟩ : ∃ z, z = ((L.drop i).map strCell).flatten := ⟨_, rfl⟩
  have hlen : news.length = (n - i) * 1 := by rw [hnews, flat_len strCell 1 (fun _ => rfl), List.length_drop, hn]
  have hone2 : ∀ u ∈ news, u.oneCell' = true := fun u hu => by
    rw [hnews] at hu
    obtain ⟨l, hl1, hl2⟩ := List.mem_flatten.1 hu
    obtain ⟨y, _, rfl⟩ := List.mem_map.1 hl1
    exact hone y u hl2
  have hread : ∀ t u, news[t]? = some u → w.cell? ⟨g, i * 1 + t, none⟩ = some u := fun t u hu => by
    have ht : t < news.length := (List.getElem?_eq_some_iff.1 hu).1
    rw [cell_of hblk, ← Array.getElem?_toList]
    have hft : ((L.take i).map strCell).flatten.length = i * 1 := by rw [flat_len strCell 1 (fun _ => rfl), List.length_take, ← hn, Nat.min_eq_left (by omega)]
    have hfl : (L.map strCell).flatten = ((L.take i).map strCell).flatten ++ news := by rw [hnews, ← List.flatten_append, ← List.map_append, List.take_append_drop]
    have e : ((L.map strCell).flatten)[i * 1 + t]? = some u := by rw [hfl, List.getElem?_append_right (by omega), hft, Nat.add_sub_cancel_left]; exact hu
    rw [← htk, List.getElem?_take] at e
    split at e
    · exact e
    · cases e
  have hov : ∀ lb cb, (callFunc 193 #[.slice (some ⟨vb, 0, none⟩) 1 1, .slice (some ⟨g, i + 1, none⟩) lb cb]).run Tryz.prog w = .ok (.value (.bool false)) w := fun lb cb => by
    rw [run_callFunc_extern Tryz.func193 (by kernel_rfl) (by kernel_rfl) (by kernel_rfl) (e := Extern.SlicesOverlaps.overlaps #[66, 66] #[4]) (by kernel_rfl),
      Lib.run_overlaps_apart w 66 4 9 Tryz.underlying66 1 Tryz.sizeOf9 ⟨vb, 0, none⟩ ⟨g, i + 1, none⟩ 1 1 lb cb hne 9 9 1 cur.size (by simp [World.shape?, hx, hfx]) (by simp [World.shape?, hblk]) (by omega) (free_of hx 0) (free_of hx 1)]
    rfl
  obtain ⟨cur1, hcur1⟩ : ∃ z, z = (cur.toList.take ((i + 1) * 1) ++ news ++ cur.toList.drop ((i + 1) * 1 + news.length)).toArray := ⟨_, rfl⟩
  obtain ⟨W1, hW1⟩ : ∃ z, z = w.drew.setRow g cur1 := ⟨_, rfl⟩
  have hsz1 : cur1.size = cur.size := by
    rw [hcur1]
    simp only [List.size_toArray, List.length_append, List.length_take, List.length_drop, Array.length_toList]
    omega
  have hcp1 : ∀ ty dc sc, (Builtin.copy_ #[66, 66] ty #[.slice (some ⟨g, i + 1, none⟩) (n - i) dc, .slice (some ⟨g, i, none⟩) (n + 1 - i) sc]).run Tryz.prog w.drew = .ok (goInt ((n - i : Nat) : Int)) W1 := fun ty dc sc => by
    rw [hW1, hcur1]
    have e := (run_copy_more w.drew 66 66 ty 9 g ((i + 1) * 1) (n - i) dc ⟨g, i * 1, none⟩ (n + 1 - i) sc cur 9 news i0 1 (n - i) Tryz.underlying66 hi0 his hblk (by simp only [Nat.min_def]; split <;> omega) hlen (fun j v hj => by rw [add_none]; exact hread j v hj) (by rw [hlen]; omega) hone2)
    simp only [Nat.mul_one] at e ⊢
    exact e
  have hb1 : W1.heap[g]? = some (.cells cur1 9 (0, 0)) := by rw [hW1]; exact setRow_heap w.drew g cur _ 9 _ hblk
  have hv1 : W1.heap[vb]? = some (.cells (strCell x).toArray 9 (0, 0)) := by rw [hW1]; exact (setRow_other w.drew g vb _ hne).trans hx
  obtain ⟨cur2, hcur2⟩ : ∃ z, z = (cur1.toList.take (i * 1) ++ strCell x ++ cur1.toList.drop (i * 1 + (strCell x).length)).toArray := ⟨_, rfl⟩
  obtain ⟨W2, hW2⟩ : ∃ z, z = W1.setRow g cur2 := ⟨_, rfl⟩
  have hcp2 : ∀ ty dc, (Builtin.copy_ #[66, 66] ty #[.slice (some ⟨g, i, none⟩) (n + 1 - i) dc, .slice (some ⟨vb, 0, none⟩) 1 1]).run Tryz.prog W1 = .ok (goInt 1) W2 := fun ty dc => by
    rw [hW2, hcur2]
    have e := (run_copy_more W1 66 66 ty 9 g (i * 1) (n + 1 - i) dc ⟨vb, 0, none⟩ 1 1 cur1 9 (strCell x) i0 1 1 Tryz.underlying66 hi0 his hb1 (by simp only [Nat.min_def]; split <;> omega) rfl (fun j v hj => by
      rw [add_none, cell_of hv1, List.getElem?_toArray, Nat.zero_add]
      exact hj) (by rw [hsz1, hfx, hsz]; omega) (hone x))
    simp only [Nat.mul_one] at e ⊢
    exact e
  have hb2 : W2.heap[g]? = some (.cells cur2 9 (0, 0)) := by rw [hW2]; exact setRow_heap W1 g cur1 _ 9 _ hb1
  have hfin := shift_list strCell 1 (fun _ => rfl) L i x (by omega) cur.toList cur1.toList cur2.toList (by rw [← hn]; have e : cur.toList.length = cur.size := Array.length_toList; omega) (by rw [← hn]; exact htk) (by rw [hcur1, hnews]) (by rw [hcur2])
  have hrest : Rest (fun j => (Value.slice (some ⟨g, 0, none⟩) n cap).ownBlock = some j) w W2 := by
    rw [hW2, hW1]
    exact Rest.setRow (Rest.setRow (Rest.drew (Rest.refl (fun j => (Value.slice (some ⟨g, 0, none⟩) n cap).ownBlock = some j) w)) g (.inl rfl) _) g (.inl rfl) _
  have HOV := toHid hov
  have HCP1 := toHid hcp1
  have HCP2 := toHid hcp2
  have HB2 := toHid hb2
  have HFIN := toHid hfin
  have HREST := toHid hrest
  have HSZ := toHid hsz
  have HN := toHid hn
  clear h hn hblk hsz htk hread hov hcp1 hcp2 hb1 hb2 hv1 hfin hrest hx hxs hone hone2 hlen hnews hcur1 hcur2 hW1 hW2 hsz1 hi0 hiz his hib hm hfx
  have hz2 : ¬ ((i : Int) = (n : Int)) := by omega
  have hw1 : IntKind.i64.wrap ((i : Int) + 1) = (i : Int) + 1 := by rw [IntKind.wrap_i64]; omega
  have htn : ((i : Int) + 1).toNat = i + 1 := by omega
  have hp1 : (0 : Int) ≤ (i : Int) + 1 := by omega
  have hin : i ≤ n := by omega
  have hb3 : ¬ (cap = i + 1) := by omega
  have hb4 : (i : Int) ≤ (n : Int) + 1 := by omega
  have hb5 : ¬ (cap = i) := by omega
  have hb6 : (i : Int) + 1 ≤ (n : Int) + 1 := by omega
  have hb7 : ¬ ((cap : Int) < (n : Int) + 1) := by omega
  have hb8 : (n : Int) + 1 ≤ (cap : Int) := by omega
  have hb9 : (i : Int) ≤ (n : Int) := by omega
  go_enter Tryz.func185, Tryz.ntmps185
  go_wp2_with (simp only [HOV.out])
  go_region_law (first
    | (refine step_copy_eq (by rfl) (.tmp 73) (.tmp 76) 66 66 (by rfl) (.slice (some ⟨g, i + 1, none⟩) (n - i) (cap - (i + 1))) (.slice (some ⟨g, i, none⟩) (n + 1 - i) (cap - i)) (by simp [Act.eval, Act.put]) (by simp [Act.eval, Act.put]) (goInt ((n - i : Nat) : Int)) W1 (HCP1.out _ _ _) ?_))
  go_wp2_with (simp only [HCP2.out])
  go_wp2_with fail
  go_ret
  refine ⟨⟨_, rfl, ⟨?_, .inr ⟨g, cap, cur2, (by rw [← HN.out]; rfl), Nat.zero_le _, HB2.out, ?_, hcapm, ?_, ?_⟩⟩, fun j hj => .inl hj⟩, HREST.out⟩
  · rw [flat_len strCell 1 (fun _ => rfl), insL_len L i x (by have := HN.out; omega)]
  · have := HN.out; omega
  · have h1 := HFIN.out.1
    have h2 := HSZ.out
    simp only [Array.length_toList] at h1
    omega
  · exact HFIN.out.2


set_option maxHeartbeats 8000000 in
set_option maxRecDepth 100000 in
theorem insS_grow (L : List ByteArray) (g n cap i : Nat) (x : ByteArray) (vb : Nat) (w : World) (h : w.ownsRow 0 9 1 (.slice (some ⟨g, 0, none⟩) n cap) n ((L.map strCell).flatten)) (hn : n = L.length) (hl : n ≤ 1000) (hi : i < n) (hroom : cap < n + 1) (hx : w.heap[vb]? = some (.cells (strCell x).toArray 9 (0, 0))) :
    Calls Tryz.prog 185 #[.slice (some ⟨g, 0, none⟩) n cap, .int .i64 i, .slice (some ⟨vb, 0, none⟩) 1 1] w fun e w' => InsEnd strCell 1 9 L i x (.slice (some ⟨g, 0, none⟩) n cap) w w' e := by
  obtain ⟨i0, hi0, hiz, his, hib⟩ := info_str
  have hm : maxLen ≤ 9223372036854775807 := by unfold maxLen; decide
  obtain ⟨cur, hblk, hnc, hsz, htk⟩ : ∃ cur, w.heap[g]? = some (.cells cur 9 (0, 0)) ∧ n ≤ cap ∧ cur.size = cap * 1 ∧ cur.toList.take (n * 1) = (L.map strCell).flatten := by
    rcases h.2 with ⟨h0, _⟩ | ⟨g', cap', cur, h0, _, h2, h3, h4, h5, h6⟩
    · cases h0
    · injection h0 with e1 _ e3
      injection e1 with e1
      injection e1 with e1
      subst e1 e3
      exact ⟨cur, h2, h3, h5, h6⟩
  have hfx : (strCell x).length = 1 := rfl
  have hone : ∀ y : ByteArray, ∀ u ∈ strCell y, u.oneCell' = true := fun x u hu => by
    simp [strCell] at hu; rcases hu with rfl; rfl
  have hgw : g < w.heap.size := (Array.getElem?_eq_some_iff.1 hblk).1
  have hvw : vb < w.heap.size := (Array.getElem?_eq_some_iff.1 hx).1
  obtain ⟨news, hnews⟩ : ∃ z, z = ((L.drop i).map strCell).flatten := ⟨_, rfl⟩
  obtain ⟨olds, holds⟩ : ∃ z, z = ((L.take i).map strCell).flatten := ⟨_, rfl⟩
  have hlen : news.length = (n - i) * 1 := by rw [hnews, flat_len strCell 1 (fun _ => rfl), List.length_drop, hn]
  have hleno : olds.length = i * 1 := by rw [holds, flat_len strCell 1 (fun _ => rfl), List.length_take, ← hn, Nat.min_eq_left (by omega)]
  have hone2 : ∀ u ∈ news, u.oneCell' = true := fun u hu => by
    rw [hnews] at hu
    obtain ⟨l, hl1, hl2⟩ := List.mem_flatten.1 hu
    obtain ⟨y, _, rfl⟩ := List.mem_map.1 hl1
    exact hone y u hl2
  have hfl : (L.map strCell).flatten = olds ++ news := by rw [hnews, holds, ← List.flatten_append, ← List.map_append, List.take_append_drop]
  have hcellg : ∀ t u, (olds ++ news)[t]? = some u → w.cell? ⟨g, t, none⟩ = some u := fun t u hu => by
    rw [cell_of hblk, ← Array.getElem?_toList]
    rw [← hfl, ← htk, List.getElem?_take] at hu
    split at hu
    · exact hu
    · cases hu
  have hread : ∀ t u, news[t]? = some u → w.cell? ⟨g, i * 1 + t, none⟩ = some u := fun t u hu => hcellg _ _ (by rw [List.getElem?_append_right (by omega), hleno, Nat.add_sub_cancel_left]; exact hu)
  have hreado : ∀ t u, olds[t]? = some u → w.cell? ⟨g, 0 + t, none⟩ = some u := fun t u hu => hcellg _ _ (by rw [Nat.zero_add, List.getElem?_append_left (List.getElem?_eq_some_iff.1 hu).1]; exact hu)
  obtain ⟨G, hG⟩ : ∃ G, G = grownCap w (n + 1) cap 9 := ⟨_, rfl⟩
  have hG1 : n + 1 ≤ G := by rw [hG]; exact grownCap_ge _ _ _ _
  have hG2 : G ≤ maxLen := by rw [hG]; exact grownCap_le_maxLen _ _ _ _ (by unfold maxLen; omega)
  obtain ⟨ROW, hROW⟩ : ∃ z : Array Value, z = olds.toArray ++ Builtin.zeroCells (.string ⟨#[]⟩ : Value).cells (n + 1 - i) ++ Builtin.zeroCells (.string ⟨#[]⟩ : Value).cells (G - (n + 1)) := ⟨_, rfl⟩
  obtain ⟨W1, hW1⟩ : ∃ z, z = w.drew.alloc (.cells ROW 9) := ⟨_, rfl⟩
  have hrz : ∀ ty, (Builtin.append_ #[66, 3] ty #[.slice (some ⟨g, 0, none⟩) i cap, .int .i64 ((n : Int) + 1 - (i : Int))]).run Tryz.prog w = .ok (.slice (some ⟨w.heap.size, 0, none⟩) (n + 1) G) W1 := fun ty => by
    have hold : (Builtin.firstCells i0.size i (.slice (some ⟨g, 0, none⟩) i cap)).run Tryz.prog w.drew = .ok olds.toArray w.drew := by
      rw [his]
      exact run_firstCells_some w.drew 1 i ⟨g, 0, none⟩ i cap olds hleno (fun j v hj => by rw [add_none]; exact hreado j v hj)
    have h := Lib.run_append_grow_zeros w 66 3 ty 9 i0 _ .i64 .i64 Tryz.underlying66 Tryz.underlying3 hi0 hiz (some ⟨g, 0, none⟩) i cap olds hold (n + 1 - i) (by omega) (by omega) (by omega) (by omega) (by rw [hib]; omega) (by rw [hib, show i + (n + 1 - i) = n + 1 by omega]; exact growslice_fits hroom (by omega))
    rw [show i + (n + 1 - i) = n + 1 by omega, ← hG, ← hROW, ← hW1] at h
    rw [show (n : Int) + 1 - (i : Int) = ((n + 1 - i : Nat) : Int) by omega]
    exact h
  have hRs : ROW.size = G * 1 := by
    rw [hROW]
    simp only [Array.size_append, List.size_toArray, size_zeroCells, hleno]
    have e : (.string ⟨#[]⟩ : Value).cells.size = 1 := rfl
    rw [e, ← Nat.add_mul, ← Nat.add_mul]
    congr 1
    omega
  have hRt : ROW.toList.take (i * 1) = olds := by
    rw [hROW]
    simp only [Array.toList_append, List.append_assoc]
    rw [← hleno]
    exact List.take_left
  have hb0 : W1.heap[w.heap.size]? = some (.cells ROW 9 (0, 0)) := by rw [hW1]; exact heap_alloc_new w.drew _
  have hold1 : ∀ j, j < w.heap.size → W1.heap[j]? = w.heap[j]? := fun j hj => by rw [hW1]; exact Below.heap_alloc w.drew _ j hj
  have hv1 : W1.heap[vb]? = some (.cells (strCell x).toArray 9 (0, 0)) := (hold1 vb hvw).trans hx
  obtain ⟨cur1, hcur1⟩ : ∃ z, z = (ROW.toList.take (i * 1) ++ strCell x ++ ROW.toList.drop (i * 1 + (strCell x).length)).toArray := ⟨_, rfl⟩
  obtain ⟨W2, hW2⟩ : ∃ z, z = W1.setRow w.heap.size cur1 := ⟨_, rfl⟩
  have hcp1 : ∀ ty dc, (Builtin.copy_ #[66, 66] ty #[.slice (some ⟨w.heap.size, i, none⟩) (n + 1 - i) dc, .slice (some ⟨vb, 0, none⟩) 1 1]).run Tryz.prog W1 = .ok (goInt 1) W2 := fun ty dc => by
    rw [hW2, hcur1]
    have e := (run_copy_more W1 66 66 ty 9 w.heap.size (i * 1) (n + 1 - i) dc ⟨vb, 0, none⟩ 1 1 ROW 9 (strCell x) i0 1 1 Tryz.underlying66 hi0 his hb0 (by simp only [Nat.min_def]; split <;> omega) rfl (fun j v hj => by
      rw [add_none, cell_of hv1, List.getElem?_toArray, Nat.zero_add]
      exact hj) (by rw [hfx, hRs]; omega) (hone x))
    simp only [Nat.mul_one] at e ⊢
    exact e
  have hb1 : W2.heap[w.heap.size]? = some (.cells cur1 9 (0, 0)) := by rw [hW2]; exact setRow_heap W1 w.heap.size ROW _ 9 _ hb0
  have hsz1 : cur1.size = ROW.size := by
    rw [hcur1]
    simp only [List.size_toArray, List.length_append, List.length_take, List.length_drop, Array.length_toList, hfx]
    omega
  have hold2 : ∀ j, j < w.heap.size → W2.heap[j]? = w.heap[j]? := fun j hj => by rw [hW2]; exact (setRow_other W1 w.heap.size j _ (by omega)).trans (hold1 j hj)
  obtain ⟨cur2, hcur2⟩ : ∃ z, z = (cur1.toList.take ((i + 1) * 1) ++ news ++ cur1.toList.drop ((i + 1) * 1 + news.length)).toArray := ⟨_, rfl⟩
  obtain ⟨W3, hW3⟩ : ∃ z, z = W2.drew.setRow w.heap.size cur2 := ⟨_, rfl⟩
  have hcp2 : ∀ ty dc sc, (Builtin.copy_ #[66, 66] ty #[.slice (some ⟨w.heap.size, i + 1, none⟩) (n - i) dc, .slice (some ⟨g, i, none⟩) (n - i) sc]).run Tryz.prog W2.drew = .ok (goInt ((n - i : Nat) : Int)) W3 := fun ty dc sc => by
    rw [hW3, hcur2]
    have e := (run_copy_more W2.drew 66 66 ty 9 w.heap.size ((i + 1) * 1) (n - i) dc ⟨g, i * 1, none⟩ (n - i) sc cur1 9 news i0 1 (n - i) Tryz.underlying66 hi0 his hb1 (by simp only [Nat.min_def]; split <;> omega) hlen (fun j v hj => by
      rw [add_none]
      exact (cell_same (w := w) (w' := W2) (hold2 g hgw) _).trans (hread j v hj)) (by rw [hlen, hsz1, hRs]; omega) hone2)
    simp only [Nat.mul_one] at e ⊢
    exact e
  have hb2 : W3.heap[w.heap.size]? = some (.cells cur2 9 (0, 0)) := by rw [hW3]; exact setRow_heap W2.drew w.heap.size cur1 _ 9 _ hb1
  have hfin := grow_list strCell 1 (fun _ => rfl) L i x (by omega) ROW.toList cur1.toList cur2.toList (by rw [← hn]; have e : ROW.toList.length = ROW.size := Array.length_toList; omega) (by rw [← holds]; exact hRt) (by rw [hcur1]) (by rw [hcur2, hnews])
  have hrest : Rest (fun j => (Value.slice (some ⟨g, 0, none⟩) n cap).ownBlock = some j) w W3 := by
    have r1 : Rest (fun j => (Value.slice (some ⟨g, 0, none⟩) n cap).ownBlock = some j) w W1 := by rw [hW1]; exact (Rest.refl _ w).drew.alloc _
    rw [hW3]
    refine Rest.setRow (Rest.drew ?_) w.heap.size (.inr (Nat.le_refl _)) _
    rw [hW2]
    exact Rest.setRow r1 w.heap.size (.inr (Nat.le_refl _)) _
  have HRZ := toHid hrz
  have HCP1 := toHid hcp1
  have HCP2 := toHid hcp2
  have HB2 := toHid hb2
  have HFIN := toHid hfin
  have HREST := toHid hrest
  have HRS := toHid hRs
  have HN := toHid hn
  clear h hn hblk hsz htk hread hreado hcellg hfl hrz hcp1 hcp2 hb0 hb1 hb2 hv1 hfin hrest hx hone hone2 hlen hleno hnews holds hcur1 hcur2 hW1 hW2 hW3 hsz1 hRs hRt hROW hG hold1 hold2 hi0 hiz his hib hm hfx
  have hz2 : ¬ ((i : Int) = (n : Int)) := by omega
  have hw1 : IntKind.i64.wrap ((i : Int) + 1) = (i : Int) + 1 := by rw [IntKind.wrap_i64]; omega
  have htn : ((i : Int) + 1).toNat = i + 1 := by omega
  have hp1 : (0 : Int) ≤ (i : Int) + 1 := by omega
  have hin : i ≤ n := by omega
  have hb3 : ¬ (G = i + 1) := by omega
  have hb4 : (i : Int) ≤ (n : Int) + 1 := by omega
  have hb5 : ¬ (cap = i) := by omega
  have hb51 : ¬ (G = i) := by omega
  have hb6 : (i : Int) + 1 ≤ (n : Int) + 1 := by omega
  have hb7 : (cap : Int) < (n : Int) + 1 := by omega
  have hb8 : (i : Int) ≤ (cap : Int) := by omega
  have hb9 : (i : Int) ≤ (n : Int) := by omega
  have hc63 : (cap : Int) ≤ 9223372036854775807 := by omega
  go_enter Tryz.func185, Tryz.ntmps185
  go_wp2_with (at_builtin; refine list_append_eqK _ (by rfl) (.tmp 34) (.tmp 39) 66 3 (by rfl) (.slice (some ⟨g, 0, none⟩) i cap) (.int .i64 ((n : Int) + 1 - (i : Int))) (by rfl) (by rfl) (.slice (some ⟨w.heap.size, 0, none⟩) (n + 1) G) W1 (HRZ.out _) ?_)
  go_wp2_with (simp only [HCP1.out])
  go_region_law (first
    | (refine step_copy_eq (by rfl) (.tmp 50) (.tmp 53) 66 66 (by rfl) (.slice (some ⟨w.heap.size, i + 1, none⟩) (n - i) (G - (i + 1))) (.slice (some ⟨g, i, none⟩) (n - i) (cap - i)) (by simp [Act.eval, Act.put]) (by simp [Act.eval, Act.put]) (goInt ((n - i : Nat) : Int)) W3 (HCP2.out _ _ _) ?_))
  go_wp2_with fail
  go_ret
  refine ⟨⟨_, rfl, ⟨?_, .inr ⟨w.heap.size, G, cur2, (by rw [← HN.out]; rfl), Nat.zero_le _, HB2.out, ?_, hG2, ?_, ?_⟩⟩, fun j hj => .inr (Nat.le_of_eq (Option.some.inj hj))⟩, HREST.out⟩
  · rw [flat_len strCell 1 (fun _ => rfl), insL_len L i x (by have := HN.out; omega)]
  · have := HN.out; omega
  · have h1 := HFIN.out.1
    have h2 := HRS.out
    simp only [Array.length_toList] at h1
    omega
  · exact HFIN.out.2


theorem insS_any (L : List ByteArray) (a : Option Addr) (n cap i : Nat) (x : ByteArray) (vb : Nat) (w : World) (h : w.ownsRow 0 9 1 (.slice a n cap) n ((L.map strCell).flatten)) (hn : n = L.length) (hl : n ≤ 1000) (hi : i ≤ n) (hx : w.heap[vb]? = some (.cells (strCell x).toArray 9 (0, 0))) (hne : ∀ g, (Value.slice a n cap).ownBlock = some g → vb ≠ g) :
    Calls Tryz.prog 185 #[.slice a n cap, .int .i64 i, .slice (some ⟨vb, 0, none⟩) 1 1] w fun e w' => InsEnd strCell 1 9 L i x (.slice a n cap) w w' e := by
  rcases Nat.eq_or_lt_of_le hi with rfl | hi'
  · exact insS_end L a i cap x vb w h hn hl hx
  · obtain ⟨g, cap', hv, _, _⟩ := h.form (by omega)
    injection hv with h1 h2 h3
    subst h1
    rcases Nat.lt_or_ge cap (n + 1) with hr | hr
    · exact insS_grow L g n cap i x vb w h hn hl hi' hr hx
    · exact insS_shift L g n cap i x vb w h hn hl hi' hr hx (hne g rfl)

end Go.Proofs.YtebbjmjgojekdaaGreatDoor
