/-
  What is proved here: what the texts ROrd, RVisP, RPairs prove, in one text.
-/
import Derived.Test.YtkdadaggolcboaaDoorQRAK
import Derived.Deep.RegionHeld3
import Derived.Shelf.SlSortCmp.WholeK
import Derived.Test.YtkdadaggolcboaaDoorRWalkP
namespace Go.Proofs.YtkdadaggolcboaaDoor
open Go.RowKit
set_option linter.unusedVariables false

set_option linter.unusedSimpArgs false

set_option maxHeartbeats 2000000 in
set_option maxRecDepth 100000 in
theorem or_twoI (x y r : Int) (hr : r = if x = 0 then y else x) (b : Nat) (w : World) (h0 : w.cell? ⟨b, 0, none⟩ = some (.int .i64 x)) (h1 : w.cell? ⟨b, 1, none⟩ = some (.int .i64 y)) :
    Calls Tryd.prog 30 #[.slice (some ⟨b, 0, none⟩) 2 2] w fun e w' => e = .returned (.int .i64 r) ∧ w' = w := by
  have HR := toHid hr
  clear hr
  have cell : Hid (∀ k, k < 2 → w.cell? ⟨b, k, none⟩ = some (.int .i64 (if k = 0 then x else y))) := fun k hk => by
    have h3 : k = 0 ∨ k = 1 := by omega
    rcases h3 with rfl | rfl
    · exact h0
    · exact h1
  clear h0 h1
  go_enter Tryd.func30, Tryd.ntmps30
  go_wp2_with fail
  go_loopg [8] 2 (fun g s8 wr => ∃ k : Nat, k ≤ 2 ∧ 2 - k ≤ g ∧ s8 = .int .i64 k ∧ wr = w ∧ (0 < k → x = 0) ∧ (1 < k → y = 0))
  case atStart => exact ⟨0, by omega, by omega, rfl, rfl, by omega, by omega⟩
  case round =>
    obtain ⟨k, hk, hg, rfl, rfl, q0, q1⟩ := hrel
    have Q0 := toHid q0
    have Q1 := toHid q1
    clear q0 q1
    by_cases hlt : k < 2
    · have hc := cell.out k hlt
      obtain ⟨v, hv⟩ : ∃ v, v = (if k = 0 then x else y) := ⟨_, rfl⟩
      rw [← hv] at hc
      have HV := toHid hv
      clear hv
      by_cases he : v = 0
      · have he' : (v != 0) = false := by simp [he]
        have H2 := toHid he
        clear he
        go_wp2_with fail
        go_roundg (2 - (k + 1))
        case measure => omega
        case rel =>
          have hv0 : (if k = 0 then x else y) = 0 := by rw [← HV.out]; exact H2.out
          have h3 : k = 0 ∨ k = 1 := by omega
          refine ⟨k + 1, by omega, by omega, by go_num, rfl, fun _ => ?_, fun hk1 => ?_⟩
          · rcases h3 with rfl | rfl
            · simpa using hv0
            · exact Q0.out (by omega)
          · rcases h3 with rfl | rfl
            · omega
            · simpa using hv0
      · have he' : (v != 0) = true := by simp [he]
        have H2 := toHid he
        clear he
        go_wp2_with fail
        go_ret
        refine ⟨ret_int ?_, rfl⟩
        have hv0 := H2.out
        rw [HV.out] at hv0 ⊢
        rw [HR.out]
        have h3 : k = 0 ∨ k = 1 := by omega
        rcases h3 with rfl | rfl
        · simp at hv0 ⊢
          simp [hv0]
        · have a0 := Q0.out (by omega)
          simp [a0]
    · have hk3 : k = 2 := by omega
      have HK := toHid hk3
      clear cell
      go_wp2_with fail
      go_ret
      refine ⟨ret_int ?_, rfl⟩
      have e := HK.out
      rw [HR.out, Q0.out (by omega), Q1.out (by omega)]
      simp

theorem grow_end {W X : World} {os : Array Obj} (h : X = Sort.grow W os) (o : Obj) : (X.alloc o).drew = Sort.grow (W.drewN 1) (os ++ #[o]) := by
  subst h
  rw [Sort.alloc_eq_grow, Sort.grow_grow]
  rfl

/-- The order of two pairs. -/
def ordP (x y : Int × Int) : Int := if cmpN x.1 y.1 = 0 then cmpN x.2 y.2 else cmpN x.1 y.1

set_option maxHeartbeats 4000000 in
set_option maxRecDepth 100000 in
theorem orderP_any (x y : Int × Int) (W : World) : Calls Tryd.prog 21 #[.agg #[.int .i64 x.1, .int .i64 x.2], .agg #[.int .i64 y.1, .int .i64 y.2]] W fun e w' => e = .returned (.int .i64 (ordP x y)) ∧ ∃ q os', w' = Sort.grow (W.drewN q) os' := by
  obtain ⟨R, hR⟩ : ∃ R, R = ordP x y := ⟨_, rfl⟩
  rw [← hR]
  obtain ⟨r1, h1⟩ : ∃ r, r = cmpN x.1 y.1 := ⟨_, rfl⟩
  obtain ⟨r2, h2⟩ : ∃ r, r = cmpN x.2 y.2 := ⟨_, rfl⟩
  have HC1 : Hid (∀ X, Calls Tryd.prog 31 #[.int .i64 x.1, .int .i64 y.1] X fun e w' => e = .returned (.int .i64 r1) ∧ w' = X) := fun X => by rw [h1]; exact compare_num _ _ X
  have HC2 : Hid (∀ X, Calls Tryd.prog 31 #[.int .i64 x.2, .int .i64 y.2] X fun e w' => e = .returned (.int .i64 r2) ∧ w' = X) := fun X => by rw [h2]; exact compare_num _ _ X
  have HR : Hid (R = if r1 = 0 then r2 else r1) := by
    show _ = _
    rw [hR, h1, h2]
    rfl
  clear hR h1 h2
  obtain ⟨x1, x2⟩ := x
  obtain ⟨y1, y2⟩ := y
  go_enter Tryd.func21, Tryd.ntmps21
  go_upto_region 1 with fail
  have hq0 : ((W.alloc (.cells #[.int .i64 x1, .int .i64 x2] 34)).alloc (.cells #[.int .i64 y1, .int .i64 y2] 34)).heap[W.heap.size]? = some (.cells #[.int .i64 x1, .int .i64 x2] 34 (0, 0)) := (Below.heap_alloc _ _ _ (by simp)).trans (alloc_new W _)
  have hq1 := alloc_two W (.cells #[.int .i64 x1, .int .i64 x2] 34) (.cells #[.int .i64 y1, .int .i64 y2] 34)
  have s0 := cell_of hq0 0
  have s1 := cell_of hq0 1
  have s2 := cell_of hq1 0
  have s3 := cell_of hq1 1
  simp only [List.getElem?_toArray, List.getElem?_cons_zero, List.getElem?_cons_succ] at s0 s1 s2 s3
  have HG : Hid (((W.alloc (.cells #[.int .i64 x1, .int .i64 x2] 34)).alloc (.cells #[.int .i64 y1, .int .i64 y2] 34)) = Sort.grow W #[.cells #[.int .i64 x1, .int .i64 x2] 34, .cells #[.int .i64 y1, .int .i64 y2] 34]) := by
    show _ = _
    rw [Sort.alloc_eq_grow, Sort.alloc_eq_grow, Sort.grow_grow]
    rfl
  have hz : ((W.alloc (.cells #[.int .i64 x1, .int .i64 x2] 34)).alloc (.cells #[.int .i64 y1, .int .i64 y2] 34)).heap.size = W.heap.size + 2 := by simp
  have HZ := toHid hz
  generalize (W.alloc (.cells #[.int .i64 x1, .int .i64 x2] 34)).alloc (.cells #[.int .i64 y1, .int .i64 y2] 34) = X at s0 s1 s2 s3 HG HZ ⊢
  clear hq0 hq1 hz
  have hl0 : W.heap.size < X.heap.size := by have := HZ.out; omega
  have hl1 : W.heap.size + 1 < X.heap.size := by have := HZ.out; omega
  go_region_held3 (fun W' => (W'.cell? ⟨W.heap.size, 0, none⟩ = some (.int .i64 x1) ∧ W'.cell? ⟨W.heap.size, 1, none⟩ = some (.int .i64 x2) ∧ W'.cell? ⟨W.heap.size + 1, 0, none⟩ = some (.int .i64 y1) ∧ W'.cell? ⟨W.heap.size + 1, 1, none⟩ = some (.int .i64 y2)))
    (first
      | exact ⟨s0, s1, s2, s3⟩
      | go_keep)
    (first
      | (go_at_call 30; go_fit (or_twoI r1 r2 R HR.out X.heap.size _ (by simp) (by simp)); rintro e w5 ⟨rfl, rfl⟩)
      | (go_at_call 31; go_fit (HC1.out _); rintro e w5 ⟨rfl, rfl⟩)
      | (go_at_call 31; go_fit (HC2.out _); rintro e w5 ⟨rfl, rfl⟩))
  all_goals
    go_wp2_with fail
    go_ret
    exact ⟨rfl, 1, _, grow_end HG.out _⟩

set_option linter.unusedSimpArgs false

theorem pair_info0 : (Tryd.prog.info? 34).map (fun i => (i.zero, i.size, i.bytes)) = some (some (.agg #[.int .i64 0, .int .i64 0]), 2, 16) := by kernel_rfl

theorem pair_info : ∃ i, Tryd.prog.info? 34 = some i ∧ i.zero = some (.agg #[.int .i64 0, .int .i64 0]) ∧ i.size = 2 ∧ i.bytes = 16 := by
  have h := pair_info0
  cases hi : Tryd.prog.info? 34 with
  | none => rw [hi] at h; cases h
  | some i =>
    rw [hi] at h
    simp at h
    exact ⟨i, rfl, h.1, h.2.1, h.2.2⟩

theorem set_one {X : World} {b : Nat} {t : TypeId} {v : Value} (hb : X.heap[b]? = some (.cells #[v] t (0, 0))) (v' : Value) : (X.setCell ⟨b, 0, none⟩ v').heap[b]? = some (.cells #[v'] t (0, 0)) := by
  have := putL_here [v'] 0 X #[v] hb
  exact this

/-- Pairs, as the cells of a row. -/
def pcells (l : List (Int × Int)) : List Value := l.flatMap fun p => [.int .i64 p.1, .int .i64 p.2]

theorem pcells_snoc (l : List (Int × Int)) (p : Int × Int) : pcells (l ++ [p]) = pcells l ++ [.int .i64 p.1, .int .i64 p.2] := by simp [pcells]
theorem pcells_append (l m : List (Int × Int)) : pcells (l ++ m) = pcells l ++ pcells m := by simp [pcells]
theorem pcells_len (l : List (Int × Int)) : (pcells l).length = l.length * 2 := by
  induction l with
  | nil => rfl
  | cons p l ih =>
    have e : pcells (p :: l) = .int .i64 p.1 :: .int .i64 p.2 :: pcells l := rfl
    rw [e]
    simp [ih]
    omega

/-- What is told of a walk from i. -/
def told (i : Int) (out : List Ed) : List (Int × Int) := out.map fun x => (i, x.dst)

/-- The memory of the visitor: the row's box, the node's box. -/
structure PInv (T0 bo bn : Nat) (i : Int) (la pa : Option Addr) (ll lc pl pc : Nat) (acc : List (Int × Int)) (W : World) (O : Nat → Prop) (out : List Ed) (v : Value) : Prop where
  box : W.heap[bo]? = some (.cells #[v] 26 (0, 0))
  node : W.heap[bn]? = some (.cells #[.int .i64 i, .slice la ll lc, .slice pa pl pc] 49 (0, 0))
  row : W.ownsRow T0 34 2 v (acc ++ told i out).length (pcells (acc ++ told i out))
  nbo : v.ownBlock ≠ some bo
  nbn : v.ownBlock ≠ some bn
  own : ∀ k, O k ↔ k = bo ∨ k = bn ∨ v.ownBlock = some k

def PIn (T0 bo bn : Nat) (i : Int) (la pa : Option Addr) (ll lc pl pc : Nat) (acc : List (Int × Int)) (W : World) (O : Nat → Prop) (out : List Ed) : Prop := ∃ v, PInv T0 bo bn i la pa ll lc pl pc acc W O out v

theorem vis_p (T0 bo bn : Nat) (i : Int) (la pa : Option Addr) (ll lc pl pc : Nat) (acc : List (Int × Int)) : Vis (PIn T0 bo bn i la pa ll lc pl pc acc) where
  lt := by
    rintro W O out ⟨v, h⟩ k hk
    rcases (h.own k).1 hk with rfl | rfl | hk
    · exact blk_lt h.box
    · exact blk_lt h.node
    · exact (h.row.lt k hk).2
  kept := by
    rintro W W' O out ⟨v, h⟩ hk hs
    exact ⟨v, (hk bo ((h.own bo).2 (.inl rfl))).trans h.box, (hk bn ((h.own bn).2 (.inr (.inl rfl)))).trans h.node, row_kept1 h.row fun g hg => hk g ((h.own g).2 (.inr (.inr hg))), h.nbo, h.nbn, h.own⟩

set_option maxHeartbeats 4000000 in
set_option maxRecDepth 100000 in
theorem pairs1_any (T0 bo bn : Nat) (hbb : bo ≠ bn) (i : Int) (la pa : Option Addr) (ll lc pl pc : Nat) (acc : List (Int × Int)) (hacc : acc.length ≤ 100000) (X : World) (O : Nat → Prop) (out : List Ed) (x : Ed) (hT : T0 ≤ X.heap.size) (h : PIn T0 bo bn i la pa ll lc pl pc acc X O out) (hl : out.length ≤ 1000) :
    Calls Tryd.prog 19 #[.agg #[.int .i64 x.id, .int .i64 x.frm, .int .i64 x.dst, .string x.typ, .slice x.pa x.pl x.pc], .pointer (some ⟨bo, 0, none⟩), .pointer (some ⟨bn, 0, none⟩)] X fun e w' => e = .returned (.tuple #[]) ∧ ∃ O', PIn T0 bo bn i la pa ll lc pl pc acc w' O' (out ++ [x]) ∧ (∀ k, O' k → O k ∨ X.heap.size ≤ k) ∧ Rst O X w' := by
  obtain ⟨v, h⟩ := h
  obtain ⟨i0, hi0, hz0, hs0, hb0⟩ := pair_info
  have hb1 : Below X.heap.size X (X.alloc (.cells #[.int .i64 x.id, .int .i64 x.frm, .int .i64 x.dst, .string x.typ, .slice x.pa x.pl x.pc] 52)) := (Below.refl _ _).alloc (Nat.le_refl _) _
  have y0 := cell_of ((hb1.block bo (blk_lt h.box)).trans h.box) 0
  have y1 := cell_of ((hb1.block bn (blk_lt h.node)).trans h.node) 0
  simp at y0 y1
  have HB1 := toHid hb1
  have H := toHid h
  have HB2 : Hid (Below X.heap.size X ((X.alloc (.cells #[.int .i64 x.id, .int .i64 x.frm, .int .i64 x.dst, .string x.typ, .slice x.pa x.pl x.pc] 52)).alloc (.cells #[.int .i64 i, .int .i64 x.dst] 34))) := hb1.alloc hb1.size _
  have HN := toHid (alloc_new (X.alloc (.cells #[.int .i64 x.id, .int .i64 x.frm, .int .i64 x.dst, .string x.typ, .slice x.pa x.pl x.pc] 52)) (.cells #[.int .i64 i, .int .i64 x.dst] 34))
  obtain ⟨n, hn⟩ : ∃ n, n = (acc ++ told i out).length := ⟨_, rfl⟩
  have HNN := toHid hn
  have HLEN : Hid (n ≤ 101000) := by
    show _ ≤ _
    rw [hn]
    simp [told]
    omega
  have hown : ((X.alloc (.cells #[.int .i64 x.id, .int .i64 x.frm, .int .i64 x.dst, .string x.typ, .slice x.pa x.pl x.pc] 52)).alloc (.cells #[.int .i64 i, .int .i64 x.dst] 34)).ownsRow T0 34 2 v n (pcells (acc ++ told i out)) := hn ▸ row_kept1 h.row fun g hg => HB2.out.block g (h.row.lt g hg).2
  have HOWN := toHid hown
  clear hb1 h hown hn
  go_enter Tryd.func19, Tryd.ntmps19
  go_wp2_with (at_builtin; refine wpList_append_both _ (by rfl) _ _ _ (by rfl) T0 34 i0 _ 2 16 Tryd.underlying26 hi0 hz0 hs0 hb0 rfl (by omega) v n (pcells (acc ++ told i out)) (by rfl) HOWN.out (some ⟨X.heap.size + 1, 0, none⟩) 1 1 [.int .i64 i, .int .i64 x.dst] (by rfl) (by rfl) (fun j u hu => ⟨_, rfl, World.news_of_block (cs := #[.int .i64 i, .int .i64 x.dst]) (t := 34) (fr := (0, 0)) (by have := HN.out; simpa using this) j u hu⟩) (by simp [Value.oneCell']) (by have := HLEN.out; unfold maxLen; omega) (by have := HLEN.out; omega) (by have := HB2.out.size; omega) ?_; intro v' w1 hown1 hgrow hob; have hbo1 : w1.heap[bo]? = some (.cells #[v] 26 (0, 0)) := (hgrow.block bo (by have h1 := blk_lt H.out.box; have h2 := HB2.out.size; omega) (fun e => H.out.nbo e.symm)).trans ((HB2.out.block bo (blk_lt H.out.box)).trans H.out.box); have r0 := cell_of hbo1 0; have f0 := free_of hbo1 0; simp at r0; obtain ⟨gg, cc, rfl, _, _⟩ := hown1.form (by omega))
  generalize Value.slice (some ⟨gg, 0, none⟩) (n + 1) cc = v' at hown1 hob ⊢
  have hsz : X.heap.size ≤ w1.heap.size := Nat.le_trans HB2.out.size hgrow.size
  have hox : ∀ j, j ≠ bo → (w1.setCell ⟨bo, 0, none⟩ v').heap[j]? = w1.heap[j]? := fun j hj => Below.heap_setCell _ _ _ j hj
  have hnew : ∀ g, v'.ownBlock = some g → v.ownBlock = some g ∨ X.heap.size ≤ g := fun g hg => by
    rcases hob with h | h
    · exact .inl (h ▸ hg)
    · rw [h] at hg
      injection hg with e
      have := HB2.out.size
      exact .inr (by omega)
  have hvo : v'.ownBlock ≠ some bo := fun e => by
    rcases hnew _ e with h | h
    · exact H.out.nbo h
    · have := blk_lt H.out.box
      omega
  have hvn : v'.ownBlock ≠ some bn := fun e => by
    rcases hnew _ e with h | h
    · exact H.out.nbn h
    · have := blk_lt H.out.node
      omega
  have et : acc ++ told i (out ++ [x]) = (acc ++ told i out) ++ [(i, x.dst)] := by simp [told]
  have hbn1 : w1.heap[bn]? = some (.cells #[.int .i64 i, .slice la ll lc, .slice pa pl pc] 49 (0, 0)) := (hgrow.block bn (by have h1 := blk_lt H.out.node; have h2 := HB2.out.size; omega) (fun e => H.out.nbn e.symm)).trans ((HB2.out.block bn (blk_lt H.out.node)).trans H.out.node)
  have hp : PInv T0 bo bn i la pa ll lc pl pc acc (w1.setCell ⟨bo, 0, none⟩ v') (fun k => k = bo ∨ k = bn ∨ v'.ownBlock = some k) (out ++ [x]) v' := by
    refine ⟨?_, (hox bn (Ne.symm hbb)).trans hbn1, ?_, hvo, hvn, fun k => Iff.rfl⟩
    · have := set_one hbo1 v'
      exact this
    · rw [et, pcells_snoc, List.length_append, List.length_singleton, ← HNN.out]
      exact row_kept1 hown1 fun g hg => hox g fun e => hvo (e ▸ hg)
  have hr : Rst O X (w1.setCell ⟨bo, 0, none⟩ v') := by
    refine ⟨hgrow.os.trans HB2.out.os, hgrow.tape.trans HB2.out.tape, hgrow.output.trans HB2.out.output, by simpa using hsz, fun k hk hn => ?_⟩
    have h1 : k ≠ bo := fun e => hn ((H.out.own k).2 (.inl e))
    rw [hox k h1]
    exact (hgrow.block k (Nat.lt_of_lt_of_le hk HB2.out.size) (fun e => hn ((H.out.own k).2 (.inr (.inr e.symm))))).trans (HB2.out.block k hk)
  have HP := toHid hp
  have HR := toHid hr
  have HNW := toHid hnew
  clear hp hr hnew hox hvo hvn et hbn1 hown1 hgrow hob hbo1
  go_end0
  refine ⟨rfl, _, ⟨v', HP.out⟩, fun k hk => ?_, HR.out⟩
  rcases hk with h1 | h1 | h1
  · exact .inl ((H.out.own k).2 (.inl h1))
  · exact .inl ((H.out.own k).2 (.inr (.inl h1)))
  · rcases HNW.out k h1 with h2 | h2
    · exact .inl ((H.out.own k).2 (.inr (.inr h2)))
    · exact .inr h2

set_option linter.unusedSimpArgs false

theorem walk_len {E : List Ed} {W : Int → List Ed} (hW : ∀ i x, x ∈ W i → x ∈ E) {K : Nat} : ∀ (f : Nat) (s : WkSt), s.out.length + unseen E s ≤ K → (walkF W f s).length ≤ K
  | 0, s, h => by
    show s.out.length ≤ K
    omega
  | f + 1, s, h => by
    unfold walkF
    split
    · omega
    · rename_i i r e
      refine walk_len hW f _ ?_
      have := (fold_all (E := E) (W i) ⟨r, s.seen, s.out⟩ (hW i)).2.1
      have e2 : unseen E ⟨r, s.seen, s.out⟩ = unseen E s := rfl
      rw [e2] at this
      exact Nat.le_trans this h

theorem raw_len (E : List Ed) (kind : ByteArray) (i : Int) : (rawF E kind i).length ≤ E.length := by
  unfold rawF
  rw [List.length_map]
  refine walk_len (E := E) (fun j x hx => way_mem hx) _ _ ?_
  have := unseen_le E (st0 i)
  show 0 + unseen E (st0 i) ≤ _
  omega

theorem raws_len (E : List Ed) (kind : ByteArray) : ∀ ids : List Int, (rawsF ids E kind).length ≤ ids.length * E.length
  | [] => Nat.zero_le _
  | i :: ids => by
    have e : rawsF (i :: ids) E kind = rawF E kind i ++ rawsF ids E kind := by simp [rawsF]
    rw [e, List.length_append, List.length_cons, Nat.add_mul, Nat.one_mul]
    have := raw_len E kind i
    have := raws_len E kind ids
    omega

theorem raws_take {N : List Nd} {i : Nat} {n : Nd} (h : N[i]? = some n) (E : List Ed) (kind : ByteArray) : rawsF ((N.take (i + 1)).map (·.id)) E kind = rawsF ((N.take i).map (·.id)) E kind ++ rawF E kind n.id := by
  rw [List.take_add_one, h]
  simp [rawsF]

/-- What the loop keeps: the row's box, and all else as it was. -/
structure PLoop (w2 wr : World) (bo : Nat) (acc : List (Int × Int)) (v : Value) : Prop where
  box : wr.heap[bo]? = some (.cells #[v] 26 (0, 0))
  row : wr.ownsRow w2.heap.size 34 2 v acc.length (pcells acc)
  rs : Rst (fun k => k = bo) w2 wr

theorem node_pin {w2 wr Wp : World} {bo bn : Nat} {acc : List (Int × Int)} {v : Value} {i : Int} {la pa : Option Addr} {ll lc pl pc : Nat} (h : PLoop w2 wr bo acc v) (hb : bo < w2.heap.size) (hbn : bn = wr.heap.size) (k : Below wr.heap.size wr Wp) (hn : Wp.heap[bn]? = some (.cells #[.int .i64 i, .slice la ll lc, .slice pa pl pc] 49 (0, 0))) :
    PIn w2.heap.size bo bn i la pa ll lc pl pc acc Wp (fun k => k = bo ∨ k = bn ∨ v.ownBlock = some k) [] := by
  have hs := h.rs.size
  refine ⟨v, (k.block bo (by omega)).trans h.box, hn, ?_, fun e => ?_, fun e => ?_, fun k => Iff.rfl⟩
  · rw [show acc ++ told i [] = acc from by simp [told]]
    exact row_kept1 h.row fun g hg => k.block g (h.row.lt g hg).2
  · have := (h.row.lt _ e).1
    omega
  · have := (h.row.lt _ e).2
    omega

theorem loop_next {w2 wr Wp wv : World} {bo bn : Nat} {acc : List (Int × Int)} {v : Value} {i : Int} {la pa : Option Addr} {ll lc pl pc : Nat} {out : List Ed} {O' : Nat → Prop} (h : PLoop w2 wr bo acc v) (hb : bo < w2.heap.size) (hbn : bn = wr.heap.size) (k : Below wr.heap.size wr Wp) (hp : PIn w2.heap.size bo bn i la pa ll lc pl pc acc wv O' out) (hr : Rst (fun k => k = bo ∨ k = bn ∨ v.ownBlock = some k) Wp wv) : ∃ v', PLoop w2 wv bo (acc ++ told i out) v' := by
  obtain ⟨v', hp⟩ := hp
  have hs := h.rs.size
  refine ⟨v', hp.box, hp.row, (h.rs.trans (Rst.of_below (O := fun _ => False) k) (fun j hj => hj.elim)).trans hr fun j hj => ?_⟩
  rcases hj with rfl | rfl | hj
  · exact .inl rfl
  · exact .inr (by omega)
  · exact .inr (h.row.lt j hj).1
end Go.Proofs.YtkdadaggolcboaaDoor
