/-
  What is proved here: what the texts ROrd, RVisP, RPairs, RPairs2, RSort prove, in one text.
-/
import Derived.Test.YtebbjmjgojekdaaGreatDoorQCAH
import Derived.Deep.RegionHeld3
import Derived.Shelf.SlSortCmp.WholeK
import Derived.Test.YtebbjmjgojekdaaGreatDoorQCAJ
import Derived.Test.YtebbjmjgojekdaaGreatDoorShelfG
import Derived.Sort.OwnSortedInts
namespace Go.Proofs.YtebbjmjgojekdaaGreatDoor
open Go.RowKit
set_option linter.unusedVariables false

set_option linter.unusedSimpArgs false

set_option maxHeartbeats 2000000 in
set_option maxRecDepth 100000 in
theorem or_twoI (x y r : Int) (hr : r = if x = 0 then y else x) (b : Nat) (w : World) (h0 : w.cell? ⟨b, 0, none⟩ = some (.int .i64 x)) (h1 : w.cell? ⟨b, 1, none⟩ = some (.int .i64 y)) :
    Calls Tryz.prog 84 #[.slice (some ⟨b, 0, none⟩) 2 2] w fun e w' => e = .returned (.int .i64 r) ∧ w' = w := by
  have HR := toHid hr
  clear hr
  have cell : Hid (∀ k, k < 2 → w.cell? ⟨b, k, none⟩ = some (.int .i64 (if k = 0 then x else y))) := fun k hk => by
    have h3 : k = 0 ∨ k = 1 := by omega
    rcases h3 with rfl | rfl
    · exact h0
    · exact h1
  clear h0 h1
  go_enter Tryz.func84, Tryz.ntmps84
  go_wp2_with fail
  go_loopg [8] 2 (fun g s8 wr => ∃ k : Nat, k ≤ 2 ∧ 2 - k ≤ g ∧ s8 = .int .i64 k ∧ wr = w ∧ (0 < k → x = 0) ∧ (1 < k → y = 0))
  case atStart => exact ⟨0, by omega, by omega, rfl, rfl, by omega, by omega⟩
  case round =>
    obtain ⟨k, hk, hg, rfl, rfl, q0, q1⟩ := hrel
    have Q0 := toHid q0
    have Q1 := toHid q1
    clear q0 q1
    by_cases hlt : k < 2
    · have hc := cell.out k hlt
      obtain ⟨v, hv⟩ : ∃ v, v = (if k = 0 then x else y) := ⟨_, rfl⟩
      rw [← hv] at hc
      have HV := toHid hv
      clear hv
      by_cases he : v = 0
      · have he' : (v != 0) = false := by simp [he]
        have H2 := toHid he
        clear he
        go_wp2_with fail
        go_roundg (2 - (k + 1))
        case measure => omega
        case rel =>
          have hv0 : (if k = 0 then x else y) = 0 := by rw [← HV.out]; exact H2.out
          have h3 : k = 0 ∨ k = 1 := by omega
          refine ⟨k + 1, by omega, by omega, by go_num, rfl, fun _ => ?_, fun hk1 => ?_⟩
          · rcases h3 with rfl | rfl
            · simpa using hv0
            · exact Q0.out (by omega)
          · rcases h3 with rfl | rfl
            · omega
            · simpa using hv0
      · have he' : (v != 0) = true := by simp [he]
        have H2 := toHid he
        clear he
        go_wp2_with fail
        go_ret
        refine ⟨ret_int ?_, rfl⟩
        have hv0 := H2.out
        rw [HV.out] at hv0 ⊢
        rw [HR.out]
        have h3 : k = 0 ∨ k = 1 := by omega
        rcases h3 with rfl | rfl
        · simp at hv0 ⊢
          simp [hv0]
        · have a0 := Q0.out (by omega)
          simp [a0]
    · have hk3 : k = 2 := by omega
      have HK := toHid hk3
      clear cell
      go_wp2_with fail
      go_ret
      refine ⟨ret_int ?_, rfl⟩
      have e := HK.out
      rw [HR.out, Q0.out (by omega), Q1.out (by omega)]
      simp

theorem grow_end {W X : World} {os : Array Obj} (h : X = Sort.grow W os) (o : Obj) : (X.alloc o).drew = Sort.grow (W.drewN 1) (os ++ #[o]) := by
  subst h
  rw [Sort.alloc_eq_grow, Sort.grow_grow]
  rfl

/-- The order of two pairs. -/
def ordP (x y : Int × Int) : Int := if cmpN x.1 y.1 = 0 then cmpN x.2 y.2 else cmpN x.1 y.1

set_option maxHeartbeats 4000000 in
set_option maxRecDepth 100000 in
theorem orderP_any (x y : Int × Int) (W : World) : Calls Tryz.prog 48 #[.agg #[.int .i64 x.1, .int .i64 x.2], .agg #[.int .i64 y.1, .int .i64 y.2]] W fun e w' => e = .returned (.int .i64 (ordP x y)) ∧ ∃ q os', w' = Sort.grow (W.drewN q) os' := by
  obtain ⟨R, hR⟩ : ∃ R, R = ordP x y := ⟨_, rfl⟩
  rw [← hR]
  obtain ⟨r1, h1⟩ : ∃ r, r = cmpN x.1 y.1 := ⟨_, rfl⟩
  obtain ⟨r2, h2⟩ : ∃ r, r = cmpN x.2 y.2 := ⟨_, rfl⟩
  have HC1 : Hid (∀ X, Calls Tryz.prog 39 #[.int .i64 x.1, .int .i64 y.1] X fun e w' => e = .returned (.int .i64 r1) ∧ w' = X) := fun X => by rw [h1]; exact compare_num _ _ X
  have HC2 : Hid (∀ X, Calls Tryz.prog 39 #[.int .i64 x.2, .int .i64 y.2] X fun e w' => e = .returned (.int .i64 r2) ∧ w' = X) := fun X => by rw [h2]; exact compare_num _ _ X
  have HR : Hid (R = if r1 = 0 then r2 else r1) := by
    show _ = _
    rw [hR, h1, h2]
    rfl
  clear hR h1 h2
  obtain ⟨x1, x2⟩ := x
  obtain ⟨y1, y2⟩ := y
  go_enter Tryz.func48, Tryz.ntmps48
  go_upto_region 1 with fail
  have hq0 : ((W.alloc (.cells #[.int .i64 x1, .int .i64 x2] 33)).alloc (.cells #[.int .i64 y1, .int .i64 y2] 33)).heap[W.heap.size]? = some (.cells #[.int .i64 x1, .int .i64 x2] 33 (0, 0)) := (Below.heap_alloc _ _ _ (by simp)).trans (alloc_new W _)
  have hq1 := alloc_two W (.cells #[.int .i64 x1, .int .i64 x2] 33) (.cells #[.int .i64 y1, .int .i64 y2] 33)
  have s0 := cell_of hq0 0
  have s1 := cell_of hq0 1
  have s2 := cell_of hq1 0
  have s3 := cell_of hq1 1
  simp only [List.getElem?_toArray, List.getElem?_cons_zero, List.getElem?_cons_succ] at s0 s1 s2 s3
  have HG : Hid (((W.alloc (.cells #[.int .i64 x1, .int .i64 x2] 33)).alloc (.cells #[.int .i64 y1, .int .i64 y2] 33)) = Sort.grow W #[.cells #[.int .i64 x1, .int .i64 x2] 33, .cells #[.int .i64 y1, .int .i64 y2] 33]) := by
    show _ = _
    rw [Sort.alloc_eq_grow, Sort.alloc_eq_grow, Sort.grow_grow]
    rfl
  have hz : ((W.alloc (.cells #[.int .i64 x1, .int .i64 x2] 33)).alloc (.cells #[.int .i64 y1, .int .i64 y2] 33)).heap.size = W.heap.size + 2 := by simp
  have HZ := toHid hz
  generalize (W.alloc (.cells #[.int .i64 x1, .int .i64 x2] 33)).alloc (.cells #[.int .i64 y1, .int .i64 y2] 33) = X at s0 s1 s2 s3 HG HZ ⊢
  clear hq0 hq1 hz
  have hl0 : W.heap.size < X.heap.size := by have := HZ.out; omega
  have hl1 : W.heap.size + 1 < X.heap.size := by have := HZ.out; omega
  go_region_held3 (fun W' => (W'.cell? ⟨W.heap.size, 0, none⟩ = some (.int .i64 x1) ∧ W'.cell? ⟨W.heap.size, 1, none⟩ = some (.int .i64 x2) ∧ W'.cell? ⟨W.heap.size + 1, 0, none⟩ = some (.int .i64 y1) ∧ W'.cell? ⟨W.heap.size + 1, 1, none⟩ = some (.int .i64 y2)))
    (first
      | exact ⟨s0, s1, s2, s3⟩
      | go_keep)
    (first
      | (go_at_call 84; go_fit (or_twoI r1 r2 R HR.out X.heap.size _ (by simp) (by simp)); rintro e w5 ⟨rfl, rfl⟩)
      | (go_at_call 39; go_fit (HC1.out _); rintro e w5 ⟨rfl, rfl⟩)
      | (go_at_call 39; go_fit (HC2.out _); rintro e w5 ⟨rfl, rfl⟩))
  all_goals
    go_wp2_with fail
    go_ret
    exact ⟨rfl, 1, _, grow_end HG.out _⟩

set_option linter.unusedSimpArgs false

theorem pair_info0 : (Tryz.prog.info? 33).map (fun i => (i.zero, i.size, i.bytes)) = some (some (.agg #[.int .i64 0, .int .i64 0]), 2, 16) := by kernel_rfl

theorem pair_info : ∃ i, Tryz.prog.info? 33 = some i ∧ i.zero = some (.agg #[.int .i64 0, .int .i64 0]) ∧ i.size = 2 ∧ i.bytes = 16 := by
  have h := pair_info0
  cases hi : Tryz.prog.info? 33 with
  | none => rw [hi] at h; cases h
  | some i =>
    rw [hi] at h
    simp at h
    exact ⟨i, rfl, h.1, h.2.1, h.2.2⟩

theorem set_one {X : World} {b : Nat} {t : TypeId} {v : Value} (hb : X.heap[b]? = some (.cells #[v] t (0, 0))) (v' : Value) : (X.setCell ⟨b, 0, none⟩ v').heap[b]? = some (.cells #[v'] t (0, 0)) := by
  have := putL_here [v'] 0 X #[v] hb
  exact this

/-- Pairs, as the cells of a row. -/
def pcells (l : List (Int × Int)) : List Value := l.flatMap fun p => [.int .i64 p.1, .int .i64 p.2]

theorem pcells_snoc (l : List (Int × Int)) (p : Int × Int) : pcells (l ++ [p]) = pcells l ++ [.int .i64 p.1, .int .i64 p.2] := by simp [pcells]
theorem pcells_append (l m : List (Int × Int)) : pcells (l ++ m) = pcells l ++ pcells m := by simp [pcells]
theorem pcells_len (l : List (Int × Int)) : (pcells l).length = l.length * 2 := by
  induction l with
  | nil => rfl
  | cons p l ih =>
    have e : pcells (p :: l) = .int .i64 p.1 :: .int .i64 p.2 :: pcells l := rfl
    rw [e]
    simp [ih]
    omega

/-- What is told of a walk from i. -/
def told (i : Int) (out : List Ed) : List (Int × Int) := out.map fun x => (i, x.dst)

/-- The memory of the visitor: the row's box, the node's box. -/
structure PInv (T0 bo bn : Nat) (i : Int) (la pa : Option Addr) (ll lc pl pc : Nat) (acc : List (Int × Int)) (W : World) (O : Nat → Prop) (out : List Ed) (v : Value) : Prop where
  box : W.heap[bo]? = some (.cells #[v] 26 (0, 0))
  node : W.heap[bn]? = some (.cells #[.int .i64 i, .slice la ll lc, .slice pa pl pc] 72 (0, 0))
  row : W.ownsRow T0 33 2 v (acc ++ told i out).length (pcells (acc ++ told i out))
  nbo : v.ownBlock ≠ some bo
  nbn : v.ownBlock ≠ some bn
  own : ∀ k, O k ↔ k = bo ∨ k = bn ∨ v.ownBlock = some k

def PIn (T0 bo bn : Nat) (i : Int) (la pa : Option Addr) (ll lc pl pc : Nat) (acc : List (Int × Int)) (W : World) (O : Nat → Prop) (out : List Ed) : Prop := ∃ v, PInv T0 bo bn i la pa ll lc pl pc acc W O out v

theorem vis_p (T0 bo bn : Nat) (i : Int) (la pa : Option Addr) (ll lc pl pc : Nat) (acc : List (Int × Int)) : Vis (PIn T0 bo bn i la pa ll lc pl pc acc) where
  lt := by
    rintro W O out ⟨v, h⟩ k hk
    rcases (h.own k).1 hk with rfl | rfl | hk
    · exact blk_lt h.box
    · exact blk_lt h.node
    · exact (h.row.lt k hk).2
  kept := by
    rintro W W' O out ⟨v, h⟩ hk hs
    exact ⟨v, (hk bo ((h.own bo).2 (.inl rfl))).trans h.box, (hk bn ((h.own bn).2 (.inr (.inl rfl)))).trans h.node, row_kept1 h.row fun g hg => hk g ((h.own g).2 (.inr (.inr hg))), h.nbo, h.nbn, h.own⟩

set_option maxHeartbeats 4000000 in
set_option maxRecDepth 100000 in
theorem pairs1_any (T0 bo bn : Nat) (hbb : bo ≠ bn) (i : Int) (la pa : Option Addr) (ll lc pl pc : Nat) (acc : List (Int × Int)) (hacc : acc.length ≤ 100000) (X : World) (O : Nat → Prop) (out : List Ed) (x : Ed) (hT : T0 ≤ X.heap.size) (h : PIn T0 bo bn i la pa ll lc pl pc acc X O out) (hl : out.length ≤ 1000) :
    Calls Tryz.prog 46 #[.agg #[.int .i64 x.id, .int .i64 x.frm, .int .i64 x.dst, .string x.typ, .slice x.pa x.pl x.pc], .pointer (some ⟨bo, 0, none⟩), .pointer (some ⟨bn, 0, none⟩)] X fun e w' => e = .returned (.tuple #[]) ∧ ∃ O', PIn T0 bo bn i la pa ll lc pl pc acc w' O' (out ++ [x]) ∧ (∀ k, O' k → O k ∨ X.heap.size ≤ k) ∧ Rst O X w' := by
  obtain ⟨v, h⟩ := h
  obtain ⟨i0, hi0, hz0, hs0, hb0⟩ := pair_info
  have hb1 : Below X.heap.size X (X.alloc (.cells #[.int .i64 x.id, .int .i64 x.frm, .int .i64 x.dst, .string x.typ, .slice x.pa x.pl x.pc] 47)) := (Below.refl _ _).alloc (Nat.le_refl _) _
  have y0 := cell_of ((hb1.block bo (blk_lt h.box)).trans h.box) 0
  have y1 := cell_of ((hb1.block bn (blk_lt h.node)).trans h.node) 0
  simp at y0 y1
  have HB1 := toHid hb1
  have H := toHid h
  have HB2 : Hid (Below X.heap.size X ((X.alloc (.cells #[.int .i64 x.id, .int .i64 x.frm, .int .i64 x.dst, .string x.typ, .slice x.pa x.pl x.pc] 47)).alloc (.cells #[.int .i64 i, .int .i64 x.dst] 33))) := hb1.alloc hb1.size _
  have HN := toHid (alloc_new (X.alloc (.cells #[.int .i64 x.id, .int .i64 x.frm, .int .i64 x.dst, .string x.typ, .slice x.pa x.pl x.pc] 47)) (.cells #[.int .i64 i, .int .i64 x.dst] 33))
  obtain ⟨n, hn⟩ : ∃ n, n = (acc ++ told i out).length := ⟨_, rfl⟩
  have HNN := toHid hn
  have HLEN : Hid (n ≤ 101000) := by
    show _ ≤ _
    rw [hn]
    simp [told]
    omega
  have hown : ((X.alloc (.cells #[.int .i64 x.id, .int .i64 x.frm, .int .i64 x.dst, .string x.typ, .slice x.pa x.pl x.pc] 47)).alloc (.cells #[.int .i64 i, .int .i64 x.dst] 33)).ownsRow T0 33 2 v n (pcells (acc ++ told i out)) := hn ▸ row_kept1 h.row fun g hg => HB2.out.block g (h.row.lt g hg).2
  have HOWN := toHid hown
  clear hb1 h hown hn
  go_enter Tryz.func46, Tryz.ntmps46
  go_wp2_with (at_builtin; refine wpList_append_both _ (by rfl) _ _ _ (by rfl) T0 33 i0 _ 2 16 Tryz.underlying26 hi0 hz0 hs0 hb0 rfl (by omega) v n (pcells (acc ++ told i out)) (by rfl) HOWN.out (some ⟨X.heap.size + 1, 0, none⟩) 1 1 [.int .i64 i, .int .i64 x.dst] (by rfl) (by rfl) (fun j u hu => ⟨_, rfl, World.news_of_block (cs := #[.int .i64 i, .int .i64 x.dst]) (t := 33) (fr := (0, 0)) (by have := HN.out; simpa using this) j u hu⟩) (by simp [Value.oneCell']) (by have := HLEN.out; unfold maxLen; omega) (by have := HLEN.out; omega) (by have := HB2.out.size; omega) ?_; intro v' w1 hown1 hgrow hob; have hbo1 : w1.heap[bo]? = some (.cells #[v] 26 (0, 0)) := (hgrow.block bo (by have h1 := blk_lt H.out.box; have h2 := HB2.out.size; omega) (fun e => H.out.nbo e.symm)).trans ((HB2.out.block bo (blk_lt H.out.box)).trans H.out.box); have r0 := cell_of hbo1 0; have f0 := free_of hbo1 0; simp at r0; obtain ⟨gg, cc, rfl, _, _⟩ := hown1.form (by omega))
  generalize Value.slice (some ⟨gg, 0, none⟩) (n + 1) cc = v' at hown1 hob ⊢
  have hsz : X.heap.size ≤ w1.heap.size := Nat.le_trans HB2.out.size hgrow.size
  have hox : ∀ j, j ≠ bo → (w1.setCell ⟨bo, 0, none⟩ v').heap[j]? = w1.heap[j]? := fun j hj => Below.heap_setCell _ _ _ j hj
  have hnew : ∀ g, v'.ownBlock = some g → v.ownBlock = some g ∨ X.heap.size ≤ g := fun g hg => by
    rcases hob with h | h
    · exact .inl (h ▸ hg)
    · rw [h] at hg
      injection hg with e
      have := HB2.out.size
      exact .inr (by omega)
  have hvo : v'.ownBlock ≠ some bo := fun e => by
    rcases hnew _ e with h | h
    · exact H.out.nbo h
    · have := blk_lt H.out.box
      omega
  have hvn : v'.ownBlock ≠ some bn := fun e => by
    rcases hnew _ e with h | h
    · exact H.out.nbn h
    · have := blk_lt H.out.node
      omega
  have et : acc ++ told i (out ++ [x]) = (acc ++ told i out) ++ [(i, x.dst)] := by simp [told]
  have hbn1 : w1.heap[bn]? = some (.cells #[.int .i64 i, .slice la ll lc, .slice pa pl pc] 72 (0, 0)) := (hgrow.block bn (by have h1 := blk_lt H.out.node; have h2 := HB2.out.size; omega) (fun e => H.out.nbn e.symm)).trans ((HB2.out.block bn (blk_lt H.out.node)).trans H.out.node)
  have hp : PInv T0 bo bn i la pa ll lc pl pc acc (w1.setCell ⟨bo, 0, none⟩ v') (fun k => k = bo ∨ k = bn ∨ v'.ownBlock = some k) (out ++ [x]) v' := by
    refine ⟨?_, (hox bn (Ne.symm hbb)).trans hbn1, ?_, hvo, hvn, fun k => Iff.rfl⟩
    · have := set_one hbo1 v'
      exact this
    · rw [et, pcells_snoc, List.length_append, List.length_singleton, ← HNN.out]
      exact row_kept1 hown1 fun g hg => hox g fun e => hvo (e ▸ hg)
  have hr : Rst O X (w1.setCell ⟨bo, 0, none⟩ v') := by
    refine ⟨hgrow.os.trans HB2.out.os, hgrow.tape.trans HB2.out.tape, hgrow.output.trans HB2.out.output, by simpa using hsz, fun k hk hn => ?_⟩
    have h1 : k ≠ bo := fun e => hn ((H.out.own k).2 (.inl e))
    rw [hox k h1]
    exact (hgrow.block k (Nat.lt_of_lt_of_le hk HB2.out.size) (fun e => hn ((H.out.own k).2 (.inr (.inr e.symm))))).trans (HB2.out.block k hk)
  have HP := toHid hp
  have HR := toHid hr
  have HNW := toHid hnew
  clear hp hr hnew hox hvo hvn et hbn1 hown1 hgrow hob hbo1
  go_end0
  refine ⟨rfl, _, ⟨v', HP.out⟩, fun k hk => ?_, HR.out⟩
  rcases hk with h1 | h1 | h1
  · exact .inl ((H.out.own k).2 (.inl h1))
  · exact .inl ((H.out.own k).2 (.inr (.inl h1)))
  · rcases HNW.out k h1 with h2 | h2
    · exact .inl ((H.out.own k).2 (.inr (.inr h2)))
    · exact .inr h2

set_option linter.unusedSimpArgs false

theorem walk_len {E : List Ed} {W : Int → List Ed} (hW : ∀ i x, x ∈ W i → x ∈ E) {K : Nat} : ∀ (f : Nat) (s : WkSt), s.out.length + unseen E s ≤ K → (walkF W f s).length ≤ K
  | 0, s, h => by
    show s.out.length ≤ K
    omega
  | f + 1, s, h => by
    unfold walkF
    split
    · omega
    · rename_i i r e
      refine walk_len hW f _ ?_
      have := (fold_all (E := E) (W i) ⟨r, s.seen, s.out⟩ (hW i)).2.1
      have e2 : unseen E ⟨r, s.seen, s.out⟩ = unseen E s := rfl
      rw [e2] at this
      exact Nat.le_trans this h

theorem raw_len (E : List Ed) (kind : ByteArray) (i : Int) : (rawF E kind i).length ≤ E.length := by
  unfold rawF
  rw [List.length_map]
  refine walk_len (E := E) (fun j x hx => way_mem hx) _ _ ?_
  have := unseen_le E (st0 i)
  show 0 + unseen E (st0 i) ≤ _
  omega

theorem raws_len (E : List Ed) (kind : ByteArray) : ∀ ids : List Int, (rawsF ids E kind).length ≤ ids.length * E.length
  | [] => Nat.zero_le _
  | i :: ids => by
    have e : rawsF (i :: ids) E kind = rawF E kind i ++ rawsF ids E kind := by simp [rawsF]
    rw [e, List.length_append, List.length_cons, Nat.add_mul, Nat.one_mul]
    have := raw_len E kind i
    have := raws_len E kind ids
    omega

theorem raws_take {N : List Nd} {i : Nat} {n : Nd} (h : N[i]? = some n) (E : List Ed) (kind : ByteArray) : rawsF ((N.take (i + 1)).map (·.id)) E kind = rawsF ((N.take i).map (·.id)) E kind ++ rawF E kind n.id := by
  rw [List.take_add_one, h]
  simp [rawsF]

/-- What the loop keeps: the row's box, and all else as it was. -/
structure PLoop (w2 wr : World) (bo : Nat) (acc : List (Int × Int)) (v : Value) : Prop where
  box : wr.heap[bo]? = some (.cells #[v] 26 (0, 0))
  row : wr.ownsRow w2.heap.size 33 2 v acc.length (pcells acc)
  rs : Rst (fun k => k = bo) w2 wr

theorem node_pin {w2 wr Wp : World} {bo bn : Nat} {acc : List (Int × Int)} {v : Value} {i : Int} {la pa : Option Addr} {ll lc pl pc : Nat} (h : PLoop w2 wr bo acc v) (hb : bo < w2.heap.size) (hbn : bn = wr.heap.size) (k : Below wr.heap.size wr Wp) (hn : Wp.heap[bn]? = some (.cells #[.int .i64 i, .slice la ll lc, .slice pa pl pc] 72 (0, 0))) :
    PIn w2.heap.size bo bn i la pa ll lc pl pc acc Wp (fun k => k = bo ∨ k = bn ∨ v.ownBlock = some k) [] := by
  have hs := h.rs.size
  refine ⟨v, (k.block bo (by omega)).trans h.box, hn, ?_, fun e => ?_, fun e => ?_, fun k => Iff.rfl⟩
  · rw [show acc ++ told i [] = acc from by simp [told]]
    exact row_kept1 h.row fun g hg => k.block g (h.row.lt g hg).2
  · have := (h.row.lt _ e).1
    omega
  · have := (h.row.lt _ e).2
    omega

theorem loop_next {w2 wr Wp wv : World} {bo bn : Nat} {acc : List (Int × Int)} {v : Value} {i : Int} {la pa : Option Addr} {ll lc pl pc : Nat} {out : List Ed} {O' : Nat → Prop} (h : PLoop w2 wr bo acc v) (hb : bo < w2.heap.size) (hbn : bn = wr.heap.size) (k : Below wr.heap.size wr Wp) (hp : PIn w2.heap.size bo bn i la pa ll lc pl pc acc wv O' out) (hr : Rst (fun k => k = bo ∨ k = bn ∨ v.ownBlock = some k) Wp wv) : ∃ v', PLoop w2 wv bo (acc ++ told i out) v' := by
  obtain ⟨v', hp⟩ := hp
  have hs := h.rs.size
  refine ⟨v', hp.box, hp.row, (h.rs.trans (Rst.of_below (O := fun _ => False) k) (fun j hj => hj.elim)).trans hr fun j hj => ?_⟩
  rcases hj with rfl | rfl | hj
  · exact .inl rfl
  · exact .inr (by omega)
  · exact .inr (h.row.lt j hj).1

set_option linter.unusedSimpArgs false

/-- What slices.SortFunc leaves of a row of pairs. -/
def SortOk (sortP : List (Int × Int) → List (Int × Int)) : Prop := ∀ (W : World) (B : Nat) (v : Value) (L : List (Int × Int)), W.ownsRow B 33 2 v L.length (pcells L) → L.length ≤ 1000000 → Calls Tryz.prog 47 #[v, .func (.func 48) #[] #[]] W fun e w' => e = .returned (.tuple #[]) ∧ w'.ownsRow B 33 2 v L.length (pcells (sortP L)) ∧ W.grownBy w' v.ownBlock

set_option maxHeartbeats 4000000 in
set_option maxRecDepth 100000 in
theorem pairs_any {sortP : List (Int × Int) → List (Int × Int)} (hso : SortOk sortP) (N : List Nd) (E : List Ed) (na : Option Addr) (nl nc : Nat) (ea : Option Addr) (el ec : Nat) (next : Int) (kind : ByteArray) (w : World) (hN : NodesAt w N na nl) (hE : EdgesAt w E ea el) (hnl : nl ≤ 100) (hel : el ≤ 1000) :
    Calls Tryz.prog 26 #[.agg #[.slice na nl nc, .slice ea el ec, .int .i64 next], .string kind] w fun e w' => ∃ v, e = .returned v ∧ w'.ownsRow w.heap.size 33 2 v (rawsF (N.map (·.id)) E kind).length (pcells (sortP (rawsF (N.map (·.id)) E kind))) ∧ Below w.heap.size w w' := by
  have hsz0 : ((w.alloc (.cells #[.slice na nl nc, .slice ea el ec, .int .i64 next] 25)).alloc (.cells #[.slice none 0 0] 26)).heap.size = w.heap.size + 2 := by simp
  have hb0 : Below w.heap.size w ((w.alloc (.cells #[.slice na nl nc, .slice ea el ec, .int .i64 next] 25)).alloc (.cells #[.slice none 0 0] 26)) := ((Below.refl _ _).alloc (Nat.le_refl _) _).alloc (by simp) _
  have hg0 : ((w.alloc (.cells #[.slice na nl nc, .slice ea el ec, .int .i64 next] 25)).alloc (.cells #[.slice none 0 0] 26)).heap[w.heap.size]? = some (.cells #[.slice na nl nc, .slice ea el ec, .int .i64 next] 25 (0, 0)) := (Below.heap_alloc _ _ _ (by simp)).trans (alloc_new w _)
  have ho0 := alloc_two w (.cells #[.slice na nl nc, .slice ea el ec, .int .i64 next] 25) (.cells #[.slice none 0 0] 26)
  have HSO := toHid hso
  have HLV : Hid (∀ X, Below w.heap.size w X → Calls Tryz.prog 34 #[.slice ea el ec, .string kind] X fun e w' => e = .returned (.map (some X.heap.size)) ∧ (∃ f, OwnWays w' X.heap.size X.heap.size (wayF E kind) f) ∧ Below X.heap.size X w') := fun X k => leaving_any E ea el ec kind X (hE.below k) hel
  have HEL : Hid (E.length ≤ 1000) := by show _ ≤ _; rw [← hE.1]; exact hel
  have HTY : Hid (∀ x ∈ E, x.typ.size ≤ 9223372036854775807) := fun x hx => by
    obtain ⟨j, hj⟩ := List.getElem?_of_mem hx
    obtain ⟨h1, h2, h3⟩ := hE
    obtain ⟨b, off, _, _, hc⟩ := h3 (by have := (List.getElem?_eq_some_iff.1 hj).1; omega)
    exact (hc j x hj).1
  obtain ⟨hnn, hnm, hnat⟩ := hN
  have HNN := toHid hnn
  have HNAT := toHid hnat
  clear hso hE hnn hnat
  go_enter Tryz.func26, Tryz.ntmps26
  have HB0 := toHid hb0
  have HG0 := toHid hg0
  have HO0 := toHid ho0
  have HZ0 := toHid hsz0
  clear hb0 hg0 ho0 hsz0
  go_upto_region 2 with fail
  generalize (w.alloc (.cells #[.slice na nl nc, .slice ea el ec, .int .i64 next] 25)).alloc (.cells #[.slice none 0 0] 26) = W1 at HB0 HG0 HO0 HZ0 ⊢
  have g0 := cell_of HG0.out 0
  have g1 := cell_of HG0.out 1
  simp at g0 g1
  have hgl : w.heap.size < W1.heap.size := by have := HZ0.out; omega
  go_wp2_with fail
  refine (HLV.out W1 HB0.out).mono ?_
  rintro e w2 ⟨rfl, ⟨f, how⟩, k2⟩
  have HOW := toHid how
  have HK2 := toHid k2
  have HG2 := toHid ((k2.block _ hgl).trans HG0.out)
  have HO2 := toHid ((k2.block (w.heap.size + 1) (by have := HZ0.out; omega)).trans HO0.out)
  have HB2 := toHid (HB0.out.trans (k2.mono HB0.out.size))
  clear how k2 g0 g1
  have g0 := cell_of HG2.out 0
  simp at g0
  have hgl2 : w.heap.size < w2.heap.size := blk_lt HG2.out
  go_wp2_with fail
  go_loopg [16] nl (fun g s16 wr => ∃ (i : Nat) (v : Value), i ≤ nl ∧ nl - i ≤ g ∧ s16 = .int .i64 i ∧ PLoop w2 wr (w.heap.size + 1) (rawsF ((N.take i).map (·.id)) E kind) v)
  case atStart => exact ⟨0, .slice none 0 0, Nat.zero_le _, by omega, rfl, HO2.out, World.ownsRow_nil _ _ _ _, Rst.refl _ _⟩
  case round =>
    obtain ⟨i, v, hi, hg, rfl, hpl⟩ := hrel
    have HPL := toHid hpl
    clear hpl
    have hbo : w.heap.size + 1 < w2.heap.size := blk_lt HO2.out
    by_cases hlt : i < nl
    · obtain ⟨b, off, ha, hb, hc⟩ := HNAT.out (by omega)
      subst ha
      obtain ⟨n, hn, _⟩ := drop_get (L := N) (i := i) (by have := HNN.out; omega)
      obtain ⟨c0, c1, c2⟩ := hc i n hn
      have hrs := HPL.out.rs
      have hbw : w2.heap[b]? = w.heap[b]? := HB2.out.block b hb
      have qq : ∀ o, wr.cell? ⟨b, o, none⟩ = w.cell? ⟨b, o, none⟩ := fun o => World.cell?_of_block (w := w) (w' := wr) (a := ⟨b, o, none⟩) ((hrs.block b (by have := HB2.out.size; omega) (by omega)).trans hbw)
      have d0 := (qq _).trans c0
      have d1 := (qq _).trans c1
      have d2 := (qq _).trans c2
      have HNI := toHid hn
      clear hc hn c0 c1 c2 qq hrs hbw
      have hil : (i : Int) < nl := by omega
      go_upto_region 6 with fail
      have HNB := toHid (alloc_new wr (.cells #[.int .i64 n.id, .slice n.la n.ll n.lc, .slice n.pa n.pl n.pc] 72))
      have HKW := toHid ((Below.refl wr.heap.size wr).alloc (Nat.le_refl _) (.cells #[.int .i64 n.id, .slice n.la n.ll n.lc, .slice n.pa n.pl n.pc] 72))
      generalize wr.alloc (.cells #[.int .i64 n.id, .slice n.la n.ll n.lc, .slice n.pa n.pl n.pc] 72) = Wp at HNB HKW ⊢
      clear d0 d1 d2
      have y0 := cell_of HNB.out 0
      simp at y0
      have hpl : wr.heap.size < Wp.heap.size := blk_lt HNB.out
      have HBW : Hid (w2.heap.size ≤ wr.heap.size) := HPL.out.rs.size
      have hacc : (rawsF ((N.take i).map (·.id)) E kind).length ≤ 100000 := by
        have h1 := raws_len E kind ((N.take i).map (·.id))
        have h2 : ((N.take i).map (·.id)).length ≤ 100 := by
          rw [List.length_map, List.length_take]
          have := HNN.out
          omega
        have h3 := Nat.mul_le_mul h2 HEL.out
        omega
      have HPI := toHid (node_pin HPL.out hbo rfl HKW.out HNB.out)
      have hmo : W1.heap.size ≠ w.heap.size + 1 := by have := HZ0.out; omega
      have HOWp : Hid (OwnWays Wp W1.heap.size W1.heap.size (wayF E kind) f) := (HOW.out.rst (O := fun k => k = w.heap.size + 1) hmo (fun j g hg e => by
        have := ((HOW.out.row j).lt g hg).1
        have := HZ0.out
        omega) HPL.out.rs).below HKW.out
      have HWK := toHid (walk_pairs E (wayF E kind) (fun j x hx => way_mem hx) (fun j => List.length_filter_le _ _) HEL.out HTY.out Wp W1.heap.size W1.heap.size f HOWp.out (vis_p w2.heap.size (w.heap.size + 1) wr.heap.size n.id n.la n.pa n.ll n.lc n.pl n.pc (rawsF ((N.take i).map (·.id)) E kind)) (w.heap.size + 1) wr.heap.size
        (fun X O out x hI hx hl => pairs1_any w2.heap.size (w.heap.size + 1) wr.heap.size (by have := HBW.out; omega) n.id n.la n.pa n.ll n.lc n.pl n.pc _ hacc X O out x (by
          obtain ⟨v0, hv0⟩ := hI
          have h1 := blk_lt hv0.node
          have h2 := HBW.out
          omega) hI (Nat.le_trans hl HEL.out))
        (fun k => k = w.heap.size + 1 ∨ k = wr.heap.size ∨ v.ownBlock = some k) HPI.out
        (fun h => by
          have hm := HOW.out.map.lt
          have hb3 := HBW.out
          rcases h with h | h | h
          · exact hmo h
          · omega
          · have := (HPL.out.row.lt _ h).1
            omega)
        (fun j g hg h => by
          have hr := (HOW.out.row j).lt g hg
          have hb3 := HBW.out
          have hz := HZ0.out
          rcases h with h | h | h
          · omega
          · omega
          · have := (HPL.out.row.lt _ h).1
            omega) n.id)
      go_wp2_with fail
      refine HWK.out.mono ?_
      rintro e wv ⟨rfl, O', p1, p2, p3⟩
      obtain ⟨v', hv'⟩ := loop_next HPL.out hbo rfl HKW.out p1 p3
      have HV' := toHid hv'
      clear p1 p2 p3 hv' HWK y0 hpl
      go_wp2_with fail
      go_roundg (nl - (i + 1))
      case measure => omega
      case rel => exact ⟨i + 1, v', by omega, by omega, by go_num, by rw [raws_take HNI.out]; exact HV'.out⟩
    · have he : i = nl := by omega
      subst he
      have htk : (N.take i).map (·.id) = N.map (·.id) := by rw [List.take_of_length_le (by have := HNN.out; omega)]
      rw [htk] at HPL
      have HLEN : Hid ((rawsF (N.map (·.id)) E kind).length ≤ 1000000) := by
        have h1 := raws_len E kind (N.map (·.id))
        have h2 : (N.map (·.id)).length ≤ 100 := by
          rw [List.length_map]
          have := HNN.out
          omega
        have h3 := Nat.mul_le_mul h2 HEL.out
        show _ ≤ _
        omega
      have o0 := cell_of HPL.out.box 0
      simp at o0
      have hol : w.heap.size + 1 < wr.heap.size := blk_lt HPL.out.box
      go_wp2_with fail
      refine (HSO.out wr w2.heap.size v _ HPL.out.row HLEN.out).mono ?_
      rintro e w5 ⟨rfl, hr5, hg5⟩
      have hb5 : w5.heap[w.heap.size + 1]? = some (.cells #[v] 26 (0, 0)) := (hg5.block _ hol (fun e => by
        have := (HPL.out.row.lt _ e.symm).1
        omega)).trans HPL.out.box
      have HR5 := toHid hr5
      have HBB : Hid (Below w.heap.size w w5) := by
        have h1 : Below w.heap.size w wr := HB2.out.trans ⟨HPL.out.rs.os, HPL.out.rs.tape, HPL.out.rs.output, HPL.out.rs.size, fun k hk => HPL.out.rs.block k (by omega) (by omega)⟩
        exact h1.grown hg5 h1.size (fun k hk => by
          have := (HPL.out.row.lt _ hk).1
          omega)
      clear hr5 hg5 o0 hol
      have o0 := cell_of hb5 0
      simp at o0
      have hol : w.heap.size + 1 < w5.heap.size := blk_lt hb5
      go_wp2_with fail
      go_ret
      refine ⟨v, rfl, ?_, HBB.out⟩
      have := HR5.out
      exact ⟨this.1, this.2.imp id fun ⟨g, cap, cur, e1, e2, e3⟩ => ⟨g, cap, cur, e1, by omega, e3⟩⟩

set_option linter.unusedSimpArgs false

def encP (p : Int × Int) : List Value := [.int .i64 p.1, .int .i64 p.2]

theorem pcells_get : ∀ (L : List (Int × Int)) (t : Nat), t < L.length * 2 → (pcells L)[t]? = some ((encP (L.toArray[t / 2]!))[t % 2]!)
  | [], t, h => by simp at h
  | p :: l, t, h => by
    have e : pcells (p :: l) = .int .i64 p.1 :: .int .i64 p.2 :: pcells l := rfl
    rw [e]
    match t, h with
    | 0, _ => rfl
    | 1, _ => rfl
    | t + 2, h =>
      have ih := pcells_get l t (by simp at h; omega)
      rw [List.getElem?_cons_succ, List.getElem?_cons_succ, ih]
      have e1 : (t + 2) / 2 = t / 2 + 1 := by omega
      have e2 : (t + 2) % 2 = t % 2 := by omega
      rw [e1, e2]
      simp

theorem flat_pcells (L : List (Int × Int)) : Sort.flatK encP 2 L.toArray = (pcells L).toArray := by
  apply Array.ext
  · simp [pcells_len]
  · intro t h1 h2
    have h3 : t < L.length * 2 := by simpa using h1
    have g := pcells_get L t h3
    have e1 := Sort.get_flatK encP 2 L.toArray t (by simpa using h3)
    rw [getElem!_pos _ t h1] at e1
    rw [e1]
    have e2 : (pcells L)[t]? = some ((pcells L).toArray[t]) := by simp
    rw [g] at e2
    injection e2

theorem ord_lt (x y : Int × Int) : ltOf ordP x y = decide (x.1 < y.1 ∨ (x.1 = y.1 ∧ x.2 < y.2)) := by
  unfold ltOf ordP cmpN
  rw [Bool.eq_iff_iff]
  simp only [decide_eq_true_eq]
  repeat' split
  all_goals omega

def sortP (L : List (Int × Int)) : List (Int × Int) := L.mergeSort fun x y => !ltOf ordP y x

theorem swo_p : Sort.SWO (ltOf ordP) where
  irrefl x := by rw [ord_lt]; simp
  trans x y z h1 h2 := by
    rw [ord_lt] at *
    simp only [decide_eq_true_eq] at *
    omega
  ntrans x y z h1 h2 := by
    rw [ord_lt] at *
    simp only [decide_eq_false_iff_not] at *
    omega

theorem tot_p (x y : Int × Int) (h1 : ltOf ordP x y = false) (h2 : ltOf ordP y x = false) : x = y := by
  rw [ord_lt] at h1 h2
  simp only [decide_eq_false_iff_not] at h1 h2
  obtain ⟨a, b⟩ := x
  obtain ⟨c, d⟩ := y
  simp only [Prod.mk.injEq] at h1 h2 ⊢
  omega

theorem heap_sortedV {w : World} {g n : Nat} {os : Array Obj} {cur : Array Value} {e : TypeId} {fr : Nat × Nat} (d : Array Value) (hb : w.heap[g]? = some (.cells cur e fr)) :
    (Sort.grow (Sort.putRow id (Sort.ahead w n) g 0 d) os).heap[g]? = some (.cells (Sort.putCells id 0 d cur) e fr) := by
  have hg : g < w.heap.size := (Array.getElem?_eq_some_iff.1 hb).1
  rw [Sort.heap_grow_old _ _ (by simpa using hg)]
  simp [Sort.putRow, Sort.mapBlock, Sort.ahead, Array.getElem?_modify, hb, Sort.onCells]

theorem grownBy_sortedV {w : World} {g n : Nat} {os : Array Obj} (d : Array Value) : w.grownBy (Sort.grow (Sort.putRow id (Sort.ahead w n) g 0 d) os) (some g) := by
  refine ⟨rfl, rfl, rfl, by simp, fun k hk hne => ?_⟩
  rw [Sort.heap_grow_old _ _ (by simpa using hk)]
  have : g ≠ k := fun e => hne (by rw [e])
  simp [Sort.putRow, Sort.mapBlock, Sort.ahead, Array.getElem?_modify, this]

theorem take_putCellsV (cur : Array Value) (ts : List Value) (h : ts.length ≤ cur.size) : (Sort.putCells id 0 ts.toArray cur).toList.take ts.length = ts := by
  apply List.ext_getElem?
  intro j
  by_cases hj : j < ts.length
  · rw [List.getElem?_take_of_lt hj, Array.getElem?_toList]
    simp [Sort.putCells, hj, show j < cur.size by omega]
  · rw [List.getElem?_take_eq_none (by omega), List.getElem?_eq_none (by omega)]

theorem len_sortP (L : List (Int × Int)) : (sortP L).length = L.length := List.length_mergeSort _

theorem sort_ok : SortOk sortP := by
  intro W B v L h hl
  rcases h.2 with ⟨rfl, h0⟩ | ⟨g, cap, cur, rfl, h1, h2, h3, h4, h5, h6⟩
  · have hL : L = [] := List.length_eq_zero_iff.1 h0
    subst hL
    have hc := AnyF.slices_SortFunc_none Tryz.sortLay none 0 (.func (.func 48) #[] #[]) W
    change Calls Tryz.prog 47 _ _ _ at hc
    refine hc.mono ?_
    rintro e w' ⟨rfl, rfl⟩
    exact ⟨rfl, (by rw [show sortP [] = [] from List.mergeSort_nil]; exact h), ⟨rfl, rfl, rfl, Nat.le_refl _, fun _ _ _ => rfl⟩⟩
  · have eg : ∀ args w, (callFunc 48 args).run Tryz.prog w = .ok (.enter 48 args) w := enters_of Tryz.func48 (by kernel_rfl) rfl
    have hcmp : CmpLays Tryz.prog 48 #[] encP 2 ordP g 0 L.toArray.size W := fun _ _ _ _ x y => orderP_any x y _
    have hH : Sort.HoldsK encP 2 W g 0 L.toArray := by
      unfold Sort.HoldsK
      rw [flat_pcells]
      intro j hj
      have hj' : j < (pcells L).length := by simpa using hj
      refine ⟨?_, by simp [World.frozen?, h2]⟩
      have e1 : (cur.toList.take (L.length * 2))[j]? = (pcells L)[j]? := by rw [h6]
      rw [List.getElem?_take_of_lt (by rw [pcells_len] at hj'; exact hj')] at e1
      simp only [World.cell?, h2, Nat.zero_add]
      simp only [Option.isSome_none, Bool.false_eq_true, if_false]
      rw [← Array.getElem?_toList, e1]
      simp [hj']
    have hc := AnyQ.slices_SortFunc_total Tryz.sortLay 2 Tryz.isAgg33 Tryz.sizeOf33 encP (fun _ => rfl) (fun x v hv => by simp [encP] at hv; rcases hv with rfl | rfl <;> rfl) ordP swo_p 48 #[] g 0 cap L.toArray W eg hcmp hH (blk_lt h2) (by simp; omega) tot_p
    change Calls Tryz.prog 47 _ _ _ at hc
    refine hc.mono ?_
    rintro e w' ⟨rfl, n, os, rfl⟩
    have eF : Sort.flatK encP 2 (L.toArray.toList.mergeSort fun x y => !ltOf ordP y x).toArray = (pcells (sortP L)).toArray := flat_pcells (sortP L)
    unfold sortWorldK Sort.putRowK
    rw [eF]
    refine ⟨rfl, ⟨by rw [pcells_len, len_sortP], .inr ⟨g, cap, _, rfl, h1, heap_sortedV _ h2, h3, h4, by simp [Sort.putCells, h5], ?_⟩⟩, grownBy_sortedV _⟩
    have e2 : L.length * 2 = (pcells (sortP L)).length := by rw [pcells_len, len_sortP]
    rw [e2]
    exact take_putCellsV cur _ (by rw [← e2, h5]; exact Nat.mul_le_mul_right 2 h3)
end Go.Proofs.YtebbjmjgojekdaaGreatDoor
