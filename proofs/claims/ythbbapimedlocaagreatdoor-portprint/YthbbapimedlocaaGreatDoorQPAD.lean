/-
  What is proved here: what the texts ZCopy, YBuild, YNumber, YListed, YPText prove, in one text.
-/
import Derived.Test.YthbbapimedlocaaGreatDoorQPAB
import Derived.Laws.CopyRow
import Derived.Test.YthbbapimedlocaaGreatDoorQPAA
import Derived.Lib.FrozenHead
import Derived.Lib.AppendIntMem
import Derived.Deep.RegionHeld3
import Derived.Deep.AppendLies
import Derived.Maps.AppendAt
import Derived.OwnWalk
import Derived.Lib.AppendStr
namespace Go.Proofs.YthbbapimedlocaaGreatDoor
open Go.RowKit
set_option linter.unusedVariables false

theorem run_copy_more {P : Program} (w : World) (dT sT ty elem : TypeId) (g o dLen dCap : Nat) (a : Addr) (sLen sCap : Nat) (cur : Array Value) (t : TypeId) (cs : List Value) (i : TypeInfo) (k n : Nat)
    (hu : P.underlying dT = some (.slice elem)) (hi : P.info? elem = some i) (hk : i.size = k)
    (hg : w.heap[g]? = some (.cells cur t (0, 0))) (hn : n = Nat.min sLen dLen) (hl : cs.length = n * k)
    (hsrc : ∀ j v, cs[j]? = some v → w.cell? (a.add j) = some v) (hfit : o + cs.length ≤ cur.size) (h1 : ∀ v ∈ cs, v.oneCell' = true) :
    (Builtin.copy_ #[dT, sT] ty #[.slice (some ⟨g, o, none⟩) dLen dCap, .slice (some a) sLen sCap]).run P w =
      .ok (goInt n) (w.setRow g (cur.toList.take o ++ cs ++ cur.toList.drop (o + cs.length)).toArray) := by
  have hld := run_loadCells_list (P := P) w a cs hsrc
  have hst := run_storeCells_at P g o t cs 0 cur w hg (by simpa using hfit) h1
  rw [hl] at hld
  simp [Builtin.copy_, run_underlying hu, Builtin.lenOf, Builtin.firstCells, sizeOf, typeInfo, hi, hk, ← hn, hld, hst]

theorem wp_copy_eq {P : Program} (w : World) {o : Oper} {a : Act} {K : Act → World → Prop} {Q : Exit → Act → World → Prop} (d s : Operand) (t t' : TypeId)
    (ho : o.op = .call { callee := .builtin .copy, args := #[d, s], argTypes := #[t, t'] }) (v u : Value) (hd : a.eval d = v) (hs : a.eval s = u) (v' : Value) (w' : World)
    (hr : (Builtin.copy_ #[t, t'] o.type #[v, u]).run P w = .ok v' w') (h : K (a.put o.dst v') w') : o.wp P a w K Q := by
  unfold Oper.wp
  simp [execOp, ho, resolve, invoke, builtin, hd, hs, hr, Result.andThen]
  exact h

theorem list_copy_eq {P : Program} (w : World) {ops : Array Oper} {rest : List Oper} {o : Oper} {a : Act} {Q : Exit → Act → World → Prop} (hgd : o.guard = none) (d s : Operand) (t t' : TypeId)
    (ho : o.op = .call { callee := .builtin .copy, args := #[d, s], argTypes := #[t, t'] }) (v u : Value) (hd : a.eval d = v) (hs : a.eval s = u) (v' : Value) (w' : World)
    (hr : (Builtin.copy_ #[t, t'] o.type #[v, u]).run P w = .ok v' w') (h : wpList P ops Q rest (a.put o.dst v') w') : wpList P ops Q (o :: rest) a w :=
  wpList_plain hgd fun _ hK => wp_copy_eq w d s t t' ho v u hd hs v' w' hr (hK _ _ h)

theorem step_copy_eq {P : Program} {ops : Array Oper} {o : Oper} {a : Act} {w : World} {K : Act → World → Prop} {Q : Exit → Act → World → Prop} {E : Prop} (hgd : o.guard = none) (d s : Operand) (t t' : TypeId)
    (ho : o.op = .call { callee := .builtin .copy, args := #[d, s], argTypes := #[t, t'] }) (v u : Value) (hd : a.eval d = v) (hs : a.eval s = u) (v' : Value) (w' : World)
    (hr : (Builtin.copy_ #[t, t'] o.type #[v, u]).run P w = .ok v' w') (h : K (a.put o.dst v') w') :
    if Region.wanted o (yielded ops a.tmps) = true then Oper.wp P o a w K Q else E := by
  have hw : Region.wanted o (yielded ops a.tmps) = true := by simp [Region.wanted, hgd]
  rw [if_pos hw]
  exact wp_copy_eq w d s t t' ho v u hd hs v' w' hr h

/-- The builder's type, and a byte's. -/
abbrev BT : TypeId := 40

abbrev BE : TypeId := 5

theorem size_builder : (Tryz.prog.info? BT).map (·.size) = some 2 := by kernel_rfl

set_option maxHeartbeats 1000000 in
set_option maxRecDepth 100000 in
theorem copy_used (b : Nat) (w : World) (h0 : w.cell? ⟨b, 0, none⟩ = some (.pointer (some ⟨b, 0, none⟩))) :
    Calls Tryz.prog 78 #[.pointer (some ⟨b, 0, none⟩)] w fun e w' => e = .returned (.tuple #[]) ∧ w' = w := by
  obtain ⟨j, hj, _⟩ := Option.map_eq_some_iff.1 size_builder
  go_enter Tryz.func78, Tryz.ntmps78
  go_wp2
  rw [Lib.run_neq_ptr_same w _ Tryz.underlying37 hj]
  go_wp2
  go_end0
  exact ⟨rfl, rfl⟩

set_option maxHeartbeats 1000000 in
set_option maxRecDepth 100000 in
theorem copy_fresh (b : Nat) (w : World) (h0 : w.cell? ⟨b, 0, none⟩ = some (.pointer none)) (hsh : w.shape? b = some (BT, 2)) (hfz : w.frozen? ⟨b, 0, none⟩ = false) :
    Calls Tryz.prog 78 #[.pointer (some ⟨b, 0, none⟩)] w fun e w' => e = .returned (.tuple #[]) ∧ w' = w.setCell ⟨b, 0, none⟩ (.pointer (some ⟨b, 0, none⟩)) := by
  obtain ⟨j, hj, hjs⟩ := Option.map_eq_some_iff.1 size_builder
  go_enter Tryz.func78, Tryz.ntmps78
  go_wp2
  rw [Lib.run_to_unsafe w ⟨b, 0, none⟩ Tryz.underlying37 Tryz.underlying170 hj (by rw [hjs]; decide) hsh (Nat.zero_lt_succ 1)]
  simp only [Result.andThen]
  rw [Oper.upon_value]
  go_wp2
  rw [run_callFunc_extern Tryz.func107 (by kernel_rfl) (by kernel_rfl) (by kernel_rfl) (e := Extern.AbiNoEscape.same) (by kernel_rfl)]
  rw [Lib.run_noEscape]
  simp only [Result.andThen]
  rw [Oper.upon_value]
  go_wp2
  rw [Lib.run_from_unsafe w ⟨b, 0, none⟩ Tryz.underlying170 Tryz.underlying37 hj hsh (by kernel_rfl)]
  simp only [Result.andThen]
  rw [Oper.upon_value]
  go_wp2
  go_end0
  exact ⟨rfl, rfl⟩

theorem copy_any (B b : Nat) (bs : List Value) (w : World) (h : Lib.IsBuilderF BT BE B b bs w) :
    Calls Tryz.prog 78 #[.pointer (some ⟨b, 0, none⟩)] w fun e w' => e = .returned (.tuple #[]) ∧ Lib.BuilderAtF BT BE B b (.pointer (some ⟨b, 0, none⟩)) bs w' ∧ Below B w w' := by
  rcases h with h | h
  · refine (copy_fresh b w h.cell0 h.shape h.frozen0).mono ?_
    rintro e w' ⟨rfl, rfl⟩
    exact ⟨rfl, h.used _, (Below.refl _ _).setCell h.1 _⟩
  · refine (copy_used b w h.cell0).mono ?_
    rintro e w' ⟨rfl, rfl⟩
    exact ⟨rfl, h, Below.refl _ _⟩

theorem info_byte0 : (Tryz.prog.info? BE).map (fun i => (i.zero, i.size, i.bytes)) = some (some (.int .u8 0), 1, 1) := by kernel_rfl

theorem info_byte : ∃ i, Tryz.prog.info? BE = some i ∧ i.zero = some (.int .u8 0) ∧ i.size = 1 ∧ i.bytes = 1 := by
  obtain ⟨i, h, e⟩ := Option.map_eq_some_iff.1 info_byte0
  simp only [Prod.mk.injEq] at e
  exact ⟨i, h, e⟩

set_option maxHeartbeats 2000000 in
set_option maxRecDepth 100000 in
theorem write_any (B b : Nat) (bs : List Value) (s : ByteArray) (w : World) (h : Lib.IsBuilderF BT BE B b bs w) (hlen : bs.length + s.size ≤ 140737488355328) (hBw : B ≤ w.heap.size) :
    Calls Tryz.prog 49 #[.pointer (some ⟨b, 0, none⟩), .string s] w fun e w' => e = .returned (.tuple #[.int .i64 s.size, .nilIface]) ∧ Lib.IsBuilderF BT BE B b (bs ++ Lib.strCells s) w' ∧ Below B w w' := by
  obtain ⟨i0, hi, hz0, hz1, hz2⟩ := info_byte
  have H := toHid h
  clear h
  go_enter Tryz.func49, Tryz.ntmps49
  go_wp2_with (go_at_call 78; refine (copy_any B b bs _ H.out).mono ?_)
  rintro e w1 ⟨rfl, h1, hb1⟩
  obtain ⟨hB, v, hbk, hown, hne⟩ := h1
  have c1 : w1.cell? ⟨b, 1, none⟩ = some v := by rw [Lib.cell_of_heap hbk]; rfl
  go_wp2_with (at_builtin; refine Lib.wpList_append_own_stringF _ rfl _ _ 38 9 rfl B BE i0 Tryz.underlying38 Tryz.underlying9 hi hz0 hz1 hz2 _ _ _ rfl hown s rfl ?c3 ?c4 ?c5 ?_)
  case c3 => unfold maxLen; omega
  case c4 => omega
  case c5 => have := hb1.size; omega
  intro v' w2 hown' hgrow _
  have hlt : b < w1.heap.size := (Array.getElem?_eq_some_iff.1 hbk).1
  have hb2 : w2.heap[b]? = some (.cells #[.pointer (some ⟨b, 0, none⟩), v] BT (0, 0)) := by
    rw [hgrow.block b hlt (fun e => hne e.symm)]
    exact hbk
  have d1 : w2.cell? ⟨b, 1, none⟩ = some v := by rw [Lib.cell_of_heap hb2]; rfl
  have f1 : w2.frozen? ⟨b, 1, none⟩ = false := Lib.frozen_of_heap hb2 1
  obtain ⟨ao, n', cap, rfl⟩ : ∃ ao n' cap, v' = .slice ao n' cap := by
    rcases hown'.2 with ⟨hv, _⟩ | ⟨g, cap, cur, fz, hv, _⟩
    · exact ⟨_, _, _, hv⟩
    · exact ⟨_, _, _, hv⟩
  go_wp2
  go_ret2
  refine ⟨rfl, .inr ?_, ?_⟩
  · exact Lib.BuilderAtF.put hB hb2 (bs' := bs ++ Lib.strCells s) (by simpa [Lib.strCells_length] using hown') (by decide)
  · exact (hb1.grown hgrow (by have := hb1.size; omega) (fun k hk => (hown.lt k hk).1)).setCell (p := ⟨b, 1, none⟩) hB _

/-- The table of powers of ten lies in the world, and in every world that leaves the blocks below B as they are. -/
def Pow10 (B : Nat) (w : World) : Prop := Lib.TabBelow Tryz.prog B w "internal/strconv.uint64pow10" .u64 Lib.pow10Tab

theorem Pow10.below {B : Nat} {w w' : World} (h : Pow10 B w) (hb : Below B w w') : Pow10 B w' := fun _ k => h _ (hb.trans k)

/-- A row of the call's own is left alone by what leaves its blocks alone. -/
theorem row_kept {B n : Nat} {e : TypeId} {size : Nat} {v : Value} {xs : List Value} {w w' : World} (h : w.ownsRow B e size v n xs) (hk : ∀ k, B ≤ k → k < w.heap.size → w'.heap[k]? = w.heap[k]?) : w'.ownsRow B e size v n xs := by
  refine ⟨h.1, ?_⟩
  rcases h.2 with h0 | ⟨g, cap, cur, e1, e2, e3, e4⟩
  · exact .inl h0
  · exact .inr ⟨g, cap, cur, e1, e2, by rw [hk g e2 (Array.getElem?_eq_some_iff.1 e3).1]; exact e3, e4⟩

theorem row_block {B n : Nat} {e : TypeId} {size : Nat} {v : Value} {xs : List Value} {w : World} (h : w.ownsRow B e size v n xs) (k : Nat) (hk : v.ownBlock = some k) : B ≤ k := by
  rcases h.2 with ⟨rfl, _⟩ | ⟨g, cap, cur, rfl, e2, _⟩
  · simp [Value.ownBlock] at hk
  · simp [Value.ownBlock] at hk
    omega

/-- A row of bytes of the call's own. -/
def Out (B : Nat) (w : World) (v : Value) (l : List UInt8) : Prop := w.ownsRow B BE 1 v l.length (Lib.byteCells l)

theorem Out.len {B : Nat} {w : World} {v : Value} {l : List UInt8} (h : Out B w v l) : ∃ a c, v = .slice a l.length c := by
  rcases h.2 with ⟨h0, h1⟩ | ⟨g, cap, cur, e1, _⟩
  · exact ⟨none, 0, by rw [h0, h1]⟩
  · exact ⟨_, _, e1⟩

theorem Out.nil (B : Nat) (w : World) : Out B w (.slice none 0 0) [] := ⟨rfl, .inl ⟨rfl, rfl⟩⟩

theorem Out.kept {B : Nat} {w w' : World} {v : Value} {l : List UInt8} (h : Out B w v l) (hk : ∀ k, B ≤ k → k < w.heap.size → w'.heap[k]? = w.heap[k]?) : Out B w' v l := row_kept h hk

theorem Out.alloc {B : Nat} {w : World} {v : Value} {l : List UInt8} (h : Out B w v l) (o : Obj) : Out B (w.alloc o) v l := h.kept fun k _ hk => Below.heap_alloc _ _ _ hk

theorem Out.below {B : Nat} {w w' : World} {v : Value} {l : List UInt8} (h : Out B w v l) (k : Below w.heap.size w w') : Out B w' v l := h.kept fun i _ hi => k.block i hi

theorem Out.grown {B : Nat} {a w w' : World} {v : Value} {l : List UInt8} (h : Out B w v l) (hb : Below B a w) (hg : w.grownBy w' v.ownBlock) (hB : B ≤ w.heap.size) : Below B a w' := hb.grown hg hB (fun k hk => row_block h k hk)

theorem out_of {B : Nat} {w : World} {v : Value} {n : Nat} {l m : List UInt8} {ys : List Value} (h : w.ownsRow B BE 1 v n (Lib.byteCells l ++ ys)) (e : ys = Lib.byteCells m) : Out B w v (l ++ m) := by
  subst e
  rw [← Lib.byteCells_append] at h
  have hl := h.1
  rw [Lib.byteCells_length] at hl
  have : n = (l ++ m).length := by omega
  subst this
  exact h

theorem two_new (w : World) (x y : Value) (t : TypeId) : ∀ j u, [x, y][j]? = some u → (w.alloc (.cells #[x, y] t)).cell? ((⟨w.heap.size, 0, none⟩ : Addr).add j) = some u :=
  World.news_of_block (cs := #[x, y]) (alloc_new w _)

theorem one_new (w : World) (x : Value) (t : TypeId) : ∀ j u, [x][j]? = some u → (w.alloc (.cells #[x] t)).cell? ((⟨w.heap.size, 0, none⟩ : Addr).add j) = some u :=
  World.news_of_block (cs := #[x]) (alloc_new w _)

/-- How a byte of a text is written. -/
def escB (c : UInt8) : List UInt8 := if c = 39 then [92, 39] else if c = 92 then [92, 92] else if c = 10 then [92, 110] else [c]

def escape (l : List UInt8) : List UInt8 := (l.map escB).flatten

theorem escape_take (s : ByteArray) (k : Nat) (h : k < s.size) : escape (s.data.toList.take (k + 1)) = escape (s.data.toList.take k) ++ escB s[k] := by
  have e : s.data.toList.take (k + 1) = s.data.toList.take k ++ [s[k]] := by
    rw [List.take_succ_eq_append_getElem (by simpa using h)]
    rfl
  rw [e]
  simp [escape]

theorem escape_len (l : List UInt8) : (escape l).length ≤ 2 * l.length := by
  induction l with
  | nil => simp [escape]
  | cons c l ih =>
    have e : escape (c :: l) = escB c ++ escape l := by simp [escape]
    have e2 : (escB c).length ≤ 2 := by
      unfold escB
      by_cases h1 : c = 39
      · simp [h1]
      · by_cases h2 : c = 92
        · simp [h2]
        · by_cases h3 : c = 10
          · simp [h3]
          · simp [h1, h2, h3]
    rw [e, List.length_append, List.length_cons]
    omega

set_option maxHeartbeats 4000000 in
set_option maxRecDepth 100000 in
theorem appendText_any (B : Nat) (sv : Value) (l : List UInt8) (s : ByteArray) (w : World) (h : Out B w sv l) (hB : B ≤ w.heap.size) (hl : l.length ≤ 1000000) (hs : s.size ≤ 4000) :
    Calls Tryz.prog 110 #[sv, .string s] w fun e w' => ∃ v', e = .returned v' ∧ Out B w' v' (l ++ ([39] ++ escape s.data.toList ++ [39])) ∧ Below B w w' := by
  obtain ⟨i0, hi, hz0, hz1, hz2⟩ := info_byte
  have H := toHid h
  obtain ⟨a0, c0, rfl⟩ := h.len
  clear h
  go_enter Tryz.func110, Tryz.ntmps110
  go_wp2_with (at_builtin; refine wpList_append_own _ rfl _ _ 38 rfl B BE i0 (.int .u8 0) 1 1 Tryz.underlying38 hi hz0 hz1 hz2 rfl (by decide) _ _ _ rfl (H.out.alloc _) ⟨w.heap.size, 0, none⟩ 1 1 [.int .u8 39] rfl rfl (one_new _ _ _) (fun x hx => by simp at hx; subst hx; rfl) (by unfold maxLen; omega) (by omega) (by simp; omega) ?_)
  intro v1 w1 hown1 hg1 _
  have o1 : Out B w1 v1 (l ++ [39]) := out_of hown1 rfl
  have hb1 : Below B w w1 := (H.out.alloc _).grown ((Below.refl _ _).alloc hB _) hg1 (by simp; omega)
  have O1 := toHid o1
  clear o1 hown1 hg1 H
  go_wp2_with fail
  have hz1' : B ≤ w1.heap.size := by have := hb1.size; omega
  go_loopg [0, 12] s.size (fun g s0 s12 wr => ∃ (k : Nat) (v : Value), k ≤ s.size ∧ s.size - k ≤ g ∧ s12 = .int .i64 k ∧ s0 = v ∧ B ≤ wr.heap.size ∧ Out B wr v (l ++ [39] ++ escape (s.data.toList.take k)) ∧ Below B w wr)
  case atStart => exact ⟨0, v1, Nat.zero_le _, by omega, rfl, rfl, hz1', by simpa [escape] using O1.out, hb1⟩
  case round =>
    clear O1 hb1 hz1'
    obtain ⟨k, v, hk, hg, rfl, rfl, hz, ho, hb⟩ := hrel
    have hlen := escape_len (s.data.toList.take k)
    have hlt2 : (s.data.toList.take k).length ≤ k := List.length_take_le _ _
    have hL0 : (l ++ [39] ++ escape (s.data.toList.take k)).length ≤ 1010000 := by simp only [List.length_append, List.length_cons, List.length_nil]; omega
    obtain ⟨L, hLL⟩ : ∃ L, L = l ++ [39] ++ escape (s.data.toList.take k) := ⟨_, rfl⟩
    rw [← hLL] at ho hL0
    have HLL := toHid hLL
    obtain ⟨a1, c1, hv⟩ := ho.len
    subst hv
    have OW := toHid ho
    clear ho hlen hlt2 hLL
    by_cases hlt : k < s.size
    · by_cases e1 : s[k] = 39
      · have hc : (s[k].toNat : Int) = 39 := by rw [e1]; rfl
        have HE := toHid (show escB s[k] = [92, 39] by rw [e1]; rfl)
        clear e1
        have hc1 : ((s[k].toNat : Int) == 39) = true := by rw [hc]; rfl
        go_wp2_with (at_builtin; refine wpList_append_own _ rfl _ _ 38 rfl B BE i0 (.int .u8 0) 1 1 Tryz.underlying38 hi hz0 hz1 hz2 rfl (by decide) _ _ _ rfl (OW.out.alloc _) ⟨wr.heap.size, 0, none⟩ 2 2 [.int .u8 92, .int .u8 39] rfl rfl (two_new _ _ _ _) (fun x hx => by simp at hx; rcases hx with rfl | rfl <;> rfl) (by unfold maxLen; omega) (by omega) (by simp; omega) ?_)
        intro v2 w2 hown2 hg2 _
        have o2 : Out B w2 v2 (L ++ [92, 39]) := out_of hown2 rfl
        have hb2 : Below B w w2 := hb.trans ((OW.out.alloc _).grown ((Below.refl _ _).alloc hz _) hg2 (by simp; omega))
        have hs2 : wr.heap.size ≤ w2.heap.size := by have := hg2.size; simp at this; omega
        have O2 := toHid o2
        clear o2 hown2 hg2
        go_wp2_with fail
        go_roundg (s.size - (k + 1))
        case measure => omega
        case rel => exact ⟨k + 1, v2, by omega, by omega, by go_num, rfl, by omega, by rw [escape_take s k hlt, HE.out, ← List.append_assoc, ← HLL.out]; exact O2.out, hb2⟩
      · by_cases e2 : s[k] = 92
        · have hc : (s[k].toNat : Int) = 92 := by rw [e2]; rfl
          have HE := toHid (show escB s[k] = [92, 92] by rw [e2]; rfl)
          clear e1 e2
          have hc1 : ((s[k].toNat : Int) == 39) = false := by rw [hc]; rfl
          go_wp2_with (at_builtin; refine wpList_append_own _ rfl _ _ 38 rfl B BE i0 (.int .u8 0) 1 1 Tryz.underlying38 hi hz0 hz1 hz2 rfl (by decide) _ _ _ rfl (OW.out.alloc _) ⟨wr.heap.size, 0, none⟩ 2 2 [.int .u8 92, .int .u8 92] rfl rfl (two_new _ _ _ _) (fun x hx => by simp at hx; rcases hx with rfl | rfl <;> rfl) (by unfold maxLen; omega) (by omega) (by simp; omega) ?_)
          intro v2 w2 hown2 hg2 _
          have o2 : Out B w2 v2 (L ++ [92, 92]) := out_of hown2 rfl
          have hb2 : Below B w w2 := hb.trans ((OW.out.alloc _).grown ((Below.refl _ _).alloc hz _) hg2 (by simp; omega))
          have hs2 : wr.heap.size ≤ w2.heap.size := by have := hg2.size; simp at this; omega
          have O2 := toHid o2
          clear o2 hown2 hg2
          go_wp2_with fail
          go_roundg (s.size - (k + 1))
          case measure => omega
          case rel => exact ⟨k + 1, v2, by omega, by omega, by go_num, rfl, by omega, by rw [escape_take s k hlt, HE.out, ← List.append_assoc, ← HLL.out]; exact O2.out, hb2⟩
        · by_cases e3 : s[k] = 10
          · have hc : (s[k].toNat : Int) = 10 := by rw [e3]; rfl
            have HE := toHid (show escB s[k] = [92, 110] by rw [e3]; rfl)
            clear e1 e2 e3
            have hc1 : ((s[k].toNat : Int) == 39) = false := by rw [hc]; rfl
            go_wp2_with (at_builtin; refine wpList_append_own _ rfl _ _ 38 rfl B BE i0 (.int .u8 0) 1 1 Tryz.underlying38 hi hz0 hz1 hz2 rfl (by decide) _ _ _ rfl (OW.out.alloc _) ⟨wr.heap.size, 0, none⟩ 2 2 [.int .u8 92, .int .u8 110] rfl rfl (two_new _ _ _ _) (fun x hx => by simp at hx; rcases hx with rfl | rfl <;> rfl) (by unfold maxLen; omega) (by omega) (by simp; omega) ?_)
            intro v2 w2 hown2 hg2 _
            have o2 : Out B w2 v2 (L ++ [92, 110]) := out_of hown2 rfl
            have hb2 : Below B w w2 := hb.trans ((OW.out.alloc _).grown ((Below.refl _ _).alloc hz _) hg2 (by simp; omega))
            have hs2 : wr.heap.size ≤ w2.heap.size := by have := hg2.size; simp at this; omega
            have O2 := toHid o2
            clear o2 hown2 hg2
            go_wp2_with fail
            go_roundg (s.size - (k + 1))
            case measure => omega
            case rel => exact ⟨k + 1, v2, by omega, by omega, by go_num, rfl, by omega, by rw [escape_take s k hlt, HE.out, ← List.append_assoc, ← HLL.out]; exact O2.out, hb2⟩
          · have HE := toHid (show escB s[k] = [s[k]] by unfold escB; rw [if_neg e1, if_neg e2, if_neg e3])
            have n1 : ((s[k].toNat : Int) == 39) = false := by simp; intro h; exact e1 (UInt8.toNat_inj.1 (by show _ = 39; omega))
            have n2 : ((s[k].toNat : Int) == 92) = false := by simp; intro h; exact e2 (UInt8.toNat_inj.1 (by show _ = 92; omega))
            have n3 : ((s[k].toNat : Int) == 10) = false := by simp; intro h; exact e3 (UInt8.toNat_inj.1 (by show _ = 10; omega))
            clear e1 e2 e3
            skip
            go_wp2_with (at_builtin; refine wpList_append_own _ rfl _ _ 38 rfl B BE i0 (.int .u8 0) 1 1 Tryz.underlying38 hi hz0 hz1 hz2 rfl (by decide) _ _ _ rfl (OW.out.alloc _) ⟨wr.heap.size, 0, none⟩ 1 1 [.int .u8 (s[k].toNat : Int)] rfl rfl (one_new _ _ _) (fun x hx => by simp at hx; subst hx; rfl) (by unfold maxLen; omega) (by omega) (by simp; omega) ?_)
            intro v2 w2 hown2 hg2 _
            have o2 : Out B w2 v2 (L ++ [s[k]]) := out_of hown2 rfl
            have hb2 : Below B w w2 := hb.trans ((OW.out.alloc _).grown ((Below.refl _ _).alloc hz _) hg2 (by simp; omega))
            have hs2 : wr.heap.size ≤ w2.heap.size := by have := hg2.size; simp at this; omega
            have O2 := toHid o2
            clear o2 hown2 hg2
            go_wp2_with fail
            go_roundg (s.size - (k + 1))
            case measure => omega
            case rel => exact ⟨k + 1, v2, by omega, by omega, by go_num, rfl, by omega, by rw [escape_take s k hlt, HE.out, ← List.append_assoc, ← HLL.out]; exact O2.out, hb2⟩
    · have hkk : k = s.size := by omega
      subst hkk
      go_wp2_with (at_builtin; refine wpList_append_own _ rfl _ _ 38 rfl B BE i0 (.int .u8 0) 1 1 Tryz.underlying38 hi hz0 hz1 hz2 rfl (by decide) _ _ _ rfl (OW.out.alloc _) ⟨wr.heap.size, 0, none⟩ 1 1 [.int .u8 39] rfl rfl (one_new _ _ _) (fun x hx => by simp at hx; subst hx; rfl) (by unfold maxLen; omega) (by omega) (by simp; omega) ?_)
      intro v2 w2 hown2 hg2 _
      have o2 : Out B w2 v2 (L ++ [39]) := out_of hown2 rfl
      have hb2 : Below B w w2 := hb.trans ((OW.out.alloc _).grown ((Below.refl _ _).alloc hz _) hg2 (by simp; omega))
      have O2 := toHid o2
      clear o2 hown2 hg2
      go_wp2_with fail
      go_ret
      refine ⟨v2, rfl, ?_, hb2⟩
      have e : s.data.toList.take s.size = s.data.toList := List.take_of_length_le (by simp)
      have := O2.out
      rw [HLL.out, e] at this
      simpa [List.append_assoc] using this
end Go.Proofs.YthbbapimedlocaaGreatDoor
