/-
  What is proved here: what the texts NPure, NKeys, NEach prove, in one text.
-/
import Derived.Test.YtbfhapmnnckkaaaGreatDoorQNAR
import Derived.Maps.OwnOps
import Derived.Maps.Ext
import Derived.Sort.KeysCollected
import Derived.Deep.RegionHeld3
import Derived.Test.YtbfhapmnnckkaaaGreatDoorQNAO
namespace Go.Proofs.YtbfhapmnnckkaaaGreatDoor
open Go.RowKit
set_option linter.unusedVariables false

set_option linter.unusedSimpArgs false

mutual
/-- The names within a term. -/
def varsM : Tm → List (List UInt8)
  | .node k _ nm A => (if k = 2 then [nm.data.toList] else []) ++ varsMs A
def varsMs : List Tm → List (List UInt8)
  | [] => []
  | t :: ts => varsM t ++ varsMs ts
end

mutual
/-- How many terms there are within one. -/
def szM : Tm → Nat
  | .node _ _ _ A => szMs A + 1
def szMs : List Tm → Nat
  | [] => 0
  | t :: ts => szM t + szMs ts
end

theorem varsMs_append : ∀ L M : List Tm, varsMs (L ++ M) = varsMs L ++ varsMs M
  | [], M => by simp [varsMs]
  | t :: ts, M => by simp [varsMs, varsMs_append ts M]

theorem szMs_append : ∀ L M : List Tm, szMs (L ++ M) = szMs L + szMs M
  | [], M => by simp [szMs]
  | t :: ts, M => by simp [szMs, szMs_append ts M, Nat.add_assoc]

theorem vars_take {L : List Tm} {i : Nat} {t : Tm} (h : L[i]? = some t) : varsMs (L.take (i + 1)) = varsMs (L.take i) ++ varsM t := by
  rw [List.take_add_one, h, Option.toList_some, varsMs_append]
  simp [varsMs]

theorem sz_take {L : List Tm} {i : Nat} {t : Tm} (h : L[i]? = some t) : szMs (L.take (i + 1)) = szMs (L.take i) + szM t := by
  rw [List.take_add_one, h, Option.toList_some, szMs_append]
  simp [szMs]

theorem sz_take_le (L : List Tm) (i : Nat) : szMs (L.take i) ≤ szMs L := by
  have h := szMs_append (L.take i) (L.drop i)
  rw [List.take_append_drop] at h
  omega

theorem sz_mem {L : List Tm} {t : Tm} (h : t ∈ L) : szM t ≤ szMs L := by
  induction L with
  | nil => cases h
  | cons x L ih =>
    simp only [szMs]
    rcases List.mem_cons.1 h with rfl | h
    · omega
    · have := ih h; omega

theorem szM_pos (t : Tm) : 1 ≤ szM t := by
  cases t
  simp [szM]

theorem len_sz : ∀ L : List Tm, L.length ≤ szMs L
  | [] => by simp
  | t :: ts => by
    have := len_sz ts
    have := szM_pos t
    simp only [szMs, List.length_cons]
    omega

theorem get_drop {α : Type} {L : List α} {i : Nat} {t : α} (h : L.drop i = t :: L.drop (i + 1)) : L[i]? = some t := by
  have := congrArg (fun l => l[0]?) h
  simpa using this

/-- Two rows that rise and have the same texts are one. -/
theorem rise_ext {α : Type} {r : α → α → Prop} (ir : ∀ x, ¬ r x x) (tr : ∀ x y z, r x y → r y z → r x z) : ∀ (L M : List α), L.Pairwise r → M.Pairwise r → (∀ x, x ∈ L ↔ x ∈ M) → L = M
  | [], [], _, _, _ => rfl
  | [], y :: M, _, _, h => by have := (h y).2 (List.mem_cons_self ..); cases this
  | x :: L, [], _, _, h => by have := (h x).1 (List.mem_cons_self ..); cases this
  | x :: L, y :: M, hL, hM, h => by
    rw [List.pairwise_cons] at hL hM
    have hxy : x = y := by
      have h1 := (h x).1 (List.mem_cons_self ..)
      have h2 := (h y).2 (List.mem_cons_self ..)
      rcases List.mem_cons.1 h1 with e | h1
      · exact e
      · rcases List.mem_cons.1 h2 with e | h2
        · exact e.symm
        · exact absurd (tr _ _ _ (hL.1 y h2) (hM.1 x h1)) (ir x)
    subst hxy
    have := rise_ext ir tr L M hL.2 hM.2 fun z => by
      refine ⟨fun hz => ?_, fun hz => ?_⟩
      · have h1 := (h z).1 (List.mem_cons_of_mem _ hz)
        rcases List.mem_cons.1 h1 with rfl | h1
        · exact absurd (hL.1 z hz) (ir z)
        · exact h1
      · have h1 := (h z).2 (List.mem_cons_of_mem _ hz)
        rcases List.mem_cons.1 h1 with rfl | h1
        · exact absurd (hM.1 z hz) (ir z)
        · exact h1
    rw [this]

set_option linter.unusedSimpArgs false

/-- A map of one's own whose keys are these. -/
def KeyMap (w : World) (bm n : Nat) (K : List (List UInt8)) : Prop := ∃ D : DataW Unit, w.ownsMap Tryz.prog 9 (plainElem Tryz.prog 3) bm n D ∧ ∀ s, Maps.has D (.string s) = true ↔ s ∈ K

theorem kmap_made (w : World) : KeyMap (w.alloc (.map #[] 0)) w.heap.size 0 [] := ⟨_, World.ownsMap_made w _ _ _, fun s => by simp [Maps.has]⟩

theorem KeyMap.keep {w w' : World} {bm n : Nat} {K : List (List UInt8)} (h : KeyMap w bm n K) (hb : w'.heap[bm]? = w.heap[bm]?) : KeyMap w' bm n K := by
  obtain ⟨D, ⟨es, clock, h1, h2⟩, hD⟩ := h
  exact ⟨D, ⟨es, clock, hb.trans h1, h2⟩, hD⟩

theorem KeyMap.lt {w : World} {bm n : Nat} {K : List (List UInt8)} (h : KeyMap w bm n K) : bm < w.heap.size := by
  obtain ⟨D, h, _⟩ := h
  exact h.lt

theorem wf_wrap (z : Int) : (Lit.int .i64 (wrap64 z)).wf = true := by
  have h : -9223372036854775808 ≤ wrap64 z ∧ wrap64 z ≤ 9223372036854775807 := by unfold wrap64; omega
  simpa [Lit.wf, IntKind.min, IntKind.max, IntKind.signed, IntKind.bits] using h

theorem key_str (s : ByteArray) (h : s.size ≤ 9223372036854775807) : keyOf Tryz.prog 9 (.string s) = some (.string s.data.toList) := by
  have hm : s.size ≤ maxLen := by unfold maxLen; exact h
  simp [keyOf, mapKey, Tryz.underlying9, hm]

/-- What a visit leaves. -/
def visK (k : Int) (nm : ByteArray) (K : List (List UInt8)) : List (List UInt8) := if k = 2 then K ++ [nm.data.toList] else K

set_option maxHeartbeats 4000000 in
set_option maxRecDepth 100000 in
theorem free1_any (k vk vn : Int) (vs : ByteArray) (va : Option Addr) (vl vc : Nat) (nm : ByteArray) (a : Option Addr) (l c : Nat) (bx bm n : Nat) (K : List (List UInt8)) (w : World) (hbx : w.heap[bx]? = some (.cells #[.map (some bm)] 46 (0, 0))) (hK : KeyMap w bm n K) (hn : n ≤ 4000000) (hnm : nm.size ≤ 9223372036854775807) :
    Calls Tryz.prog 21 #[.agg #[.int .i64 k, .int .i64 vk, .int .i64 vn, .string vs, .slice va vl vc, .string nm, .slice a l c], .pointer (some ⟨bx, 0, none⟩)] w fun e w' => e = .returned (.tuple #[]) ∧ KeyMap w' bm (n + 1) (visK k nm K) ∧ w.grownBy w' (some bm) := by
  have HB : Hid (Below w.heap.size w (w.alloc (.cells #[.int .i64 k, .int .i64 vk, .int .i64 vn, .string vs, .slice va vl vc, .string nm, .slice a l c] 27))) := (Below.refl _ _).alloc (Nat.le_refl _) _
  have HN := toHid (alloc_new w (.cells #[.int .i64 k, .int .i64 vk, .int .i64 vn, .string vs, .slice va vl vc, .string nm, .slice a l c] 27))
  have HBX := toHid ((HB.out.block bx (Array.getElem?_eq_some_iff.1 hbx).1).trans hbx)
  have HKM := toHid (hK.keep (HB.out.block bm hK.lt))
  have hbm := hK.lt
  clear hbx hK
  go_enter Tryz.func21, Tryz.ntmps21
  go_upto_region 1 with fail
  generalize w.alloc (.cells #[.int .i64 k, .int .i64 vk, .int .i64 vn, .string vs, .slice va vl vc, .string nm, .slice a l c] 27) = W at HB HN HBX HKM ⊢
  have x0 := cell_of HN.out 0
  have x5 := cell_of HN.out 5
  have y0 := cell_of HBX.out 0
  simp at x0 x5 y0
  have g1 : w.heap.size < W.heap.size := (Array.getElem?_eq_some_iff.1 HN.out).1
  have g2 : bx < W.heap.size := (Array.getElem?_eq_some_iff.1 HBX.out).1
  have HG : Hid (w.grownBy W (some bm)) := ⟨HB.out.os, HB.out.tape, HB.out.output, HB.out.size, fun i hi _ => HB.out.block i hi⟩
  by_cases hk : k = 2
  · have hk' : (k == 2) = true := by simp [hk]
    have HV : Hid (visK k nm K = K ++ [nm.data.toList]) := by show _ = _; unfold visK; rw [if_pos hk]
    clear hk
    obtain ⟨D, hown, hD⟩ := HKM.out
    have HOW := toHid hown
    have HD := toHid hD
    have hz0 := Tryz.zeroValue3
    have hky := key_str nm hnm
    clear hown hD
    go_wp2_with (first
      | (at_lookup; refine wpList_lookup_own_int _ rfl _ _ _ rfl 9 3 .i64 (Maps.string_keyed Tryz.underlying9) Tryz.underlying46 Tryz.underlying3 (hz0 _) bm n D rfl HOW.out _ (.string nm.data.toList) rfl hky ?_; intro cc hat hwf)
      | (at_mapUpdate; refine wpList_mapUpdate_own _ rfl _ _ _ _ rfl 9 3 (Maps.string_keyed Tryz.underlying9) Tryz.underlying46 _ bm n D rfl HOW.out (by unfold maxLen; omega) _ _ (.string nm.data.toList) rfl rfl hky _ [] (plainElem_int Tryz.underlying3 (wf_wrap _)) ?_; intro w2 hown2 hgrow))
    have hm : Maps.IsMap D := by obtain ⟨es, _, _, _, _, e⟩ := HOW.out; exact ⟨_, e⟩
    have HK2 : Hid (KeyMap w2 bm (n + 1) (K ++ [nm.data.toList])) := ⟨_, hown2, fun s => by
      by_cases he : s = nm.data.toList
      · subst he
        rw [Maps.has_put_same hm ((Maps.string_keyed Tryz.underlying9).key hky)]
        simp
      · rw [Maps.has_put_other (by intro e; injection e with e; exact he e), HD.out]
        simp [he]⟩
    have HG2 := toHid (HG.out.trans hgrow)
    clear hown2 hgrow
    go_wp2_with fail
    go_end0
    exact ⟨rfl, by rw [HV.out]; exact HK2.out, HG2.out⟩
  · have hk' : (k == 2) = false := by simp [hk]
    have HV : Hid (visK k nm K = K) := by show _ = _; unfold visK; rw [if_neg hk]
    have HK2 : Hid (KeyMap W bm (n + 1) K) := by
      obtain ⟨D, hown, hD⟩ := HKM.out
      exact ⟨D, hown.mono (Nat.le_succ n), hD⟩
    clear hk
    go_wp2_with fail
    go_end0
    exact ⟨rfl, by rw [HV.out]; exact HK2.out, HG.out⟩

set_option linter.unusedSimpArgs false

section
variable {w : World} {B : Nat} {e : TypeId} {g m cap : Nat}

theorem own1_open {n : Nat} {xs : List Value} (h : w.ownsRow B e 1 (.slice (some ⟨g, 0, none⟩) n cap) n xs) : ∃ cur, B ≤ g ∧ w.heap[g]? = some (.cells cur e (0, 0)) ∧ n ≤ cap ∧ cap ≤ maxLen ∧ cur.size = cap ∧ cur.toList.take n = xs ∧ xs.length = n := by
  have hl := h.1
  rcases h.2 with ⟨h0, _⟩ | ⟨g', cap', cur, h0, h1, h2, h3, h4, h5, h6⟩
  · cases h0
  · simp only [Value.slice.injEq, Option.some.injEq, Addr.mk.injEq, and_true, true_and] at h0
    obtain ⟨rfl, rfl⟩ := h0
    rw [Nat.mul_one] at h5 h6 hl
    exact ⟨cur, h1, h2, h3, h4, h5, h6, hl⟩

theorem own1_last {ys : List Value} {x : Value} (h : w.ownsRow B e 1 (.slice (some ⟨g, 0, none⟩) (m + 1) cap) (m + 1) (ys ++ [x])) : w.cell? ⟨g, m, none⟩ = some x ∧ g < w.heap.size ∧ m + 1 ≤ cap := by
  obtain ⟨cur, h1, h2, h3, h4, h5, h6, h7⟩ := own1_open h
  have hm : ys.length = m := by simpa using h7
  refine ⟨?_, (Array.getElem?_eq_some_iff.1 h2).1, h3⟩
  rw [cell_of h2, ← Array.getElem?_toList]
  have h8 := congrArg (fun l => l[m]?) h6
  simp only [List.getElem?_take, Nat.lt_succ_self, if_true] at h8
  rw [h8, ← hm]
  simp

theorem own1_pop {ys : List Value} {x : Value} (h : w.ownsRow B e 1 (.slice (some ⟨g, 0, none⟩) (m + 1) cap) (m + 1) (ys ++ [x])) : w.ownsRow B e 1 (.slice (some ⟨g, 0, none⟩) m cap) m ys := by
  obtain ⟨cur, h1, h2, h3, h4, h5, h6, h7⟩ := own1_open h
  have hm : ys.length = m := by simpa using h7
  refine ⟨by rw [Nat.mul_one]; exact hm, .inr ⟨g, cap, cur, rfl, h1, h2, by omega, h4, by rw [Nat.mul_one]; exact h5, ?_⟩⟩
  rw [Nat.mul_one]
  have h8 := congrArg (fun l => l.take m) h6
  simp only [List.take_take] at h8
  rw [Nat.min_eq_left (Nat.le_succ m)] at h8
  rw [h8, ← hm]
  simp

theorem own1_keep {w' : World} {n : Nat} {v : Value} {xs : List Value} (h : w.ownsRow B e 1 v n xs) (k : ∀ i, B ≤ i → i < w.heap.size → w'.heap[i]? = w.heap[i]?) : w'.ownsRow B e 1 v n xs := by
  refine ⟨h.1, ?_⟩
  rcases h.2 with h0 | ⟨g', cap', cur, h0, h1, h2, h3⟩
  · exact .inl h0
  · exact .inr ⟨g', cap', cur, h0, h1, (k g' h1 (Array.getElem?_eq_some_iff.1 h2).1).trans h2, h3⟩

theorem own1_block {n : Nat} {v : Value} {xs : List Value} (h : w.ownsRow B e 1 v n xs) {j : Nat} (hj : v.ownBlock = some j) : B ≤ j ∧ j < w.heap.size := by
  rcases h.2 with ⟨h0, _⟩ | ⟨g', cap', cur, h0, h1, h2, _⟩
  · subst h0; cases hj
  · subst h0
    injection hj with hj
    subst hj
    exact ⟨h1, (Array.getElem?_eq_some_iff.1 h2).1⟩
end

/-- A list of terms that is still to be visited. -/
structure Opn where
  a : Option Addr
  l : Nat
  c : Nat
  A : List Tm

def Opn.cell (o : Opn) : Value := .slice o.a o.l o.c

/-- It may be read, term by term; what lies within those lies as it was handed over. -/
def OpnOk (w0 W1 : World) (bm : Nat) (o : Opn) : Prop := o.l = o.A.length ∧ 1 ≤ o.l ∧ ∀ i, i < o.l → ∃ b off k vk vn vs va vl vc nm a' l' c' Lv A', o.a = some ⟨b, off, none⟩ ∧ b ≠ bm ∧ b < W1.heap.size ∧ o.A.drop i = .node k (.node vk vn vs Lv) nm A' :: o.A.drop (i + 1) ∧ (W1.cell? ⟨b, off + i * 7, none⟩ = some (.int .i64 k) ∧ W1.cell? ⟨b, off + i * 7 + 1, none⟩ = some (.int .i64 vk) ∧ W1.cell? ⟨b, off + i * 7 + 2, none⟩ = some (.int .i64 vn) ∧ W1.cell? ⟨b, off + i * 7 + 3, none⟩ = some (.string vs) ∧ W1.cell? ⟨b, off + i * 7 + 4, none⟩ = some (.slice va vl vc) ∧ W1.cell? ⟨b, off + i * 7 + 5, none⟩ = some (.string nm) ∧ W1.cell? ⟨b, off + i * 7 + 6, none⟩ = some (.slice a' l' c')) ∧ nm.size ≤ 9223372036854775807 ∧ LiesMs w0 A' a' l'

theorem opn_of {w0 W1 : World} {bm : Nat} {A : List Tm} {a : Option Addr} {l : Nat} (h : LiesMs w0 A a l) (k : Below w0.heap.size w0 W1) (hbm : w0.heap.size ≤ bm) (h1 : 1 ≤ l) (c : Nat) : OpnOk w0 W1 bm ⟨a, l, c, A⟩ := by
  refine ⟨h.len.1, h1, fun i hi => ?_⟩
  obtain ⟨b, off, kk, vk, vn, vs, va, vl, vc, nm, a', l', c', Lv, A', e1, e2, e3, ⟨c0, c1, c2, c3, c4, c5, c6⟩, ht⟩ := h.at hi
  exact ⟨b, off, kk, vk, vn, vs, va, vl, vc, nm, a', l', c', Lv, A', e1, by omega, Nat.lt_of_lt_of_le e2 k.size, e3, ⟨(k.cell e2).trans c0, (k.cell e2).trans c1, (k.cell e2).trans c2, (k.cell e2).trans c3, (k.cell e2).trans c4, (k.cell e2).trans c5, (k.cell e2).trans c6⟩, ht.nms, ht.args⟩

def szO : List Opn → Nat
  | [] => 0
  | o :: os => szMs o.A + szO os

def varsO : List Opn → List (List UInt8)
  | [] => []
  | o :: os => varsMs o.A ++ varsO os

theorem szO_snoc (o : Opn) : ∀ l : List Opn, szO (l ++ [o]) = szO l + szMs o.A
  | [] => by simp [szO]
  | x :: l => by
    have := szO_snoc o l
    simp only [List.cons_append, szO]
    omega

theorem varsO_snoc (o : Opn) (s : List UInt8) : ∀ l : List Opn, s ∈ varsO (l ++ [o]) ↔ s ∈ varsO l ∨ s ∈ varsMs o.A
  | [] => by simp [varsO]
  | x :: l => by
    have := varsO_snoc o s l
    simp only [List.cons_append, varsO, List.mem_append, this, or_assoc]

theorem info_tms0 : (Tryz.prog.info? 25).map (fun i => (i.zero, i.size, i.bytes)) = some (some (.slice none 0 0), 1, 24) := by kernel_rfl
theorem info_tms : ∃ i, Tryz.prog.info? 25 = some i ∧ i.zero = some (.slice none 0 0) ∧ i.size = 1 ∧ i.bytes = 24 := by
  obtain ⟨i, h, e⟩ := Option.map_eq_some_iff.1 info_tms0
  simp only [Prod.mk.injEq] at e
  exact ⟨i, h, e⟩

theorem snoc_or {α : Type} (l : List α) : l = [] ∨ ∃ l0 x, l = l0 ++ [x] := by
  rcases List.eq_nil_or_concat l with h | ⟨l0, x, h⟩
  · exact .inl h
  · exact .inr ⟨l0, x, by simpa using h⟩

abbrev tmObj (k vk vn : Int) (vs : ByteArray) (va : Option Addr) (vl vc : Nat) (nm : ByteArray) (a : Option Addr) (l c : Nat) : Obj := .cells #[.int .i64 k, .int .i64 vk, .int .i64 vn, .string vs, .slice va vl vc, .string nm, .slice a l c] 27

set_option maxHeartbeats 16000000 in
set_option maxRecDepth 100000 in
theorem each_any (k vk vn : Int) (vs : ByteArray) (va : Option Addr) (vl vc : Nat) (nm : ByteArray) (a : Option Addr) (l c : Nat) (Lv : List T) (A : List Tm) (bx bm : Nat) (w0 w : World) (h0 : Below w0.heap.size w0 w) (hbm : w0.heap.size ≤ bm) (hT : TmAt w0 k vk vn vs va vl vc nm a l c Lv A) (hN : szMs A + 1 ≤ 1048576) (hbx : w.heap[bx]? = some (.cells #[.map (some bm)] 46 (0, 0))) (hbxm : bx ≠ bm) (hK : KeyMap w bm 0 []) :
    Calls Tryz.prog 20 #[.agg #[.int .i64 k, .int .i64 vk, .int .i64 vn, .string vs, .slice va vl vc, .string nm, .slice a l c], .func (.func 21) #[] #[.pointer (some ⟨bx, 0, none⟩)]] w fun e w' => e = .returned (.tuple #[]) ∧ (∃ n K, n ≤ 1048576 ∧ KeyMap w' bm n K ∧ ∀ s, s ∈ K ↔ s ∈ varsM (.node k (.node vk vn vs Lv) nm A)) ∧ w.grownBy w' (some bm) := by
  obtain ⟨W1, hW1⟩ : ∃ W1, W1 = (w.alloc (tmObj k vk vn vs va vl vc nm a l c)).alloc (tmObj k vk vn vs va vl vc nm a l c) := ⟨_, rfl⟩
  have b1 : Below w.heap.size w W1 := by rw [hW1]; exact ((Below.refl _ _).alloc (Nat.le_refl _) _).alloc (by simp) _
  have q1 : W1.heap[w.heap.size + 1]? = some (tmObj k vk vn vs va vl vc nm a l c) := by rw [hW1]; exact alloc_two w _ _
  have z1 : W1.heap.size = w.heap.size + 2 := by rw [hW1]; simp
  have hV := alloc_new W1 (.cells #[.slice (some ⟨w.heap.size + 1, 0, none⟩) 1 1] 25)
  have hbmw := hK.lt
  have hbxw : bx < w.heap.size := (Array.getElem?_eq_some_iff.1 hbx).1
  have hrow : (W1.alloc (.cells #[.slice (some ⟨w.heap.size + 1, 0, none⟩) 1 1] 25)).ownsRow W1.heap.size 25 1 (.slice (some ⟨W1.heap.size, 0, none⟩) 1 1) 1 [Opn.cell ⟨some ⟨w.heap.size + 1, 0, none⟩, 1, 1, [.node k (.node vk vn vs Lv) nm A]⟩] := ⟨rfl, .inr ⟨W1.heap.size, 1, _, rfl, Nat.le_refl _, hV, Nat.le_refl _, by unfold maxLen; decide, rfl, rfl⟩⟩
  have htop : OpnOk w0 W1 bm ⟨some ⟨w.heap.size + 1, 0, none⟩, 1, 1, [.node k (.node vk vn vs Lv) nm A]⟩ := by
    refine ⟨rfl, Nat.le_refl _, fun i hi => ?_⟩
    obtain rfl : i = 0 := by
      have : i < 1 := hi
      omega
    exact ⟨w.heap.size + 1, 0, k, vk, vn, vs, va, vl, vc, nm, a, l, c, Lv, A, rfl, by omega, by omega, rfl, ⟨(cell_of q1 0).trans rfl, (cell_of q1 1).trans rfl, (cell_of q1 2).trans rfl, (cell_of q1 3).trans rfl, (cell_of q1 4).trans rfl, (cell_of q1 5).trans rfl, (cell_of q1 6).trans rfl⟩, hT.nms, hT.args⟩
  have HKV : Hid (KeyMap (W1.alloc (.cells #[.slice (some ⟨w.heap.size + 1, 0, none⟩) 1 1] 25)) bm 0 []) := hK.keep ((Below.heap_alloc _ _ bm (by omega)).trans (b1.block bm hbmw))
  have HGV : Hid (W1.grownBy (W1.alloc (.cells #[.slice (some ⟨w.heap.size + 1, 0, none⟩) 1 1] 25)) (some bm)) := World.grownBy_alloc W1 _ _
  have HBX := toHid ((b1.block bx hbxw).trans hbx)
  have H01 := toHid (h0.trans (b1.mono h0.size))
  have HB1 := toHid b1
  have HROW := toHid hrow
  have HTOP := toHid htop
  have HZ1 : Hid (W1.heap.size = w.heap.size + 1 + 1) := z1
  have HBM : Hid (w0.heap.size ≤ bm ∧ bm < W1.heap.size ∧ bx ≠ bm) := ⟨hbm, by omega, hbxm⟩
  have HNN := toHid hN
  obtain ⟨iT, hiT, hizT, hisT, hibT⟩ := info_tms
  obtain ⟨VV, hVV⟩ : ∃ VV, VV = varsM (.node k (.node vk vn vs Lv) nm A) := ⟨_, rfl⟩
  rw [← hVV]
  have HVV := toHid hVV
  have HSZ : Hid (szMs [Tm.node k (.node vk vn vs Lv) nm A] ≤ 1048576) := by
    show _ ≤ _
    simp only [szMs, szM]
    omega
  have HVS : Hid (∀ s, s ∈ VV ↔ s ∈ ([] : List (List UInt8)) ∨ s ∈ varsO [⟨some ⟨w.heap.size + 1, 0, none⟩, 1, 1, [.node k (.node vk vn vs Lv) nm A]⟩]) := fun s => by
    rw [hVV]
    simp [varsO, varsMs]
  clear hT hN hbx hK hV hrow htop h0 hbm hbxm b1 q1 hVV hbmw hbxw z1
  go_enter Tryz.func20, Tryz.ntmps20
  go_wp2_with fail
  rw [← hW1]
  generalize hV0 : W1.alloc (.cells #[.slice (some ⟨w.heap.size + 1, 0, none⟩) 1 1] 25) = V0 at HKV HGV HROW ⊢
  clear hV0 hW1
  generalize hTop : (⟨some ⟨w.heap.size + 1, 0, none⟩, 1, 1, [.node k (.node vk vn vs Lv) nm A]⟩ : Opn) = top0 at HROW HTOP HVS
  have HS0 : Hid (szO [top0] ≤ 1048576) := by
    show _ ≤ _
    rw [← hTop]
    simp only [szO]
    have := HSZ.out
    omega
  clear hTop HSZ HVV HNN
  have HALL : Hid (∀ o ∈ [top0], OpnOk w0 W1 bm o) := fun o ho => by
    have : o = top0 := by simpa using ho
    rw [this]
    exact HTOP.out
  have hr2 := HROW.out
  rw [show (⟨W1.heap.size, 0, none⟩ : Addr) = ⟨w.heap.size + 1 + 1, 0, none⟩ by rw [HZ1.out]] at hr2
  have HROW := toHid hr2
  clear hr2
  go_loopg [4] (szO [top0]) (fun q s4 wr => ∃ (g cap n : Nat) (Os : List Opn) (K : List (List UInt8)) (m : Nat), s4 = .slice (some ⟨g, 0, none⟩) m cap ∧ m = Os.length ∧ wr.ownsRow W1.heap.size 25 1 (.slice (some ⟨g, 0, none⟩) m cap) m (Os.map Opn.cell) ∧ szO Os ≤ q ∧ n + szO Os ≤ 1048576 ∧ KeyMap wr bm n K ∧ (∀ o ∈ Os, OpnOk w0 W1 bm o) ∧ (∀ s, s ∈ VV ↔ s ∈ K ∨ s ∈ varsO Os) ∧ W1.grownBy wr (some bm))
  case atStart => exact ⟨w.heap.size + 1 + 1, 1, 0, [top0], [], 1, rfl, rfl, HROW.out, Nat.le_refl _, by have := HS0.out; omega, HKV.out, HALL.out, HVS.out, HGV.out⟩
  case round =>
    clear HKV HGV HROW HTOP HVS HS0 HALL HZ1
    obtain ⟨g, cap, n, Os, K, m, rfl, hm, hrow, hsq, hnn, hkm, hos, hvs, hgr⟩ := hrel
    have HROW := toHid hrow
    have HKM := toHid hkm
    have HOS := toHid hos
    have HVS := toHid hvs
    have HGR := toHid hgr
    have HSQ := toHid hsq
    have HNN := toHid hnn
    have HM := toHid hm
    clear hrow hkm hos hvs hgr hsq hnn hm
    rcases snoc_or Os with hO | ⟨Os0, top, hO⟩
    · have hm0 : m = 0 := by rw [HM.out, hO]; rfl
      subst hm0
      have HFIN : Hid (∃ n K, n ≤ 1048576 ∧ KeyMap wr bm n K ∧ ∀ s, s ∈ K ↔ s ∈ VV) := ⟨n, K, by have := HNN.out; omega, HKM.out, fun s => by rw [HVS.out s, hO]; simp [varsO]⟩
      have HGW : Hid (w.grownBy wr (some bm)) := ⟨HGR.out.os.trans HB1.out.os, HGR.out.tape.trans HB1.out.tape, HGR.out.output.trans HB1.out.output, Nat.le_trans HB1.out.size HGR.out.size, fun i hi hne => (HGR.out.block i (Nat.lt_of_lt_of_le hi HB1.out.size) hne).trans (HB1.out.block i hi)⟩
      clear hO
      go_wp2_with fail
      go_end0
      exact ⟨rfl, HFIN.out, HGW.out⟩
    · subst hO
      obtain ⟨m0, hm0⟩ : ∃ m0, m0 = Os0.length := ⟨_, rfl⟩
      have hm1 : m = m0 + 1 := by rw [HM.out, hm0]; simp
      subst hm1
      have HM0 := toHid hm0
      clear hm0 HM
      have hr := HROW.out
      rw [List.map_append, List.map_singleton] at hr
      obtain ⟨d0, hgl, hcap⟩ := own1_last hr
      have HPOP := toHid (own1_pop hr)
      have HTP := toHid (HOS.out top (List.mem_append_right _ (List.mem_singleton.2 rfl)))
      have HOS0 : Hid (∀ o ∈ Os0, OpnOk w0 W1 bm o) := fun o ho => HOS.out o (List.mem_append_left _ ho)
      have HSO := toHid (szO_snoc top Os0)
      have HVO : Hid (∀ s, s ∈ VV ↔ s ∈ K ∨ s ∈ varsMs top.A ∨ s ∈ varsO Os0) := fun s => by
        rw [HVS.out s, varsO_snoc]
        exact or_congr_right or_comm
      have HMX := toHid (own1_open hr)
      obtain ⟨_, _, _, _, hcm, _, _, _⟩ := HMX.out
      have hm63 : m0 + 1 ≤ 9223372036854775807 := by unfold maxLen at hcm; omega
      obtain ⟨ta, tl, tc, tA⟩ := top
      simp only [Opn.cell] at d0
      simp only at HSO HVO
      have HTL : Hid (tl = tA.length) := HTP.out.1
      have HT1 : Hid (1 ≤ tl) := HTP.out.2.1
      have htl6 : tl ≤ 1048576 := by
        have h5 := len_sz tA
        have h6 := HNN.out
        have h7 := HSO.out
        have h8 := HTL.out
        omega
      clear hr HROW HOS HVS HMX hcm
      go_wp2_with fail
      clear d0 hgl hcap
      obtain ⟨wo, hren⟩ : ∃ z : World, z = wr := ⟨_, rfl⟩
      subst hren
      have hs9 := HSQ.out
      rw [HSO.out] at hs9
      obtain ⟨S0, hS0⟩ : ∃ S0, S0 = szO Os0 + szMs tA := ⟨_, rfl⟩
      rw [← hS0] at hs9
      have HST := toHid hs9
      have HS00 : Hid (szO Os0 + szMs tA ≤ S0) := by show _ ≤ _; rw [hS0]; exact Nat.le_refl _
      clear hs9 hS0
      have HNT : Hid (n + szMs tA + szO Os0 ≤ 1048576) := by
        have h5 := HNN.out
        have h6 := HSO.out
        show _ ≤ _
        omega
      clear HSQ HNN HSO
      go_loopg [4, 27] tl (fun q2 s4 s27 wr => ∃ (i g cap n : Nat) (Os : List Opn) (K : List (List UInt8)) (m : Nat), i ≤ tl ∧ tl - i ≤ q2 ∧ s27 = .int .i64 i ∧ s4 = .slice (some ⟨g, 0, none⟩) m cap ∧ m = Os.length ∧ wr.ownsRow W1.heap.size 25 1 (.slice (some ⟨g, 0, none⟩) m cap) m (Os.map Opn.cell) ∧ szO Os + szMs (tA.drop i) + i ≤ S0 ∧ n + szMs (tA.drop i) + szO Os ≤ 1048576 ∧ KeyMap wr bm n K ∧ (∀ o ∈ Os, OpnOk w0 W1 bm o) ∧ (∀ s, s ∈ VV ↔ s ∈ K ∨ s ∈ varsMs (tA.drop i) ∨ s ∈ varsO Os) ∧ W1.grownBy wr (some bm))
      case atStart => exact ⟨0, g, cap, n, Os0, K, m0, Nat.zero_le _, by omega, rfl, rfl, HM0.out, HPOP.out, by have := HS00.out; simpa using this, by have := HNT.out; simpa using this, HKM.out, HOS0.out, HVO.out, HGR.out⟩
      case round =>
        clear HKM HOS0 HVO HGR HPOP HM0 HS00 HNT
        obtain ⟨i, g, cap, n, Os, K, m, hi, hq2, rfl, rfl, hm, hrow, hsq, hnn, hkm, hos, hvs, hgr⟩ := hrel
        have HROW := toHid hrow
        have HKM := toHid hkm
        have HOS := toHid hos
        have HVS := toHid hvs
        have HGR := toHid hgr
        have HSQ := toHid hsq
        have HNN := toHid hnn
        have HM := toHid hm
        clear hrow hkm hos hvs hgr hsq hnn hm
        by_cases hlt : i < tl
        · have hil : (i : Int) < tl := by omega
          obtain ⟨b, off, kx, vkx, vnx, vsx, vax, vlx, vcx, nmx, ax, lx, cx, Lvx, Ax, hta, hbne, hbl, hdr, ⟨p0, p1, p2, p3, p4, p5, p6⟩, hns, hlie⟩ := HTP.out.2.2 i hlt
          simp only at hta hdr
          subst hta
          have hblk := HGR.out.block b hbl (by intro e; injection e with e; exact hbne e)
          have d0 := (World.cell?_of_block (a := ⟨b, off + i * 7, none⟩) hblk).trans p0
          have d1 := (World.cell?_of_block (a := ⟨b, off + i * 7 + 1, none⟩) hblk).trans p1
          have d2 := (World.cell?_of_block (a := ⟨b, off + i * 7 + 2, none⟩) hblk).trans p2
          have d3 := (World.cell?_of_block (a := ⟨b, off + i * 7 + 3, none⟩) hblk).trans p3
          have d4 := (World.cell?_of_block (a := ⟨b, off + i * 7 + 4, none⟩) hblk).trans p4
          have d5 := (World.cell?_of_block (a := ⟨b, off + i * 7 + 5, none⟩) hblk).trans p5
          have d6 := (World.cell?_of_block (a := ⟨b, off + i * 7 + 6, none⟩) hblk).trans p6
          have hblr : b < wr.heap.size := Nat.lt_of_lt_of_le hbl HGR.out.size
          have HDV : Hid (varsMs (tA.drop i) = varsM (.node kx (.node vkx vnx vsx Lvx) nmx Ax) ++ varsMs (tA.drop (i + 1))) := by rw [hdr]; rfl
          have HDS : Hid (szMs (tA.drop i) = szMs Ax + 1 + szMs (tA.drop (i + 1))) := by rw [hdr]; rfl
          have HLI := toHid hlie
          have hlen := hlie.len
          have HLX : Hid (lx = Ax.length) := hlen.1
          have hlx63 : lx ≤ 9223372036854775807 := hlen.2
          have HA : Hid (Below wr.heap.size wr (wr.alloc (tmObj kx vkx vnx vsx vax vlx vcx nmx ax lx cx))) := (Below.refl _ _).alloc (Nat.le_refl _) _
          have HN := toHid (alloc_new wr (tmObj kx vkx vnx vsx vax vlx vcx nmx ax lx cx))
          have HNM : Hid (nmx.size ≤ 9223372036854775807) := hns
          have hn4 : n ≤ 4000000 := by have := HNN.out; omega
          clear p0 p1 p2 p3 p4 p5 p6 hblk hdr hlie hlen hns
          go_upto_region 8 with fail
          clear d0 d1 d2 d3 d4 d5 d6
          have HRA : Hid ((wr.alloc (tmObj kx vkx vnx vsx vax vlx vcx nmx ax lx cx)).ownsRow W1.heap.size 25 1 (.slice (some ⟨g, 0, none⟩) m cap) m (Os.map Opn.cell)) := own1_keep HROW.out fun j _ hj => HA.out.block j hj
          have HKA := toHid (HKM.out.keep (HA.out.block bm HKM.out.lt))
          have HGA : Hid (W1.grownBy (wr.alloc (tmObj kx vkx vnx vsx vax vlx vcx nmx ax lx cx)) (some bm)) := HGR.out.trans (World.grownBy_alloc wr _ _)
          generalize wr.alloc (tmObj kx vkx vnx vsx vax vlx vcx nmx ax lx cx) = WX at HA HN HRA HKA HGA ⊢
          generalize hwx : wr.heap.size = bX at HN ⊢
          have HBXX : Hid (W1.heap.size ≤ bX) := by show _ ≤ _; rw [← hwx]; exact HGR.out.size
          clear hwx HA HROW HKM HGR
          have hbxx : WX.heap[bx]? = some (.cells #[.map (some bm)] 46 (0, 0)) := (HGA.out.block bx (Array.getElem?_eq_some_iff.1 HBX.out).1 (by intro e; injection e with e; exact HBM.out.2.2 e)).trans HBX.out
          have HVIS := toHid (free1_any kx vkx vnx vsx vax vlx vcx nmx ax lx cx bx bm n K WX hbxx HKA.out hn4 HNM.out)
          have x0 := cell_of HN.out 0
          have x1 := cell_of HN.out 1
          have x2 := cell_of HN.out 2
          have x3 := cell_of HN.out 3
          have x4 := cell_of HN.out 4
          have x5 := cell_of HN.out 5
          have x6 := cell_of HN.out 6
          simp at x0 x1 x2 x3 x4 x5 x6
          have hbX : bX < WX.heap.size := (Array.getElem?_eq_some_iff.1 HN.out).1
          clear hbxx
          go_wp2_with fail
          refine HVIS.out.mono ?_
          rintro e w2 ⟨rfl, hk2, hg2⟩
          have HK2 := toHid hk2
          have HG2 := toHid (HGA.out.trans hg2)
          have hnX : w2.heap[bX]? = _ := (hg2.block bX hbX (by intro e; injection e with e; have h5 := HBM.out.2.1; have h6 := HBXX.out; omega)).trans HN.out
          have HR2 : Hid (w2.ownsRow W1.heap.size 25 1 (.slice (some ⟨g, 0, none⟩) m cap) m (Os.map Opn.cell)) := own1_keep HRA.out fun j hj hjl => hg2.block j hjl (by intro e; injection e with e; have h5 := HBM.out.2.1; omega)
          have y6 := cell_of hnX 6
          simp at y6
          have hbX2 : bX < w2.heap.size := (Array.getElem?_eq_some_iff.1 hnX).1
          clear hk2 hg2 hnX x0 x1 x2 x3 x4 x5 x6 HVIS HRA HKA HGA HN hbX
          have HVN : Hid (∀ s, s ∈ VV ↔ s ∈ visK kx nmx K ∨ s ∈ varsMs (tA.drop (i + 1)) ∨ s ∈ varsMs Ax ∨ s ∈ varsO Os) := fun s => by
            rw [HVS.out s, HDV.out]
            unfold varsM visK
            split
            · simp only [List.mem_append, List.mem_singleton]
              constructor
              · rintro (h | ((h | h) | h) | h)
                · exact .inl (.inl h)
                · exact .inl (.inr h)
                · exact .inr (.inr (.inl h))
                · exact .inr (.inl h)
                · exact .inr (.inr (.inr h))
              · rintro ((h | h) | h | h | h)
                · exact .inl h
                · exact .inr (.inl (.inl (.inl h)))
                · exact .inr (.inl (.inr h))
                · exact .inr (.inl (.inl (.inr h)))
                · exact .inr (.inr h)
            · simp only [List.nil_append, List.mem_append]
              constructor
              · rintro (h | (h | h) | h)
                · exact .inl h
                · exact .inr (.inr (.inl h))
                · exact .inr (.inl h)
                · exact .inr (.inr (.inr h))
              · rintro (h | h | h | h)
                · exact .inl h
                · exact .inr (.inl (.inr h))
                · exact .inr (.inl (.inl h))
                · exact .inr (.inr h)
          clear HVS HDV
          by_cases hx0 : 0 < lx
          · have hx0' : (0 : Int) < lx := by omega
            have hm5 : m ≤ 1048576 := by
              have h5 := HNN.out
              have h6 : Os.length ≤ szO Os := by
                have h7 : ∀ l : List Opn, (∀ o ∈ l, OpnOk w0 W1 bm o) → l.length ≤ szO l := fun l => by
                  induction l with
                  | nil => intro _; simp
                  | cons o l ih =>
                    intro h8
                    have h9 := ih fun y hy => h8 y (List.mem_cons_of_mem _ hy)
                    have h10 := h8 o (List.mem_cons_self ..)
                    have h11 := len_sz o.A
                    have h12 := h10.1
                    have h13 := h10.2.1
                    simp only [List.length_cons, szO]
                    omega
                exact h7 Os HOS.out
              have h8 := HM.out
              omega
            have HOP : Hid (OpnOk w0 W1 bm ⟨ax, lx, cx, Ax⟩) := opn_of HLI.out H01.out HBM.out.1 hx0 cx
            have HB2 : Hid (Below w2.heap.size w2 (w2.alloc (.cells #[.slice ax lx cx] 25))) := (Below.refl _ _).alloc (Nat.le_refl _) _
            have HN2 := toHid (alloc_new w2 (.cells #[.slice ax lx cx] 25))
            have HRB : Hid ((w2.alloc (.cells #[.slice ax lx cx] 25)).ownsRow W1.heap.size 25 1 (.slice (some ⟨g, 0, none⟩) m cap) m (Os.map Opn.cell)) := own1_keep HR2.out fun j _ hj => HB2.out.block j hj
            go_wp2_with (at_builtin; (refine wpList_append_both _ (by rfl) _ _ _ (by rfl) W1.heap.size 25 iT _ 1 24 Tryz.underlying77 hiT hizT hisT hibT rfl (by omega) (.slice (some ⟨g, 0, none⟩) m cap) m (Os.map Opn.cell) (by rfl) HRB.out (some ⟨w2.heap.size, 0, none⟩) 1 1 [.slice ax lx cx] (by rfl) (by rfl) (fun j u hu => ⟨_, rfl, World.news_of_block (cs := #[.slice ax lx cx]) (t := 25) (fr := (0, 0)) HN2.out j u hu⟩) (by simp [Value.oneCell']) (by unfold maxLen; omega) (by omega) (Nat.le_trans HG2.out.size HB2.out.size) ?_; intro v' w5 hown5 hgrow hob))
            have hcut : ∃ g5 cap5, v' = .slice (some ⟨g5, 0, none⟩) (m + 1) cap5 := by
              rcases hown5.2 with ⟨_, h5⟩ | ⟨g5, cap5, _, h5, _⟩
              · omega
              · exact ⟨g5, cap5, h5⟩
            obtain ⟨g5, cap5, rfl⟩ := hcut
            have HR5 : Hid (w5.ownsRow W1.heap.size 25 1 (.slice (some ⟨g5, 0, none⟩) (m + 1) cap5) (m + 1) ((Os ++ [(⟨ax, lx, cx, Ax⟩ : Opn)]).map Opn.cell)) := by
              rw [List.map_append]
              exact hown5
            have HK5 : Hid (KeyMap w5 bm (n + 1) (visK kx nmx K)) := HK2.out.keep ((hgrow.block bm (Nat.lt_of_lt_of_le HK2.out.lt HB2.out.size) (by intro e; have h5 := (own1_block HRB.out e.symm).1; have h6 := HBM.out.2.1; omega)).trans (HB2.out.block bm HK2.out.lt))
            have HG5 : Hid (W1.grownBy w5 (some bm)) := ⟨hgrow.os.trans HG2.out.os, hgrow.tape.trans HG2.out.tape, hgrow.output.trans HG2.out.output, Nat.le_trans HG2.out.size (Nat.le_trans HB2.out.size hgrow.size), fun j hj hne => (hgrow.block j (Nat.lt_of_lt_of_le hj (Nat.le_trans HG2.out.size HB2.out.size)) (by intro e; have h5 := (own1_block HRB.out e.symm).1; omega)).trans ((HB2.out.block j (Nat.lt_of_lt_of_le hj HG2.out.size)).trans (HG2.out.block j hj hne))⟩
            have HOS5 : Hid (∀ o ∈ Os ++ [(⟨ax, lx, cx, Ax⟩ : Opn)], OpnOk w0 W1 bm o) := fun o ho => by
              rcases List.mem_append.1 ho with ho | ho
              · exact HOS.out o ho
              · have : o = ⟨ax, lx, cx, Ax⟩ := by simpa using ho
                rw [this]
                exact HOP.out
            have HM5 : Hid (m + 1 = (Os ++ [(⟨ax, lx, cx, Ax⟩ : Opn)]).length) := by
              show _ = _
              rw [List.length_append, ← HM.out]
              rfl
            have HS5 : Hid (szO (Os ++ [(⟨ax, lx, cx, Ax⟩ : Opn)]) = szO Os + szMs Ax) := szO_snoc ⟨ax, lx, cx, Ax⟩ Os
            have HV5 : Hid (∀ s, s ∈ VV ↔ s ∈ visK kx nmx K ∨ s ∈ varsMs (tA.drop (i + 1)) ∨ s ∈ varsO (Os ++ [(⟨ax, lx, cx, Ax⟩ : Opn)])) := fun s => by
              rw [HVN.out s, varsO_snoc]
              simp only
              constructor
              · rintro (h | h | h | h)
                · exact .inl h
                · exact .inr (.inl h)
                · exact .inr (.inr (.inr h))
                · exact .inr (.inr (.inl h))
              · rintro (h | h | h | h)
                · exact .inl h
                · exact .inr (.inl h)
                · exact .inr (.inr (.inr h))
                · exact .inr (.inr (.inl h))
            clear hown5 hgrow hob y6 hbX2 HR2 HRB HB2 HN2
            go_wp2_with fail
            go_roundg (tl - (i + 1))
            case measure => omega
            case rel => exact ⟨i + 1, g5, cap5, n + 1, _, _, m + 1, by omega, Nat.le_refl _, by go_num, rfl, HM5.out, HR5.out, (by have h5 := HSQ.out; have h6 := HDS.out; have h7 := HS5.out; omega), (by have h5 := HNN.out; have h6 := HDS.out; have h7 := HS5.out; omega), HK5.out, HOS5.out, HV5.out, HG5.out⟩
          · have hx0' : ¬ ((0 : Int) < lx) := by omega
            have HAx : Hid (Ax = []) := List.length_eq_zero_iff.1 (by have := HLX.out; omega)
            have HV5 : Hid (∀ s, s ∈ VV ↔ s ∈ visK kx nmx K ∨ s ∈ varsMs (tA.drop (i + 1)) ∨ s ∈ varsO Os) := fun s => by
              rw [HVN.out s, HAx.out]
              simp [varsMs]
            go_wp2_with fail
            go_roundg (tl - (i + 1))
            case measure => omega
            case rel => exact ⟨i + 1, g, cap, n + 1, Os, _, m, by omega, Nat.le_refl _, by go_num, rfl, HM.out, HR2.out, (by have h5 := HSQ.out; have h6 := HDS.out; omega), (by have h5 := HNN.out; have h6 := HDS.out; omega), HK2.out, HOS.out, HV5.out, HG2.out⟩
        · have he : i = tl := by omega
          have hdr : tA.drop i = [] := List.drop_eq_nil_of_le (by have := HTL.out; omega)
          have HV5 : Hid (∀ s, s ∈ VV ↔ s ∈ K ∨ s ∈ varsO Os) := fun s => by
            rw [HVS.out s, hdr]
            simp [varsMs]
          have HS5 : Hid (szO Os + i ≤ S0 ∧ n + szO Os ≤ 1048576 ∧ 1 ≤ i) := by
            have h5 := HSQ.out
            have h6 := HNN.out
            have h7 := HT1.out
            rw [hdr] at h5 h6
            simp only [szMs] at h5 h6
            exact ⟨by omega, by omega, by omega⟩
          clear hdr HVS HSQ HNN
          subst he
          go_wp2_with fail
          go_roundg (szO Os)
          case measure => have h5 := HS5.out; have h6 := HST.out; omega
          case rel => exact ⟨g, cap, n, Os, K, m, rfl, HM.out, HROW.out, Nat.le_refl _, HS5.out.2.1, HKM.out, HOS.out, HV5.out, HGR.out⟩
end Go.Proofs.YtbfhapmnnckkaaaGreatDoor
