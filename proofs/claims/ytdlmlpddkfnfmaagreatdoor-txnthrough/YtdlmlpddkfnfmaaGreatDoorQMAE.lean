/-
  What is proved here: what the texts HData, HPut, GCheck3, GAround prove, in one text.
-/
import Derived.Test.YtdlmlpddkfnfmaaGreatDoorQMAD
import Derived.Test.YtdlmlpddkfnfmaaGreatDoorQMAC
import Derived.Deep.AppendLies
namespace Go.Proofs.YtdlmlpddkfnfmaaGreatDoor
open Go.RowKit
set_option linter.unusedVariables false

/-- A property by what it holds. -/
structure AP where
  name : ByteArray
  t : T

/-- A node by what it holds. -/
structure AN where
  id : Int
  labs : List ByteArray
  props : List AP

/-- An edge by what it holds. -/
structure AE where
  id : Int
  frm : Int
  dst : Int
  typ : ByteArray
  props : List AP

/-- Two lists, one by one. -/
def Pair2 {α β : Type} (R : α → β → Prop) (P : List α) (L : List β) : Prop := P.length = L.length ∧ ∀ (i : Nat) p x, P[i]? = some p → L[i]? = some x → R p x

theorem Pair2.nil {α β : Type} {R : α → β → Prop} : Pair2 R [] [] := ⟨rfl, fun i p x h => by simp at h⟩

theorem Pair2.mono {α β : Type} {R R' : α → β → Prop} {P : List α} {L : List β} (h : Pair2 R P L) (m : ∀ p x, p ∈ P → x ∈ L → R p x → R' p x) : Pair2 R' P L :=
  ⟨h.1, fun i p x hp hx => m p x (List.mem_of_getElem? hp) (List.mem_of_getElem? hx) (h.2 i p x hp hx)⟩

theorem Pair2.snoc {α β : Type} {R : α → β → Prop} {P : List α} {L : List β} (h : Pair2 R P L) {p : α} {x : β} (hR : R p x) : Pair2 R (P ++ [p]) (L ++ [x]) := by
  refine ⟨by simp [h.1], fun i q y hq hy => ?_⟩
  rcases Nat.lt_or_ge i P.length with hi | hi
  · rw [List.getElem?_append_left hi] at hq
    rw [List.getElem?_append_left (by rw [← h.1]; exact hi)] at hy
    exact h.2 i q y hq hy
  · rw [List.getElem?_append_right hi] at hq
    rw [List.getElem?_append_right (by rw [← h.1]; exact hi), ← h.1] at hy
    cases hk : i - P.length with
    | zero =>
      rw [hk] at hq hy
      simp at hq hy
      rw [← hq, ← hy]
      exact hR
    | succ k => rw [hk] at hq; simp at hq

theorem Pair2.right {α β : Type} {R : α → β → Prop} {P : List α} {L : List β} (h : Pair2 R P L) {i : Nat} {x : β} (hx : L[i]? = some x) : ∃ p, P[i]? = some p ∧ R p x := by
  have hi : i < P.length := by rw [h.1]; exact (List.getElem?_eq_some_iff.1 hx).1
  exact ⟨P[i], List.getElem?_eq_getElem hi, h.2 i _ _ (List.getElem?_eq_getElem hi) hx⟩

theorem Pair2.left {α β : Type} {R : α → β → Prop} {P : List α} {L : List β} (h : Pair2 R P L) {i : Nat} {p : α} (hp : P[i]? = some p) : ∃ x, L[i]? = some x ∧ R p x := by
  have hi : i < L.length := by rw [← h.1]; exact (List.getElem?_eq_some_iff.1 hp).1
  exact ⟨L[i], List.getElem?_eq_getElem hi, h.2 i _ _ hp (List.getElem?_eq_getElem hi)⟩

theorem pair_choose {α β : Type} {R : α → β → Prop} : ∀ (P : List α), (∀ p ∈ P, ∃ x, R p x) → ∃ L, Pair2 R P L
  | [], _ => ⟨[], Pair2.nil⟩
  | p :: P, h => by
    obtain ⟨x, hx⟩ := h p (List.mem_cons_self ..)
    obtain ⟨L, hL⟩ := pair_choose P (fun q hq => h q (List.mem_cons_of_mem _ hq))
    refine ⟨x :: L, by simp [hL.1], fun i q y hq hy => ?_⟩
    cases i with
    | zero =>
      simp at hq hy
      rw [← hq, ← hy]
      exact hx
    | succ i => exact hL.2 i q y (by simpa using hq) (by simpa using hy)

def AnyB : Nat → Prop := fun _ => True

mutual
theorem LiesT.lie {w : World} : ∀ (t : T) (b off : Nat), LiesT w t b off → LieT AnyB w t b off
  | .node k n s L, b, off, h => by
    unfold LiesT at h
    unfold LieT
    obtain ⟨hs, a, l, c, h0, h1, h2, h3, h4, hL⟩ := h
    exact ⟨hs, a, l, c, h0, h1, h2, h3, h4, LiesS.lie L a l hL⟩
theorem LiesS.lie {w : World} : ∀ (L : List T) (a : Option Addr) (l : Nat), LiesS w L a l → LieA AnyB w L a l
  | [], _, _, h => by unfold LiesS at h; unfold LieA; exact h
  | t :: ts, a, l, h => by
    unfold LiesS at h
    unfold LieA
    obtain ⟨b, off, h1, h2, h3, h4, h5, h6⟩ := h
    exact ⟨b, off, h1, h2, h3, trivial, h4, LiesT.lie t b off h5, LiesS.lie ts _ _ h6⟩
end

/-- What is kept of the blocks that A allows. -/
def Keep (A A' : Nat → Prop) (w w' : World) : Prop := w.heap.size ≤ w'.heap.size ∧ ∀ i, A i → i < w.heap.size → A' i ∧ w'.heap[i]? = w.heap[i]?

theorem Keep.of_below {w w' : World} (k : Below w.heap.size w w') (A : Nat → Prop) : Keep A A w w' := ⟨k.size, fun i hA hi => ⟨hA, k.block i hi⟩⟩

theorem Keep.weak {A A' : Nat → Prop} (w : World) (h : ∀ i, A i → i < w.heap.size → A' i) : Keep A A' w w := ⟨Nat.le_refl _, fun i hA hi => ⟨h i hA hi, rfl⟩⟩

theorem Keep.trans {A A' A'' : Nat → Prop} {w w' w'' : World} (h : Keep A A' w w') (k : Keep A' A'' w' w'') : Keep A A'' w w'' :=
  ⟨Nat.le_trans h.1 k.1, fun i hA hi => by
    obtain ⟨h1, h2⟩ := h.2 i hA hi
    obtain ⟨k1, k2⟩ := k.2 i h1 (Nat.lt_of_lt_of_le hi h.1)
    exact ⟨k1, k2.trans h2⟩⟩

/-- A property's memory holds x, its value's lists in blocks that A allows. -/
def PrIn (A : Nat → Prop) (w : World) (p : Pr) (x : AP) : Prop :=
  p.name = x.name ∧ p.name.size ≤ 9223372036854775807 ∧ p.s.size ≤ 9223372036854775807 ∧ p.l ≤ p.c ∧ ∃ Lt, x.t = .node p.k p.n p.s Lt ∧ LieA A w Lt p.a p.l

theorem PrIn.kept {A A' : Nat → Prop} {w w' : World} {p : Pr} {x : AP} (h : PrIn A w p x) (k : Keep A A' w w') : PrIn A' w' p x := by
  obtain ⟨h1, h2, h3, h4, Lt, h5, h6⟩ := h
  exact ⟨h1, h2, h3, h4, Lt, h5, LieA.kept k.1 k.2 _ _ _ h6⟩

theorem PrIn.any {A : Nat → Prop} {w : World} {p : Pr} {x : AP} (h : PrIn A w p x) : PrIn AnyB w p x := h.kept (Keep.weak w fun _ _ _ => trivial)

theorem PrIn.below {w w' : World} {p : Pr} {x : AP} (h : PrIn AnyB w p x) (k : Below w.heap.size w w') : PrIn AnyB w' p x := h.kept (Keep.of_below k _)

def strs (L : List ByteArray) : List Value := L.map (fun s => .string s)

def Pr.cells (p : Pr) : List Value := [.string p.name, .int .i64 p.k, .int .i64 p.n, .string p.s, .slice p.a p.l p.c]
def rowP (P : List Pr) : List Value := (P.map Pr.cells).flatten

theorem rowP_snoc (P : List Pr) (p : Pr) : rowP (P ++ [p]) = rowP P ++ p.cells := by simp [rowP]

def Nd.cells (x : Nd) : List Value := [.int .i64 x.id, .slice x.la x.ll x.lc, .slice x.pa x.pl x.pc]
def rowN (N : List Nd) : List Value := (N.map Nd.cells).flatten

theorem rowN_snoc (N : List Nd) (x : Nd) : rowN (N ++ [x]) = rowN N ++ x.cells := by simp [rowN]

def Ed.cells (x : Ed) : List Value := [.int .i64 x.id, .int .i64 x.frm, .int .i64 x.dst, .string x.typ, .slice x.pa x.pl x.pc]
def rowX (E : List Ed) : List Value := (E.map Ed.cells).flatten

theorem rowX_snoc (E : List Ed) (x : Ed) : rowX (E ++ [x]) = rowX E ++ x.cells := by simp [rowX]

theorem flat_get {α : Type} (f : α → List Value) (k : Nat) (hk : ∀ x, (f x).length = k) : ∀ (L : List α) (i j : Nat) (x : α) (u : Value), L[i]? = some x → (f x)[j]? = some u → (L.map f).flatten[i * k + j]? = some u
  | [], i, j, x, u, h, _ => by simp at h
  | y :: L, 0, j, x, u, h, hu => by
    simp at h
    subst h
    have hj : j < (f y).length := (List.getElem?_eq_some_iff.1 hu).1
    simp only [List.map_cons, List.flatten_cons, Nat.zero_mul, Nat.zero_add]
    rw [List.getElem?_append_left hj]
    exact hu
  | y :: L, i + 1, j, x, u, h, hu => by
    simp only [List.map_cons, List.flatten_cons]
    have e : (i + 1) * k + j = (f y).length + (i * k + j) := by rw [hk, Nat.add_mul]; omega
    rw [e, List.getElem?_append_right (Nat.le_add_right _ _), Nat.add_sub_cancel_left]
    exact flat_get f k hk L i j x u (by simpa using h) hu

/-- A row of the call's own: where it lies. -/
theorem row_at {w : World} {B n size : Nat} {e : TypeId} {a : Option Addr} {l c : Nat} {xs : List Value} (h : w.ownsRow B e size (.slice a l c) n xs) (hn : 0 < n) : ∃ g, a = some ⟨g, 0, none⟩ ∧ l = n ∧ B ≤ g ∧ g < w.heap.size ∧ ∀ j u, xs[j]? = some u → w.cell? ⟨g, 0 + j, none⟩ = some u := by
  obtain ⟨g, cap, hv, hb, hg⟩ := h.form hn
  injection hv with h1 h2 h3
  subst h1 h2 h3
  refine ⟨g, rfl, rfl, hb, hg, fun j u hu => ?_⟩
  have hc := h.cells (g := g) rfl j u hu
  by_cases h0 : j = 0
  · subst h0; simpa [Addr.add] using hc
  · simpa [Addr.add, h0] using hc

theorem row_len {w : World} {B n size : Nat} {e : TypeId} {a : Option Addr} {l c : Nat} {xs : List Value} (h : w.ownsRow B e size (.slice a l c) n xs) : l = n ∧ l ≤ c ∧ n ≤ 9223372036854775807 := by
  have hm : maxLen ≤ 9223372036854775807 := by unfold maxLen; decide
  rcases h.2 with ⟨h0, h1⟩ | ⟨g, cap, cur, h0, h1, h2, h3, h4, _⟩
  · injection h0 with _ h2 h3
    subst h2 h3
    exact ⟨h1.symm, Nat.le_refl _, by omega⟩
  · injection h0 with _ h5 h6
    subst h5 h6
    exact ⟨rfl, h3, by omega⟩

theorem row_strs {w : World} {B : Nat} {a : Option Addr} {l c : Nat} {L : List ByteArray} (h : w.ownsRow B 9 1 (.slice a l c) L.length (strs L)) (hs : ∀ s ∈ L, s.size ≤ 9223372036854775807) : StrsAt w L a l := by
  obtain ⟨h1, _, h2⟩ := row_len h
  refine ⟨h1, by omega, fun h0 => ?_⟩
  obtain ⟨g, ha, _, _, hg, hc⟩ := row_at h (by omega)
  exact ⟨g, 0, ha, hg, fun i s hi => ⟨hs s (List.mem_of_getElem? hi), hc i _ (by rw [strs, List.getElem?_map, hi]; rfl)⟩⟩

theorem row_props {w : World} {B : Nat} {a : Option Addr} {l c : Nat} {P : List Pr} (h : w.ownsRow B 99 5 (.slice a l c) P.length (rowP P)) (hs : ∀ p ∈ P, p.name.size ≤ 9223372036854775807) : PropsAt w P a l := by
  obtain ⟨h1, _, h2⟩ := row_len h
  refine ⟨h1, by omega, fun h0 => ?_⟩
  obtain ⟨g, ha, _, _, hg, hc⟩ := row_at h (by omega)
  refine ⟨g, 0, ha, hg, fun i p hi => ⟨hs p (List.mem_of_getElem? hi), ?_⟩⟩
  have f := fun j u hu => hc _ u (flat_get Pr.cells 5 (fun _ => rfl) P i j p u hi hu)
  have g0 := f 0 _ rfl
  have g1 := f 1 _ rfl
  have g2 := f 2 _ rfl
  have g3 := f 3 _ rfl
  have g4 := f 4 _ rfl
  exact ⟨g0, g1, g2, g3, g4⟩

theorem row_nodes {w : World} {B : Nat} {a : Option Addr} {l c : Nat} {N : List Nd} (h : w.ownsRow B 49 3 (.slice a l c) N.length (rowN N)) : NodesAt w N a l := by
  obtain ⟨h1, _, h2⟩ := row_len h
  refine ⟨h1, by omega, fun h0 => ?_⟩
  obtain ⟨g, ha, _, _, hg, hc⟩ := row_at h (by omega)
  refine ⟨g, 0, ha, hg, fun i p hi => ?_⟩
  have f := fun j u hu => hc _ u (flat_get Nd.cells 3 (fun _ => rfl) N i j p u hi hu)
  have g0 := f 0 _ rfl
  have g1 := f 1 _ rfl
  have g2 := f 2 _ rfl
  exact ⟨g0, g1, g2⟩

theorem row_edges {w : World} {B : Nat} {a : Option Addr} {l c : Nat} {E : List Ed} (h : w.ownsRow B 53 5 (.slice a l c) E.length (rowX E)) (hs : ∀ p ∈ E, p.typ.size ≤ 9223372036854775807) : EdgesAt w E a l := by
  obtain ⟨h1, _, h2⟩ := row_len h
  refine ⟨h1, by omega, fun h0 => ?_⟩
  obtain ⟨g, ha, _, _, hg, hc⟩ := row_at h (by omega)
  refine ⟨g, 0, ha, hg, fun i p hi => ⟨hs p (List.mem_of_getElem? hi), ?_⟩⟩
  have f := fun j u hu => hc _ u (flat_get Ed.cells 5 (fun _ => rfl) E i j p u hi hu)
  have g0 := f 0 _ rfl
  have g1 := f 1 _ rfl
  have g2 := f 2 _ rfl
  have g3 := f 3 _ rfl
  have g4 := f 4 _ rfl
  exact ⟨g0, g1, g2, g3, g4⟩

/-- A row stays where its block stays. -/
theorem row_keep {w w' : World} {B n size : Nat} {e : TypeId} {v : Value} {xs : List Value} (h : w.ownsRow B e size v n xs) (hk : ∀ g, v.ownBlock = some g → g < w.heap.size → w'.heap[g]? = w.heap[g]?) : w'.ownsRow B e size v n xs := by
  refine ⟨h.1, ?_⟩
  rcases h.2 with h0 | ⟨g, cap, cur, h0, h1, h2, h3⟩
  · exact .inl h0
  · refine .inr ⟨g, cap, cur, h0, h1, ?_, h3⟩
    rw [hk g (by rw [h0]; rfl) (Array.getElem?_eq_some_iff.1 h2).1]
    exact h2

/-- The block of a value, if it has one, is allowed. -/
def OwnB (A : Nat → Prop) (v : Value) : Prop := ∀ g, v.ownBlock = some g → A g

/-- A node in rows of its own, in blocks that A allows. -/
structure NdOwn (A : Nat → Prop) (w : World) (y : Nd) (X : AN) : Prop where
  id : y.id = X.id
  labs : y.labs = X.labs
  rowL : w.ownsRow 0 9 1 (.slice y.la y.ll y.lc) y.labs.length (strs y.labs)
  inL : OwnB A (.slice y.la y.ll y.lc)
  szL : ∀ s ∈ y.labs, s.size ≤ 9223372036854775807
  rowP : w.ownsRow 0 99 5 (.slice y.pa y.pl y.pc) y.props.length (rowP y.props)
  inP : OwnB (fun i => A i ∧ (Value.slice y.la y.ll y.lc).ownBlock ≠ some i) (.slice y.pa y.pl y.pc)
  props : Pair2 (PrIn (fun i => A i ∧ (Value.slice y.la y.ll y.lc).ownBlock ≠ some i ∧ (Value.slice y.pa y.pl y.pc).ownBlock ≠ some i) w) y.props X.props

/-- An edge in rows of its own, in blocks that A allows. -/
structure EdOwn (A : Nat → Prop) (w : World) (y : Ed) (X : AE) : Prop where
  id : y.id = X.id
  frm : y.frm = X.frm
  dst : y.dst = X.dst
  typ : y.typ = X.typ
  szT : y.typ.size ≤ 9223372036854775807
  rowP : w.ownsRow 0 99 5 (.slice y.pa y.pl y.pc) y.props.length (rowP y.props)
  inP : OwnB A (.slice y.pa y.pl y.pc)
  props : Pair2 (PrIn (fun i => A i ∧ (Value.slice y.pa y.pl y.pc).ownBlock ≠ some i) w) y.props X.props

theorem NdOwn.kept {A A' : Nat → Prop} {w w' : World} {y : Nd} {X : AN} (h : NdOwn A w y X) (k : Keep A A' w w') : NdOwn A' w' y X where
  id := h.id
  labs := h.labs
  rowL := row_keep h.rowL fun g hg hl => (k.2 g (h.inL g hg) hl).2
  inL := fun g hg => by
    have hl : g < w.heap.size := by
      rcases h.rowL.2 with ⟨h0, _⟩ | ⟨g', cap, cur, h0, _, h2, _⟩
      · rw [h0] at hg; cases hg
      · rw [h0] at hg
        have : g' = g := by simpa [Value.ownBlock] using hg
        subst this
        exact (Array.getElem?_eq_some_iff.1 h2).1
    exact (k.2 g (h.inL g hg) hl).1
  szL := h.szL
  rowP := row_keep h.rowP fun g hg hl => (k.2 g (h.inP g hg).1 hl).2
  inP := fun g hg => by
    have hl : g < w.heap.size := by
      rcases h.rowP.2 with ⟨h0, _⟩ | ⟨g', cap, cur, h0, _, h2, _⟩
      · rw [h0] at hg; cases hg
      · rw [h0] at hg
        have : g' = g := by simpa [Value.ownBlock] using hg
        subst this
        exact (Array.getElem?_eq_some_iff.1 h2).1
    exact ⟨(k.2 g (h.inP g hg).1 hl).1, (h.inP g hg).2⟩
  props := h.props.mono fun p x _ _ hp => hp.kept ⟨k.1, fun i hi hl => ⟨⟨(k.2 i hi.1 hl).1, hi.2⟩, (k.2 i hi.1 hl).2⟩⟩

theorem EdOwn.kept {A A' : Nat → Prop} {w w' : World} {y : Ed} {X : AE} (h : EdOwn A w y X) (k : Keep A A' w w') : EdOwn A' w' y X where
  id := h.id
  frm := h.frm
  dst := h.dst
  typ := h.typ
  szT := h.szT
  rowP := row_keep h.rowP fun g hg hl => (k.2 g (h.inP g hg) hl).2
  inP := fun g hg => by
    have hl : g < w.heap.size := by
      rcases h.rowP.2 with ⟨h0, _⟩ | ⟨g', cap, cur, h0, _, h2, _⟩
      · rw [h0] at hg; cases hg
      · rw [h0] at hg
        have : g' = g := by simpa [Value.ownBlock] using hg
        subst this
        exact (Array.getElem?_eq_some_iff.1 h2).1
    exact (k.2 g (h.inP g hg) hl).1
  props := h.props.mono fun p x _ _ hp => hp.kept ⟨k.1, fun i hi hl => ⟨⟨(k.2 i hi.1 hl).1, hi.2⟩, (k.2 i hi.1 hl).2⟩⟩

/-- A node that may be read. -/
def NdIn (w : World) (y : Nd) (X : AN) : Prop := y.id = X.id ∧ y.labs = X.labs ∧ StrsAt w y.labs y.la y.ll ∧ PropsAt w y.props y.pa y.pl ∧ Pair2 (PrIn AnyB w) y.props X.props
def EdIn (w : World) (y : Ed) (X : AE) : Prop := y.id = X.id ∧ y.frm = X.frm ∧ y.dst = X.dst ∧ y.typ = X.typ ∧ y.typ.size ≤ 9223372036854775807 ∧ PropsAt w y.props y.pa y.pl ∧ Pair2 (PrIn AnyB w) y.props X.props

theorem NdOwn.reads {A : Nat → Prop} {w : World} {y : Nd} {X : AN} (h : NdOwn A w y X) : NdIn w y X :=
  ⟨h.id, h.labs, row_strs h.rowL h.szL, row_props h.rowP (fun p hp => by
    obtain ⟨i, hi⟩ := List.getElem?_of_mem hp
    obtain ⟨x, _, hx⟩ := h.props.left hi
    exact hx.2.1), h.props.mono fun p x _ _ hp => hp.any⟩

theorem EdOwn.reads {A : Nat → Prop} {w : World} {y : Ed} {X : AE} (h : EdOwn A w y X) : EdIn w y X :=
  ⟨h.id, h.frm, h.dst, h.typ, h.szT, row_props h.rowP (fun p hp => by
    obtain ⟨i, hi⟩ := List.getElem?_of_mem hp
    obtain ⟨x, _, hx⟩ := h.props.left hi
    exact hx.2.1), h.props.mono fun p x _ _ hp => hp.any⟩

theorem NdIn.below {w w' : World} {y : Nd} {X : AN} (h : NdIn w y X) (k : Below w.heap.size w w') : NdIn w' y X :=
  ⟨h.1, h.2.1, h.2.2.1.below k, h.2.2.2.1.below k, h.2.2.2.2.mono fun p x _ _ hp => hp.below k⟩

theorem EdIn.below {w w' : World} {y : Ed} {X : AE} (h : EdIn w y X) (k : Below w.heap.size w w') : EdIn w' y X :=
  ⟨h.1, h.2.1, h.2.2.1, h.2.2.2.1, h.2.2.2.2.1, h.2.2.2.2.2.1.below k, h.2.2.2.2.2.2.mono fun p x _ _ hp => hp.below k⟩

/-- Properties, nodes, edges that may be read through a slice. -/
def PsAt (w : World) (X : List AP) (a : Option Addr) (l : Nat) : Prop := ∃ P, PropsAt w P a l ∧ Pair2 (PrIn AnyB w) P X
def NsAt (w : World) (X : List AN) (a : Option Addr) (l : Nat) : Prop := ∃ N, NodesAt w N a l ∧ Pair2 (NdIn w) N X
def EsAt (w : World) (X : List AE) (a : Option Addr) (l : Nat) : Prop := ∃ E, EdgesAt w E a l ∧ Pair2 (EdIn w) E X

theorem PsAt.below {w w' : World} {X : List AP} {a : Option Addr} {l : Nat} (h : PsAt w X a l) (k : Below w.heap.size w w') : PsAt w' X a l := by
  obtain ⟨N, h1, h2⟩ := h
  exact ⟨N, h1.below k, h2.mono fun p x _ _ hp => hp.below k⟩

theorem NsAt.below {w w' : World} {X : List AN} {a : Option Addr} {l : Nat} (h : NsAt w X a l) (k : Below w.heap.size w w') : NsAt w' X a l := by
  obtain ⟨N, h1, h2⟩ := h
  exact ⟨N, h1.below k, h2.mono fun p x _ _ hp => hp.below k⟩

theorem EsAt.below {w w' : World} {X : List AE} {a : Option Addr} {l : Nat} (h : EsAt w X a l) (k : Below w.heap.size w w') : EsAt w' X a l := by
  obtain ⟨N, h1, h2⟩ := h
  exact ⟨N, h1.below k, h2.mono fun p x _ _ hp => hp.below k⟩

/-- Two lists one by one, each pair in blocks of its own among those that A allows. -/
def PairD {α β : Type} (R : (Nat → Prop) → α → β → Prop) (A : Nat → Prop) (P : List α) (L : List β) : Prop :=
  P.length = L.length ∧ ∃ As : Nat → Nat → Prop, (∀ (i : Nat) p x, P[i]? = some p → L[i]? = some x → R (As i) p x) ∧ (∀ i b, As i b → A b) ∧ ∀ i j b, As i b → As j b → i = j

theorem PairD.nil {α β : Type} {R : (Nat → Prop) → α → β → Prop} {A : Nat → Prop} : PairD R A [] [] := ⟨rfl, fun _ _ => False, fun i p x h => by simp at h, fun _ _ h => h.elim, fun _ _ _ h => h.elim⟩

theorem PairD.pair {α β : Type} {R : (Nat → Prop) → α → β → Prop} {A : Nat → Prop} {P : List α} {L : List β} (h : PairD R A P L) (m : ∀ (B B' : Nat → Prop) p x, (∀ b, B b → B' b) → R B p x → R B' p x) : Pair2 (R A) P L := by
  obtain ⟨h1, As, h2, h3, h4⟩ := h
  exact ⟨h1, fun i p x hp hx => m _ _ p x (h3 i) (h2 i p x hp hx)⟩

/-- Each pair is carried over, its blocks among those that A' allows. -/
theorem PairD.carry {α β : Type} {R R' : (Nat → Prop) → α → β → Prop} {A A' : Nat → Prop} {P : List α} {L : List β} (h : PairD R A P L) (Z : Nat → Prop) (m : ∀ (B : Nat → Prop) p x, (∀ b, B b → A b) → R B p x → R' (fun b => B b ∧ Z b) p x) (hA : ∀ b, A b → Z b → A' b) : PairD R' A' P L := by
  obtain ⟨h1, As, h2, h3, h4⟩ := h
  exact ⟨h1, fun i b => As i b ∧ Z b, fun i p x hp hx => m _ p x (h3 i) (h2 i p x hp hx), fun i b hb => hA b (h3 i b hb.1) hb.2, fun i j b hi hj => h4 i j b hi.1 hj.1⟩

theorem PairD.snoc {α β : Type} {R : (Nat → Prop) → α → β → Prop} {A A' B : Nat → Prop} {P : List α} {L : List β} (h : PairD R A P L) {p : α} {x : β} (hR : R B p x) (hA : ∀ b, A b → A' b) (hB : ∀ b, B b → A' b) (hd : ∀ b, A b → ¬ B b) : PairD R A' (P ++ [p]) (L ++ [x]) := by
  obtain ⟨h1, As, h2, h3, h4⟩ := h
  refine ⟨by simp [h1], fun i => if i < P.length then As i else if i = P.length then B else fun _ => False, fun i q y hq hy => ?_, fun i b hb => ?_, fun i j b hi hj => ?_⟩
  · rcases Nat.lt_trichotomy i P.length with hi | hi | hi
    · simp only [if_pos hi]
      rw [List.getElem?_append_left hi] at hq
      rw [List.getElem?_append_left (by omega)] at hy
      exact h2 i q y hq hy
    · subst hi
      simp only [Nat.lt_irrefl, if_false, if_true]
      rw [List.getElem?_append_right (Nat.le_refl _), Nat.sub_self] at hq
      rw [h1, List.getElem?_append_right (Nat.le_refl _), Nat.sub_self] at hy
      injection hq with hq
      injection hy with hy
      subst hq hy
      exact hR
    · rw [List.getElem?_eq_none (by simp; omega)] at hq
      cases hq
  · dsimp only at hb
    split at hb
    · exact hA b (h3 i b hb)
    · split at hb
      · exact hB b hb
      · exact hb.elim
  · dsimp only at hi hj
    split at hi
    · split at hj
      · exact h4 i j b hi hj
      · split at hj
        · exact absurd hj (hd b (h3 i b hi))
        · exact hj.elim
    · split at hi
      · split at hj
        · exact absurd hi (hd b (h3 j b hj))
        · split at hj
          · omega
          · exact hj.elim
      · exact hi.elim

theorem PairD.erase {α β : Type} {R : (Nat → Prop) → α → β → Prop} {A : Nat → Prop} {P : List α} {L : List β} (h : PairD R A P L) (i : Nat) : PairD R A (P.eraseIdx i) (L.eraseIdx i) := by
  obtain ⟨h1, As, h2, h3, h4⟩ := h
  refine ⟨by rw [List.length_eraseIdx, List.length_eraseIdx, h1], fun j => if j < i then As j else As (j + 1), fun j p x hp hx => ?_, fun j b hb => ?_, fun j k b hj hk => ?_⟩
  · rw [List.getElem?_eraseIdx] at hp hx
    split at hp
    · rename_i hj
      rw [if_pos hj] at hx
      simp only [if_pos hj]
      exact h2 j p x hp hx
    · rename_i hj
      rw [if_neg hj] at hx
      simp only [if_neg hj]
      exact h2 (j + 1) p x hp hx
  · dsimp only at hb
    split at hb
    · exact h3 j b hb
    · exact h3 (j + 1) b hb
  · dsimp only at hj hk
    split at hj <;> split at hk <;> have := h4 _ _ b hj hk <;> omega

/-- One pair is another one, in its old blocks and in new ones. -/
theorem PairD.set {α β : Type} {R R' : (Nat → Prop) → α → β → Prop} {A A' : Nat → Prop} {P : List α} {L : List β} (h : PairD R A P L) {i : Nat} {p : α} {x : β} (hp : P[i]? = some p) (hx : L[i]? = some x) (N : Nat → Prop) (hN : ∀ b, A b → ¬ N b) (hA : ∀ b, A b → A' b) (hNA : ∀ b, N b → A' b) (p' : α) (x' : β)
    (one : ∀ B : Nat → Prop, (∀ b, B b → A b) → R B p x → R' (fun b => B b ∨ N b) p' x')
    (other : ∀ (B C : Nat → Prop) q y, (∀ b, B b → A b) → (∀ b, C b → A b) → (∀ b, B b → ¬ C b) → R C p x → R B q y → R' B q y) : PairD R' A' (P.set i p') (L.set i x') := by
  obtain ⟨h1, As, h2, h3, h4⟩ := h
  have hi : i < P.length := (List.getElem?_eq_some_iff.1 hp).1
  refine ⟨by simp [h1], fun j b => As j b ∨ (j = i ∧ N b), fun j q y hq hy => ?_, fun j b hb => ?_, fun j k b hj hk => ?_⟩
  · rw [List.getElem?_set] at hq hy
    by_cases hij : i = j
    · subst hij
      rw [if_pos rfl, if_pos hi] at hq
      rw [if_pos rfl, if_pos (by omega)] at hy
      injection hq with hq
      injection hy with hy
      subst hq hy
      have := one (As i) (h3 i) (h2 i p x hp hx)
      simpa using this
    · rw [if_neg hij] at hq hy
      have := other (As j) (As i) q y (h3 j) (h3 i) (fun b hb hb' => hij (h4 i j b hb' hb)) (h2 i p x hp hx) (h2 j q y hq hy)
      have e : (fun b => As j b ∨ (j = i ∧ N b)) = As j := by
        funext b
        have : ¬ j = i := fun e => hij e.symm
        simp [this]
      show R' (fun b => As j b ∨ (j = i ∧ N b)) q y
      rw [e]
      exact this
  · rcases hb with hb | hb
    · exact hA b (h3 j b hb)
    · exact hNA b hb.2
  · rcases hj with hj | hj
    · rcases hk with hk | hk
      · exact h4 j k b hj hk
      · exact absurd hk.2 (hN b (h3 j b hj))
    · rcases hk with hk | hk
      · exact absurd hj.2 (hN b (h3 k b hk))
      · exact hj.1.trans hk.1.symm

theorem NdOwn.wide {w : World} (B B' : Nat → Prop) (p : Nd) (x : AN) (h : ∀ b, B b → B' b) (k : NdOwn B w p x) : NdOwn B' w p x := k.kept (Keep.weak w fun b hb _ => h b hb)
theorem EdOwn.wide {w : World} (B B' : Nat → Prop) (p : Ed) (x : AE) (h : ∀ b, B b → B' b) (k : EdOwn B w p x) : EdOwn B' w p x := k.kept (Keep.weak w fun b hb _ => h b hb)

/-- Nodes, edges in a row of the call's own, what they hold in rows of their own beside. -/
def NsOwn (A : Nat → Prop) (w : World) (X : List AN) (v : Value) : Prop := OwnB A v ∧ ∃ N, w.ownsRow 0 49 3 v N.length (rowN N) ∧ PairD (fun B => NdOwn B w) (fun i => A i ∧ v.ownBlock ≠ some i) N X
def EsOwn (A : Nat → Prop) (w : World) (X : List AE) (v : Value) : Prop := OwnB A v ∧ ∃ E, w.ownsRow 0 53 5 v E.length (rowX E) ∧ PairD (fun B => EdOwn B w) (fun i => A i ∧ v.ownBlock ≠ some i) E X

theorem slice_of_row {w : World} {B n size : Nat} {e : TypeId} {v : Value} {xs : List Value} (h : w.ownsRow B e size v n xs) : ∃ a c, v = .slice a n c ∧ n ≤ c := by
  rcases h.2 with ⟨h0, h1⟩ | ⟨g, cap, cur, h0, h1, h2, h3, _⟩
  · exact ⟨none, 0, by rw [h0, h1], by omega⟩
  · exact ⟨_, cap, h0, h3⟩

theorem NsOwn.reads {A : Nat → Prop} {w : World} {X : List AN} {v : Value} (h : NsOwn A w X v) : ∃ a c, v = .slice a X.length c ∧ X.length ≤ c ∧ NsAt w X a X.length := by
  obtain ⟨_, N, h1, h20⟩ := h
  have h2 := h20.pair NdOwn.wide
  obtain ⟨a, c, rfl, hc⟩ := slice_of_row h1
  rw [h2.1] at hc
  refine ⟨a, c, by rw [h2.1], hc, N, ?_, h2.mono fun p x _ _ hp => hp.reads⟩
  rw [← h2.1]
  exact row_nodes h1

theorem EsOwn.reads {A : Nat → Prop} {w : World} {X : List AE} {v : Value} (h : EsOwn A w X v) : ∃ a c, v = .slice a X.length c ∧ X.length ≤ c ∧ EsAt w X a X.length := by
  obtain ⟨_, N, h1, h20⟩ := h
  have h2 := h20.pair EdOwn.wide
  obtain ⟨a, c, rfl, hc⟩ := slice_of_row h1
  rw [h2.1] at hc
  refine ⟨a, c, by rw [h2.1], hc, N, ?_, h2.mono fun p x _ _ hp => hp.reads⟩
  rw [← h2.1]
  refine row_edges h1 fun p hp => ?_
  obtain ⟨i, hi⟩ := List.getElem?_of_mem hp
  obtain ⟨x, _, hx⟩ := h2.left hi
  exact hx.szT

/-- Cells of a block from one on are written. -/
def putL (w : World) (b : Nat) : Nat → List Value → World
  | _, [] => w
  | o, v :: vs => putL (w.setCell ⟨b, o, none⟩ v) b (o + 1) vs

theorem putL_size (b : Nat) : ∀ (vs : List Value) (o : Nat) (w : World), (putL w b o vs).heap.size = w.heap.size
  | [], _, _ => rfl
  | v :: vs, o, w => by
    show (putL (w.setCell ⟨b, o, none⟩ v) b (o + 1) vs).heap.size = _
    rw [putL_size b vs]
    simp [World.setCell]

theorem putL_other (b : Nat) : ∀ (vs : List Value) (o : Nat) (w : World) (i : Nat), i ≠ b → (putL w b o vs).heap[i]? = w.heap[i]?
  | [], _, _, _, _ => rfl
  | v :: vs, o, w, i, h => by
    show (putL (w.setCell ⟨b, o, none⟩ v) b (o + 1) vs).heap[i]? = _
    rw [putL_other b vs _ _ i h]
    exact Below.heap_setCell w ⟨b, o, none⟩ v i h

theorem putL_bel (b : Nat) : ∀ (vs : List Value) (o : Nat) (w : World), Below b w (putL w b o vs)
  | [], _, w => Below.refl _ _
  | v :: vs, o, w => ((Below.refl b w).setCell (p := ⟨b, o, none⟩) (Nat.le_refl _) v).trans (putL_bel b vs (o + 1) _)

theorem set_here {w : World} {b : Nat} {cs : Array Value} {t : TypeId} (h : w.heap[b]? = some (.cells cs t (0, 0))) (o : Nat) (v : Value) : (w.setCell ⟨b, o, none⟩ v).heap[b]? = some (.cells (cs.setIfInBounds o v) t (0, 0)) := by
  simp [World.setCell, Array.getElem?_modify, h]

def setL (cs : Array Value) : Nat → List Value → Array Value
  | _, [] => cs
  | o, v :: vs => setL (cs.setIfInBounds o v) (o + 1) vs

theorem putL_here {b : Nat} {t : TypeId} : ∀ (vs : List Value) (o : Nat) (w : World) (cs : Array Value), w.heap[b]? = some (.cells cs t (0, 0)) → (putL w b o vs).heap[b]? = some (.cells (setL cs o vs) t (0, 0))
  | [], _, _, _, h => h
  | v :: vs, o, w, cs, h => putL_here vs (o + 1) _ _ (set_here h o v)

/-- What is allowed and isn't that block stays. -/
theorem Keep.put {A A' : Nat → Prop} {w w' : World} (k : Keep A A' w w') (b o : Nat) (vs : List Value) (hb : ∀ i, A' i → i ≠ b) : Keep A A' w (putL w' b o vs) :=
  ⟨by rw [putL_size]; exact k.1, fun i hA hi => ⟨(k.2 i hA hi).1, (putL_other b vs o w' i (hb i (k.2 i hA hi).1)).trans (k.2 i hA hi).2⟩⟩

def ndE : Int → List Nd → Int
  | _, [] => 0
  | ah, x :: r => if ndOne ah x = 0 then ndE x.id r else ndOne ah x

def edE (N : List Nd) : Int → List Ed → Int
  | _, [] => 0
  | ah, x :: r => if edOne N ah x = 0 then edE N x.id r else edOne N ah x

/-- The last number. -/
def lastI : Int → List Int → Int
  | ah, [] => ah
  | _, x :: r => lastI x r

/-- What is wrong with a graph. -/
def gE (N : List Nd) (E : List Ed) (next : Int) : Int :=
  if 40 < N.length ∨ 60 < E.length then 2 else if ndE 0 N = 0 then (if edE N 0 E = 0 then (if next ≤ lastI 0 (N.map Nd.id) ∨ next ≤ lastI 0 (E.map Ed.id) ∨ 1099511627776 < next then 9 else 0) else edE N 0 E) else ndE 0 N

theorem ndE_ok : ∀ (N : List Nd) (ah : Int), ndE ah N = 0 → Rise (N.map Nd.id) ∧ (∀ x ∈ N, ah < x.id ∧ labsE x.labs = 0 ∧ prsE x.props = 0)
  | [], ah, _ => ⟨fun i j x y _ h => by simp at h, fun x h => by cases h⟩
  | x :: r, ah, h => by
    unfold ndE at h
    split at h
    · rename_i h1
      have h2 : ¬ x.id ≤ ah ∧ labsE x.labs = 0 ∧ prsE x.props = 0 := by
        unfold ndOne at h1
        split at h1
        · exact absurd h1 (by decide)
        · split at h1
          · rename_i h3 h4
            exact ⟨h3, h4, h1⟩
          · rename_i h3 h4
            exact absurd h1 h4
      obtain ⟨hr, hall⟩ := ndE_ok r x.id h
      refine ⟨fun i j u v hij hu hv => ?_, fun y hy => ?_⟩
      · cases j with
        | zero => omega
        | succ j =>
          cases i with
          | zero =>
            simp only [List.map_cons, List.getElem?_cons_zero, Option.some.injEq] at hu
            simp only [List.map_cons, List.getElem?_cons_succ] at hv
            obtain ⟨y, hy, rfl⟩ := List.mem_map.1 (List.mem_of_getElem? hv)
            rw [← hu]
            exact (hall y hy).1
          | succ i =>
            simp only [List.map_cons, List.getElem?_cons_succ] at hu hv
            exact hr i j u v (by omega) hu hv
      · rcases List.mem_cons.1 hy with rfl | hy
        · exact ⟨by omega, h2.2⟩
        · have := hall y hy
          exact ⟨by omega, this.2⟩
    · rename_i h1
      exact absurd h h1

set_option maxHeartbeats 8000000 in
set_option maxRecDepth 100000 in
theorem check_graph (N : List Nd) (E : List Ed) (na : Option Addr) (nl nc : Nat) (ea : Option Addr) (el ec : Nat) (next : Int) (w : World) (hNA : NodesAt w N na nl) (hEA : EdgesAt w E ea el)
    (hN : ∀ x ∈ N, ∀ w', Below w.heap.size w w' → (Calls Tryz.prog 109 #[.slice x.la x.ll x.lc] w' fun e w'' => e = .returned (.int .i64 (labsE x.labs)) ∧ Below w'.heap.size w' w'') ∧ (Calls Tryz.prog 110 #[.slice x.pa x.pl x.pc] w' fun e w'' => e = .returned (.int .i64 (prsE x.props)) ∧ Below w'.heap.size w' w''))
    (hE : ∀ x ∈ E, ∀ w', Below w.heap.size w w' → Calls Tryz.prog 110 #[.slice x.pa x.pl x.pc] w' fun e w'' => e = .returned (.int .i64 (prsE x.props)) ∧ Below w'.heap.size w' w'') :
    Calls Tryz.prog 30 #[.agg #[.slice na nl nc, .slice ea el ec, .int .i64 next]] w fun e w' => e = .returned (.int .i64 (gE N E next)) ∧ Below w.heap.size w w' := by
  obtain ⟨R, hR⟩ : ∃ R, R = gE N E next := ⟨_, rfl⟩
  rw [← hR]
  have HR := toHid hR
  have HNA := toHid hNA
  have HEA := toHid hEA
  have hn63 := hNA.2.1
  have he63 := hEA.2.1
  have HNL := toHid hNA.1
  have HEL := toHid hEA.1
  have HND : Hid (∀ (x : Nd) (ah : Int), x ∈ N → ∀ W, Below w.heap.size w W → Calls Tryz.prog 60 #[.agg #[.int .i64 x.id, .slice x.la x.ll x.lc, .slice x.pa x.pl x.pc], .int .i64 ah] W fun e w' => e = .returned (.int .i64 (ndOne ah x)) ∧ Below W.heap.size W w') := fun x ah hx W k =>
    checkNode_of ah x W (fun w' k' => (hN x hx w' (below3 k k.size k')).1) (fun w' k' => (hN x hx w' (below3 k k.size k')).2)
  have HED : Hid (Rise (N.map Nd.id) → nl ≤ 60 → ∀ (x : Ed) (ah : Int), x ∈ E → x.typ.size ≤ 9223372036854775807 → ∀ W, Below w.heap.size w W → Calls Tryz.prog 61 #[.agg #[.int .i64 x.id, .int .i64 x.frm, .int .i64 x.dst, .string x.typ, .slice x.pa x.pl x.pc], .int .i64 ah, .slice na nl nc] W fun e w' => e = .returned (.int .i64 (edOne N ah x)) ∧ Below W.heap.size W w') := fun hr h60 x ah hx ht W k =>
    checkEdge_of N na nl nc ah x W (hNA.below k) h60 hr ht (fun w' k' => hE x hx w' (below3 k k.size k'))
  clear hR hN hE hNA hEA
  by_cases hbig : 40 < nl ∨ 60 < el
  · have H3 := toHid (show R = 2 by rw [HR.out, gE, if_pos (by have := HNL.out; have := HEL.out; omega)])
    clear HR HND HED
    by_cases h4 : 40 < nl
    · have h4' : (40 : Int) < nl := by omega
      clear hbig h4
      go_enter Tryz.func30, Tryz.ntmps30
      go_wp2_with fail
      go_ret
      exact ⟨ret_int (by rw [H3.out]), (Below.refl _ _).alloc (Nat.le_refl _) _⟩
    · have h4' : ¬ (40 : Int) < nl := by omega
      have h6' : (60 : Int) < el := by omega
      clear hbig h4
      go_enter Tryz.func30, Tryz.ntmps30
      go_wp2_with fail
      go_ret
      exact ⟨ret_int (by rw [H3.out]), (Below.refl _ _).alloc (Nat.le_refl _) _⟩
  · have h4' : ¬ (40 : Int) < nl := by omega
    have h6' : ¬ (60 : Int) < el := by omega
    have h40 : nl ≤ 40 := by omega
    have h60 : el ≤ 60 := by omega
    have HR1 := toHid (show R = if ndE 0 N = 0 then (if edE N 0 E = 0 then (if next ≤ lastI 0 (N.map Nd.id) ∨ next ≤ lastI 0 (E.map Ed.id) ∨ 1099511627776 < next then 9 else 0) else edE N 0 E) else ndE 0 N by rw [HR.out, gE, if_neg (by have := HNL.out; have := HEL.out; omega)])
    clear HR hbig
    have b0 : Below w.heap.size w (w.alloc (.cells #[.slice na nl nc, .slice ea el ec, .int .i64 next] 25)) := (Below.refl _ _).alloc (Nat.le_refl _) _
    have z0 : (w.alloc (.cells #[.slice na nl nc, .slice ea el ec, .int .i64 next] 25)).heap.size = w.heap.size + 1 := by simp
    have hx := alloc_new w (.cells #[.slice na nl nc, .slice ea el ec, .int .i64 next] 25)
    have HY : Hid (∀ W, Below (w.heap.size + 1) (w.alloc (.cells #[.slice na nl nc, .slice ea el ec, .int .i64 next] 25)) W → W.cell? ⟨w.heap.size, 0, none⟩ = some (.slice na nl nc) ∧ W.cell? ⟨w.heap.size, 1, none⟩ = some (.slice ea el ec) ∧ W.cell? ⟨w.heap.size, 2, none⟩ = some (.int .i64 next)) := by
      intro W k
      have q : ∀ o, W.cell? ⟨w.heap.size, o, none⟩ = _ := fun o => (k.cell (p := ⟨w.heap.size, o, none⟩) (Nat.lt_succ_self _)).trans (cell_of hx o)
      exact ⟨q 0, q 1, q 2⟩
    have B0 := toHid b0
    have Z0 := toHid z0
    clear hx b0 z0
    go_enter Tryz.func30, Tryz.ntmps30
    go_wp2_with fail
    go_loopg [3, 24] nl (fun g s3 s24 wr => ∃ (i : Nat) (ah : Int), i ≤ nl ∧ nl - i ≤ g ∧ s3 = .int .i64 ah ∧ s24 = .int .i64 i ∧ Below (w.heap.size + 1) (w.alloc (.cells #[.slice na nl nc, .slice ea el ec, .int .i64 next] 25)) wr ∧ ndE 0 N = ndE ah (N.drop i) ∧ lastI 0 (N.map Nd.id) = lastI ah ((N.map Nd.id).drop i))
    case atStart => exact ⟨0, 0, Nat.zero_le _, by omega, rfl, rfl, Below.refl _ _, rfl, rfl⟩
    case round =>
      obtain ⟨i, ah, hi, hg, rfl, rfl, hbw, hfe, hla⟩ := hrel
      have HF := toHid hfe
      have HLA := toHid hla
      clear hfe hla
      have hz : w.heap.size + 1 ≤ wr.heap.size := by have := hbw.size; rw [Z0.out] at this; exact this
      have hw0 : Below w.heap.size w wr := B0.out.trans (hbw.mono (by omega))
      by_cases hlt : i < nl
      · obtain ⟨b, off, ha, hb, hc⟩ := HNA.out.2.2 (by omega)
        subst ha
        obtain ⟨x, hx, hd⟩ := drop_get (L := N) (i := i) (by have := HNL.out; omega)
        obtain ⟨c0, c1, c2⟩ := hc i x hx
        have q : ∀ o, wr.cell? ⟨b, o, none⟩ = w.cell? ⟨b, o, none⟩ := fun o => hw0.cell (p := ⟨b, o, none⟩) hb
        have d0 := (q _).trans c0
        have d1 := (q _).trans c1
        have d2 := (q _).trans c2
        have HD := toHid hd
        have HX := toHid (List.mem_of_getElem? hx)
        have HM := toHid (show (N.map Nd.id).drop i = x.id :: (N.map Nd.id).drop (i + 1) by rw [← List.map_drop, hd, List.map_cons, List.map_drop])
        clear hc hd hx c0 c1 c2 q
        go_wp2_with fail
        refine (HND.out x ah HX.out _ (hw0.alloc (by omega) _)).mono ?_
        rintro e w1 ⟨rfl, k1⟩
        have y0 : w1.cell? ⟨wr.heap.size, 0, none⟩ = some (.int .i64 x.id) := by rw [k1.cell (by simp)]; simp
        have hb1 : Below (w.heap.size + 1) (w.alloc (.cells #[.slice (some ⟨b, off, none⟩) nl nc, .slice ea el ec, .int .i64 next] 25)) w1 := (hbw.alloc hz _).trans (k1.mono (by simp; omega))
        clear k1 d0 d1 d2
        by_cases he : ndOne ah x = 0
        · have he' : (ndOne ah x != 0) = false := by simp [he]
          have H2 := toHid he
          clear he
          go_wp2_with fail
          go_roundg (nl - (i + 1))
          case measure => omega
          case rel => exact ⟨i + 1, x.id, by omega, by omega, rfl, by go_num, hb1, by rw [HF.out, HD.out, ndE, if_pos H2.out], by rw [HLA.out, HM.out, lastI]⟩
        · have he' : (ndOne ah x != 0) = true := by simp [he]
          have H3 := toHid (show R = ndOne ah x by
            have h5 : ndE 0 N = ndOne ah x := by rw [HF.out, HD.out, ndE, if_neg he]
            rw [HR1.out, h5, if_neg he])
          clear he HR1
          have hw1 := toHid (B0.out.trans (hb1.mono (by omega)))
          go_wp2_with fail
          go_ret
          exact ⟨ret_int (by rw [H3.out]), hw1.out⟩
      · have hN0 : ndE 0 N = 0 := by rw [HF.out, List.drop_eq_nil_of_le (by have := HNL.out; omega)]; rfl
        have HLN := toHid (show lastI 0 (N.map Nd.id) = ah by rw [HLA.out, List.drop_eq_nil_of_le (by have := HNL.out; simp; omega)]; rfl)
        have HR2 := toHid (show R = if edE N 0 E = 0 then (if next ≤ ah ∨ next ≤ lastI 0 (E.map Ed.id) ∨ 1099511627776 < next then 9 else 0) else edE N 0 E by rw [HR1.out, if_pos hN0, HLN.out])
        have HRI := toHid (ndE_ok N 0 hN0).1
        clear HR1 hN0 HF HLA HLN HND
        obtain ⟨y0, y1, y2⟩ := HY.out wr hbw
        obtain ⟨W1, rfl⟩ : ∃ W1, W1 = wr := ⟨_, rfl⟩
        have HBW := toHid hbw
        have HW0 := toHid hw0
        have HZ := toHid hz
        clear hbw hw0 hz hi hg
        go_wp2_with fail
        go_loopg [4, 40] el (fun g s4 s40 wq => ∃ (i : Nat) (bh : Int), i ≤ el ∧ el - i ≤ g ∧ s4 = .int .i64 bh ∧ s40 = .int .i64 i ∧ Below (w.heap.size + 1) (w.alloc (.cells #[.slice na nl nc, .slice ea el ec, .int .i64 next] 25)) wq ∧ edE N 0 E = edE N bh (E.drop i) ∧ lastI 0 (E.map Ed.id) = lastI bh ((E.map Ed.id).drop i))
        case atStart => exact ⟨0, 0, Nat.zero_le _, by omega, rfl, rfl, HBW.out, rfl, rfl⟩
        case round =>
          clear y0 y1 y2 HBW HW0 HZ
          obtain ⟨i, bh, hi, hg, rfl, rfl, hbw, hfe, hla⟩ := hrel
          have HF := toHid hfe
          have HLA := toHid hla
          clear hfe hla
          have hz : w.heap.size + 1 ≤ wr.heap.size := by have := hbw.size; rw [Z0.out] at this; exact this
          have hw0 : Below w.heap.size w wr := B0.out.trans (hbw.mono (by omega))
          by_cases hlt : i < el
          · obtain ⟨b, off, ha, hb, hc⟩ := HEA.out.2.2 (by omega)
            subst ha
            obtain ⟨x, hx, hd⟩ := drop_get (L := E) (i := i) (by have := HEL.out; omega)
            obtain ⟨ht, c0, c1, c2, c3, c4⟩ := hc i x hx
            have q : ∀ o, wr.cell? ⟨b, o, none⟩ = w.cell? ⟨b, o, none⟩ := fun o => hw0.cell (p := ⟨b, o, none⟩) hb
            have d0 := (q _).trans c0
            have d1 := (q _).trans c1
            have d2 := (q _).trans c2
            have d3 := (q _).trans c3
            have d4 := (q _).trans c4
            have HD := toHid hd
            have HX := toHid (List.mem_of_getElem? hx)
            have HM := toHid (show (E.map Ed.id).drop i = x.id :: (E.map Ed.id).drop (i + 1) by rw [← List.map_drop, hd, List.map_cons, List.map_drop])
            have HT := toHid ht
            clear hc hd hx c0 c1 c2 c3 c4 q ht
            obtain ⟨y0, y1, y2⟩ := HY.out wr hbw
            have hzl : w.heap.size < wr.heap.size := by omega
            go_wp2_with fail
            refine (HED.out HRI.out (by omega) x bh HX.out HT.out _ (hw0.alloc (by omega) _)).mono ?_
            rintro e w1 ⟨rfl, k1⟩
            clear y0 y1 y2
            have y0 : w1.cell? ⟨wr.heap.size, 0, none⟩ = some (.int .i64 x.id) := by rw [k1.cell (by simp)]; simp
            have hb1 : Below (w.heap.size + 1) (w.alloc (.cells #[.slice na nl nc, .slice (some ⟨b, off, none⟩) el ec, .int .i64 next] 25)) w1 := (hbw.alloc hz _).trans (k1.mono (by simp; omega))
            clear k1 d0 d1 d2 d3 d4
            by_cases he : edOne N bh x = 0
            · have he' : (edOne N bh x != 0) = false := by simp [he]
              have H2 := toHid he
              clear he
              go_wp2_with fail
              go_roundg (el - (i + 1))
              case measure => omega
              case rel => exact ⟨i + 1, x.id, by omega, by omega, rfl, by go_num, hb1, by rw [HF.out, HD.out, edE, if_pos H2.out], by rw [HLA.out, HM.out, lastI]⟩
            · have he' : (edOne N bh x != 0) = true := by simp [he]
              have H3 := toHid (show R = edOne N bh x by
                have h5 : edE N 0 E = edOne N bh x := by rw [HF.out, HD.out, edE, if_neg he]
                rw [HR2.out, h5, if_neg he])
              clear he HR2
              have hw1 := toHid (B0.out.trans (hb1.mono (by omega)))
              go_wp2_with fail
              go_ret
              exact ⟨ret_int (by rw [H3.out]), hw1.out⟩
          · have hE0 : edE N 0 E = 0 := by rw [HF.out, List.drop_eq_nil_of_le (by have := HEL.out; omega)]; rfl
            have HLN := toHid (show lastI 0 (E.map Ed.id) = bh by rw [HLA.out, List.drop_eq_nil_of_le (by have := HEL.out; simp; omega)]; rfl)
            have HR3 := toHid (show R = if next ≤ ah ∨ next ≤ bh ∨ 1099511627776 < next then 9 else 0 by rw [HR2.out, if_pos hE0, HLN.out])
            clear HR2 hE0 HF HLA HLN HED
            obtain ⟨y0, y1, y2⟩ := HY.out wr hbw
            have hw1 := toHid hw0
            clear hw0 hbw
            go_wp2_with fail
            all_goals
              go_ret
              refine ⟨ret_int ?_, hw1.out⟩
              rw [HR3.out]
              first
                | rw [if_pos (by omega)]
                | rw [if_neg (by omega)]

theorem info_int0 : (Tryz.prog.info? 3).map (fun i => (i.zero, i.size, i.bytes)) = some (some (.int .i64 0), 1, 8) := by kernel_rfl

theorem info_int : ∃ i, Tryz.prog.info? 3 = some i ∧ i.zero = some (.int .i64 0) ∧ i.size = 1 ∧ i.bytes = 8 := by
  obtain ⟨i, h, e⟩ := Option.map_eq_some_iff.1 info_int0
  simp only [Prod.mk.injEq] at e
  exact ⟨i, h, e⟩

theorem rowI_kept {B n : Nat} {e : TypeId} {size : Nat} {v : Value} {xs : List Value} {w w' : World} (h : w.ownsRow B e size v n xs) (hk : ∀ k, B ≤ k → k < w.heap.size → w'.heap[k]? = w.heap[k]?) : w'.ownsRow B e size v n xs := by
  refine ⟨h.1, ?_⟩
  rcases h.2 with h0 | ⟨g, cap, cur, e1, e2, e3, e4⟩
  · exact .inl h0
  · exact .inr ⟨g, cap, cur, e1, e2, by rw [hk g e2 (Array.getElem?_eq_some_iff.1 e3).1]; exact e3, e4⟩

theorem rowI_block {B n : Nat} {e : TypeId} {size : Nat} {v : Value} {xs : List Value} {w : World} (h : w.ownsRow B e size v n xs) (k : Nat) (hk : v.ownBlock = some k) : B ≤ k := by
  rcases h.2 with ⟨rfl, _⟩ | ⟨g, cap, cur, rfl, e2, _⟩
  · simp [Value.ownBlock] at hk
  · simp [Value.ownBlock] at hk
    omega

theorem alloc_2nd (w : World) (o1 o2 : Obj) : ((w.alloc o1).alloc o2).heap[w.heap.size + 1]? = some o2 := by
  have := alloc_new (w.alloc o1) o2
  rw [show (w.alloc o1).heap.size = w.heap.size + 1 from by simp] at this
  exact this

/-- Numbers as values. -/
def ints (L : List Int) : List Value := L.map (fun n => .int .i64 n)

theorem ints_more (L : List Int) (x : Int) : ints (L ++ [x]) = ints L ++ [.int .i64 x] := by simp [ints]

/-- Is it an edge of that kind from (to) that node? -/
def selE (id : Int) (kind : ByteArray) (inn : Bool) (x : Ed) : Bool := ((if inn = true then x.dst else x.frm) == id) && (kind.toList.isEmpty || kind.toList == x.typ.toList)

def arL (id : Int) (kind : ByteArray) (inn : Bool) (E : List Ed) : List Int := (E.filter (selE id kind inn)).map Ed.id

theorem arL_yes {id : Int} {kind : ByteArray} {inn : Bool} {x : Ed} {E : List Ed} (h : selE id kind inn x = true) : arL id kind inn (x :: E) = x.id :: arL id kind inn E := by
  simp [arL, h]

theorem arL_no {id : Int} {kind : ByteArray} {inn : Bool} {x : Ed} {E : List Ed} (h : selE id kind inn x = false) : arL id kind inn (x :: E) = arL id kind inn E := by
  simp [arL, h]

/-- What Around answers. -/
def AroundEnd (w w' : World) (er : Int) (has : Bool) (L : List Int) (e : Ending) : Prop :=
  (er ≠ 0 ∧ e = .returned (.tuple #[.slice none 0 0, .int .i64 er])) ∨ (er = 0 ∧ has = false ∧ e = .returned (.tuple #[.slice none 0 0, .int .i64 5])) ∨ (er = 0 ∧ has = true ∧ ∃ v, e = .returned (.tuple #[v, .int .i64 0]) ∧ w'.ownsRow w.heap.size 3 1 v L.length (ints L))
end Go.Proofs.YtdlmlpddkfnfmaaGreatDoor
