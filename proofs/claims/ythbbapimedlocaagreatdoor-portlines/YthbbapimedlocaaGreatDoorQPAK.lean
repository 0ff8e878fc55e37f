/-
  What is proved here: what the texts HData, GxPure, HPut prove, in one text.
-/
import Derived.Test.YthbbapimedlocaaGreatDoorQPAJ
import Derived.Test.YthbbapimedlocaaGreatDoorQPAG
namespace Go.Proofs.YthbbapimedlocaaGreatDoor
open Go.RowKit
set_option linter.unusedVariables false

/-- A property by what it holds. -/
structure AP where
  name : ByteArray
  t : T

/-- A node by what it holds. -/
structure AN where
  id : Int
  labs : List ByteArray
  props : List AP

/-- An edge by what it holds. -/
structure AE where
  id : Int
  frm : Int
  dst : Int
  typ : ByteArray
  props : List AP

/-- Two lists, one by one. -/
def Pair2 {α β : Type} (R : α → β → Prop) (P : List α) (L : List β) : Prop := P.length = L.length ∧ ∀ (i : Nat) p x, P[i]? = some p → L[i]? = some x → R p x

theorem Pair2.nil {α β : Type} {R : α → β → Prop} : Pair2 R [] [] := ⟨rfl, fun i p x h => by simp at h⟩

theorem Pair2.mono {α β : Type} {R R' : α → β → Prop} {P : List α} {L : List β} (h : Pair2 R P L) (m : ∀ p x, p ∈ P → x ∈ L → R p x → R' p x) : Pair2 R' P L :=
  ⟨h.1, fun i p x hp hx => m p x (List.mem_of_getElem? hp) (List.mem_of_getElem? hx) (h.2 i p x hp hx)⟩

theorem Pair2.snoc {α β : Type} {R : α → β → Prop} {P : List α} {L : List β} (h : Pair2 R P L) {p : α} {x : β} (hR : R p x) : Pair2 R (P ++ [p]) (L ++ [x]) := by
  refine ⟨by simp [h.1], fun i q y hq hy => ?_⟩
  rcases Nat.lt_or_ge i P.length with hi | hi
  · rw [List.getElem?_append_left hi] at hq
    rw [List.getElem?_append_left (by rw [← h.1]; exact hi)] at hy
    exact h.2 i q y hq hy
  · rw [List.getElem?_append_right hi] at hq
    rw [List.getElem?_append_right (by rw [← h.1]; exact hi), ← h.1] at hy
    cases hk : i - P.length with
    | zero =>
      rw [hk] at hq hy
      simp at hq hy
      rw [← hq, ← hy]
      exact hR
    | succ k => rw [hk] at hq; simp at hq

theorem Pair2.right {α β : Type} {R : α → β → Prop} {P : List α} {L : List β} (h : Pair2 R P L) {i : Nat} {x : β} (hx : L[i]? = some x) : ∃ p, P[i]? = some p ∧ R p x := by
  have hi : i < P.length := by rw [h.1]; exact (List.getElem?_eq_some_iff.1 hx).1
  exact ⟨P[i], List.getElem?_eq_getElem hi, h.2 i _ _ (List.getElem?_eq_getElem hi) hx⟩

theorem Pair2.left {α β : Type} {R : α → β → Prop} {P : List α} {L : List β} (h : Pair2 R P L) {i : Nat} {p : α} (hp : P[i]? = some p) : ∃ x, L[i]? = some x ∧ R p x := by
  have hi : i < L.length := by rw [← h.1]; exact (List.getElem?_eq_some_iff.1 hp).1
  exact ⟨L[i], List.getElem?_eq_getElem hi, h.2 i _ _ hp (List.getElem?_eq_getElem hi)⟩

theorem pair_choose {α β : Type} {R : α → β → Prop} : ∀ (P : List α), (∀ p ∈ P, ∃ x, R p x) → ∃ L, Pair2 R P L
  | [], _ => ⟨[], Pair2.nil⟩
  | p :: P, h => by
    obtain ⟨x, hx⟩ := h p (List.mem_cons_self ..)
    obtain ⟨L, hL⟩ := pair_choose P (fun q hq => h q (List.mem_cons_of_mem _ hq))
    refine ⟨x :: L, by simp [hL.1], fun i q y hq hy => ?_⟩
    cases i with
    | zero =>
      simp at hq hy
      rw [← hq, ← hy]
      exact hx
    | succ i => exact hL.2 i q y (by simpa using hq) (by simpa using hy)

def AnyB : Nat → Prop := fun _ => True

mutual
theorem LiesT.lie {w : World} : ∀ (t : T) (b off : Nat), LiesT w t b off → LieT AnyB w t b off
  | .node k n s L, b, off, h => by
    unfold LiesT at h
    unfold LieT
    obtain ⟨hs, a, l, c, h0, h1, h2, h3, h4, hL⟩ := h
    exact ⟨hs, a, l, c, h0, h1, h2, h3, h4, LiesS.lie L a l hL⟩
theorem LiesS.lie {w : World} : ∀ (L : List T) (a : Option Addr) (l : Nat), LiesS w L a l → LieA AnyB w L a l
  | [], _, _, h => by unfold LiesS at h; unfold LieA; exact h
  | t :: ts, a, l, h => by
    unfold LiesS at h
    unfold LieA
    obtain ⟨b, off, h1, h2, h3, h4, h5, h6⟩ := h
    exact ⟨b, off, h1, h2, h3, trivial, h4, LiesT.lie t b off h5, LiesS.lie ts _ _ h6⟩
end

/-- What is kept of the blocks that A allows. -/
def Keep (A A' : Nat → Prop) (w w' : World) : Prop := w.heap.size ≤ w'.heap.size ∧ ∀ i, A i → i < w.heap.size → A' i ∧ w'.heap[i]? = w.heap[i]?

theorem Keep.of_below {w w' : World} (k : Below w.heap.size w w') (A : Nat → Prop) : Keep A A w w' := ⟨k.size, fun i hA hi => ⟨hA, k.block i hi⟩⟩

theorem Keep.weak {A A' : Nat → Prop} (w : World) (h : ∀ i, A i → i < w.heap.size → A' i) : Keep A A' w w := ⟨Nat.le_refl _, fun i hA hi => ⟨h i hA hi, rfl⟩⟩

theorem Keep.trans {A A' A'' : Nat → Prop} {w w' w'' : World} (h : Keep A A' w w') (k : Keep A' A'' w' w'') : Keep A A'' w w'' :=
  ⟨Nat.le_trans h.1 k.1, fun i hA hi => by
    obtain ⟨h1, h2⟩ := h.2 i hA hi
    obtain ⟨k1, k2⟩ := k.2 i h1 (Nat.lt_of_lt_of_le hi h.1)
    exact ⟨k1, k2.trans h2⟩⟩

/-- A property's memory holds x, its value's lists in blocks that A allows. -/
def PrIn (A : Nat → Prop) (w : World) (p : Pr) (x : AP) : Prop :=
  p.name = x.name ∧ p.name.size ≤ 9223372036854775807 ∧ p.s.size ≤ 9223372036854775807 ∧ p.l ≤ p.c ∧ ∃ Lt, x.t = .node p.k p.n p.s Lt ∧ LieA A w Lt p.a p.l

theorem PrIn.kept {A A' : Nat → Prop} {w w' : World} {p : Pr} {x : AP} (h : PrIn A w p x) (k : Keep A A' w w') : PrIn A' w' p x := by
  obtain ⟨h1, h2, h3, h4, Lt, h5, h6⟩ := h
  exact ⟨h1, h2, h3, h4, Lt, h5, LieA.kept k.1 k.2 _ _ _ h6⟩

theorem PrIn.any {A : Nat → Prop} {w : World} {p : Pr} {x : AP} (h : PrIn A w p x) : PrIn AnyB w p x := h.kept (Keep.weak w fun _ _ _ => trivial)

theorem PrIn.below {w w' : World} {p : Pr} {x : AP} (h : PrIn AnyB w p x) (k : Below w.heap.size w w') : PrIn AnyB w' p x := h.kept (Keep.of_below k _)

def strs (L : List ByteArray) : List Value := L.map (fun s => .string s)

def Pr.cells (p : Pr) : List Value := [.string p.name, .int .i64 p.k, .int .i64 p.n, .string p.s, .slice p.a p.l p.c]
def rowP (P : List Pr) : List Value := (P.map Pr.cells).flatten

theorem rowP_snoc (P : List Pr) (p : Pr) : rowP (P ++ [p]) = rowP P ++ p.cells := by simp [rowP]

def Nd.cells (x : Nd) : List Value := [.int .i64 x.id, .slice x.la x.ll x.lc, .slice x.pa x.pl x.pc]
def rowN (N : List Nd) : List Value := (N.map Nd.cells).flatten

theorem rowN_snoc (N : List Nd) (x : Nd) : rowN (N ++ [x]) = rowN N ++ x.cells := by simp [rowN]

def Ed.cells (x : Ed) : List Value := [.int .i64 x.id, .int .i64 x.frm, .int .i64 x.dst, .string x.typ, .slice x.pa x.pl x.pc]
def rowX (E : List Ed) : List Value := (E.map Ed.cells).flatten

theorem rowX_snoc (E : List Ed) (x : Ed) : rowX (E ++ [x]) = rowX E ++ x.cells := by simp [rowX]

theorem flat_get {α : Type} (f : α → List Value) (k : Nat) (hk : ∀ x, (f x).length = k) : ∀ (L : List α) (i j : Nat) (x : α) (u : Value), L[i]? = some x → (f x)[j]? = some u → (L.map f).flatten[i * k + j]? = some u
  | [], i, j, x, u, h, _ => by simp at h
  | y :: L, 0, j, x, u, h, hu => by
    simp at h
    subst h
    have hj : j < (f y).length := (List.getElem?_eq_some_iff.1 hu).1
    simp only [List.map_cons, List.flatten_cons, Nat.zero_mul, Nat.zero_add]
    rw [List.getElem?_append_left hj]
    exact hu
  | y :: L, i + 1, j, x, u, h, hu => by
    simp only [List.map_cons, List.flatten_cons]
    have e : (i + 1) * k + j = (f y).length + (i * k + j) := by rw [hk, Nat.add_mul]; omega
    rw [e, List.getElem?_append_right (Nat.le_add_right _ _), Nat.add_sub_cancel_left]
    exact flat_get f k hk L i j x u (by simpa using h) hu

/-- A row of the call's own: where it lies. -/
theorem row_at {w : World} {B n size : Nat} {e : TypeId} {a : Option Addr} {l c : Nat} {xs : List Value} (h : w.ownsRow B e size (.slice a l c) n xs) (hn : 0 < n) : ∃ g, a = some ⟨g, 0, none⟩ ∧ l = n ∧ B ≤ g ∧ g < w.heap.size ∧ ∀ j u, xs[j]? = some u → w.cell? ⟨g, 0 + j, none⟩ = some u := by
  obtain ⟨g, cap, hv, hb, hg⟩ := h.form hn
  injection hv with h1 h2 h3
  subst h1 h2 h3
  refine ⟨g, rfl, rfl, hb, hg, fun j u hu => ?_⟩
  have hc := h.cells (g := g) rfl j u hu
  by_cases h0 : j = 0
  · subst h0; simpa [Addr.add] using hc
  · simpa [Addr.add, h0] using hc

theorem row_len {w : World} {B n size : Nat} {e : TypeId} {a : Option Addr} {l c : Nat} {xs : List Value} (h : w.ownsRow B e size (.slice a l c) n xs) : l = n ∧ l ≤ c ∧ n ≤ 9223372036854775807 := by
  have hm : maxLen ≤ 9223372036854775807 := by unfold maxLen; decide
  rcases h.2 with ⟨h0, h1⟩ | ⟨g, cap, cur, h0, h1, h2, h3, h4, _⟩
  · injection h0 with _ h2 h3
    subst h2 h3
    exact ⟨h1.symm, Nat.le_refl _, by omega⟩
  · injection h0 with _ h5 h6
    subst h5 h6
    exact ⟨rfl, h3, by omega⟩

theorem row_strs {w : World} {B : Nat} {a : Option Addr} {l c : Nat} {L : List ByteArray} (h : w.ownsRow B 9 1 (.slice a l c) L.length (strs L)) (hs : ∀ s ∈ L, s.size ≤ 9223372036854775807) : StrsAt w L a l := by
  obtain ⟨h1, _, h2⟩ := row_len h
  refine ⟨h1, by omega, fun h0 => ?_⟩
  obtain ⟨g, ha, _, _, hg, hc⟩ := row_at h (by omega)
  exact ⟨g, 0, ha, hg, fun i s hi => ⟨hs s (List.mem_of_getElem? hi), hc i _ (by rw [strs, List.getElem?_map, hi]; rfl)⟩⟩

theorem row_props {w : World} {B : Nat} {a : Option Addr} {l c : Nat} {P : List Pr} (h : w.ownsRow B 62 5 (.slice a l c) P.length (rowP P)) (hs : ∀ p ∈ P, p.name.size ≤ 9223372036854775807) : PropsAt w P a l := by
  obtain ⟨h1, _, h2⟩ := row_len h
  refine ⟨h1, by omega, fun h0 => ?_⟩
  obtain ⟨g, ha, _, _, hg, hc⟩ := row_at h (by omega)
  refine ⟨g, 0, ha, hg, fun i p hi => ⟨hs p (List.mem_of_getElem? hi), ?_⟩⟩
  have f := fun j u hu => hc _ u (flat_get Pr.cells 5 (fun _ => rfl) P i j p u hi hu)
  have g0 := f 0 _ rfl
  have g1 := f 1 _ rfl
  have g2 := f 2 _ rfl
  have g3 := f 3 _ rfl
  have g4 := f 4 _ rfl
  exact ⟨g0, g1, g2, g3, g4⟩

theorem row_nodes {w : World} {B : Nat} {a : Option Addr} {l c : Nat} {N : List Nd} (h : w.ownsRow B 49 3 (.slice a l c) N.length (rowN N)) : NodesAt w N a l := by
  obtain ⟨h1, _, h2⟩ := row_len h
  refine ⟨h1, by omega, fun h0 => ?_⟩
  obtain ⟨g, ha, _, _, hg, hc⟩ := row_at h (by omega)
  refine ⟨g, 0, ha, hg, fun i p hi => ?_⟩
  have f := fun j u hu => hc _ u (flat_get Nd.cells 3 (fun _ => rfl) N i j p u hi hu)
  have g0 := f 0 _ rfl
  have g1 := f 1 _ rfl
  have g2 := f 2 _ rfl
  exact ⟨g0, g1, g2⟩

theorem row_edges {w : World} {B : Nat} {a : Option Addr} {l c : Nat} {E : List Ed} (h : w.ownsRow B 53 5 (.slice a l c) E.length (rowX E)) (hs : ∀ p ∈ E, p.typ.size ≤ 9223372036854775807) : EdgesAt w E a l := by
  obtain ⟨h1, _, h2⟩ := row_len h
  refine ⟨h1, by omega, fun h0 => ?_⟩
  obtain ⟨g, ha, _, _, hg, hc⟩ := row_at h (by omega)
  refine ⟨g, 0, ha, hg, fun i p hi => ⟨hs p (List.mem_of_getElem? hi), ?_⟩⟩
  have f := fun j u hu => hc _ u (flat_get Ed.cells 5 (fun _ => rfl) E i j p u hi hu)
  have g0 := f 0 _ rfl
  have g1 := f 1 _ rfl
  have g2 := f 2 _ rfl
  have g3 := f 3 _ rfl
  have g4 := f 4 _ rfl
  exact ⟨g0, g1, g2, g3, g4⟩

/-- A row stays where its block stays. -/
theorem row_keep {w w' : World} {B n size : Nat} {e : TypeId} {v : Value} {xs : List Value} (h : w.ownsRow B e size v n xs) (hk : ∀ g, v.ownBlock = some g → g < w.heap.size → w'.heap[g]? = w.heap[g]?) : w'.ownsRow B e size v n xs := by
  refine ⟨h.1, ?_⟩
  rcases h.2 with h0 | ⟨g, cap, cur, h0, h1, h2, h3⟩
  · exact .inl h0
  · refine .inr ⟨g, cap, cur, h0, h1, ?_, h3⟩
    rw [hk g (by rw [h0]; rfl) (Array.getElem?_eq_some_iff.1 h2).1]
    exact h2

/-- The block of a value, if it has one, is allowed. -/
def OwnB (A : Nat → Prop) (v : Value) : Prop := ∀ g, v.ownBlock = some g → A g

/-- A node in rows of its own, in blocks that A allows. -/
structure NdOwn (A : Nat → Prop) (w : World) (y : Nd) (X : AN) : Prop where
  id : y.id = X.id
  labs : y.labs = X.labs
  rowL : w.ownsRow 0 9 1 (.slice y.la y.ll y.lc) y.labs.length (strs y.labs)
  inL : OwnB A (.slice y.la y.ll y.lc)
  szL : ∀ s ∈ y.labs, s.size ≤ 9223372036854775807
  rowP : w.ownsRow 0 62 5 (.slice y.pa y.pl y.pc) y.props.length (rowP y.props)
  inP : OwnB (fun i => A i ∧ (Value.slice y.la y.ll y.lc).ownBlock ≠ some i) (.slice y.pa y.pl y.pc)
  props : Pair2 (PrIn (fun i => A i ∧ (Value.slice y.la y.ll y.lc).ownBlock ≠ some i ∧ (Value.slice y.pa y.pl y.pc).ownBlock ≠ some i) w) y.props X.props

/-- An edge in rows of its own, in blocks that A allows. -/
structure EdOwn (A : Nat → Prop) (w : World) (y : Ed) (X : AE) : Prop where
  id : y.id = X.id
  frm : y.frm = X.frm
  dst : y.dst = X.dst
  typ : y.typ = X.typ
  szT : y.typ.size ≤ 9223372036854775807
  rowP : w.ownsRow 0 62 5 (.slice y.pa y.pl y.pc) y.props.length (rowP y.props)
  inP : OwnB A (.slice y.pa y.pl y.pc)
  props : Pair2 (PrIn (fun i => A i ∧ (Value.slice y.pa y.pl y.pc).ownBlock ≠ some i) w) y.props X.props

theorem NdOwn.kept {A A' : Nat → Prop} {w w' : World} {y : Nd} {X : AN} (h : NdOwn A w y X) (k : Keep A A' w w') : NdOwn A' w' y X where
  id := h.id
  labs := h.labs
  rowL := row_keep h.rowL fun g hg hl => (k.2 g (h.inL g hg) hl).2
  inL := fun g hg => by
    have hl : g < w.heap.size := by
      rcases h.rowL.2 with ⟨h0, _⟩ | ⟨g', cap, cur, h0, _, h2, _⟩
      · rw [h0] at hg; cases hg
      · rw [h0] at hg
        have : g' = g := by simpa [Value.ownBlock] using hg
        subst this
        exact (Array.getElem?_eq_some_iff.1 h2).1
    exact (k.2 g (h.inL g hg) hl).1
  szL := h.szL
  rowP := row_keep h.rowP fun g hg hl => (k.2 g (h.inP g hg).1 hl).2
  inP := fun g hg => by
    have hl : g < w.heap.size := by
      rcases h.rowP.2 with ⟨h0, _⟩ | ⟨g', cap, cur, h0, _, h2, _⟩
      · rw [h0] at hg; cases hg
      · rw [h0] at hg
        have : g' = g := by simpa [Value.ownBlock] using hg
        subst this
        exact (Array.getElem?_eq_some_iff.1 h2).1
    exact ⟨(k.2 g (h.inP g hg).1 hl).1, (h.inP g hg).2⟩
  props := h.props.mono fun p x _ _ hp => hp.kept ⟨k.1, fun i hi hl => ⟨⟨(k.2 i hi.1 hl).1, hi.2⟩, (k.2 i hi.1 hl).2⟩⟩

theorem EdOwn.kept {A A' : Nat → Prop} {w w' : World} {y : Ed} {X : AE} (h : EdOwn A w y X) (k : Keep A A' w w') : EdOwn A' w' y X where
  id := h.id
  frm := h.frm
  dst := h.dst
  typ := h.typ
  szT := h.szT
  rowP := row_keep h.rowP fun g hg hl => (k.2 g (h.inP g hg) hl).2
  inP := fun g hg => by
    have hl : g < w.heap.size := by
      rcases h.rowP.2 with ⟨h0, _⟩ | ⟨g', cap, cur, h0, _, h2, _⟩
      · rw [h0] at hg; cases hg
      · rw [h0] at hg
        have : g' = g := by simpa [Value.ownBlock] using hg
        subst this
        exact (Array.getElem?_eq_some_iff.1 h2).1
    exact (k.2 g (h.inP g hg) hl).1
  props := h.props.mono fun p x _ _ hp => hp.kept ⟨k.1, fun i hi hl => ⟨⟨(k.2 i hi.1 hl).1, hi.2⟩, (k.2 i hi.1 hl).2⟩⟩

/-- A node that may be read. -/
def NdIn (w : World) (y : Nd) (X : AN) : Prop := y.id = X.id ∧ y.labs = X.labs ∧ StrsAt w y.labs y.la y.ll ∧ PropsAt w y.props y.pa y.pl ∧ Pair2 (PrIn AnyB w) y.props X.props
def EdIn (w : World) (y : Ed) (X : AE) : Prop := y.id = X.id ∧ y.frm = X.frm ∧ y.dst = X.dst ∧ y.typ = X.typ ∧ y.typ.size ≤ 9223372036854775807 ∧ PropsAt w y.props y.pa y.pl ∧ Pair2 (PrIn AnyB w) y.props X.props

theorem NdOwn.reads {A : Nat → Prop} {w : World} {y : Nd} {X : AN} (h : NdOwn A w y X) : NdIn w y X :=
  ⟨h.id, h.labs, row_strs h.rowL h.szL, row_props h.rowP (fun p hp => by
    obtain ⟨i, hi⟩ := List.getElem?_of_mem hp
    obtain ⟨x, _, hx⟩ := h.props.left hi
    exact hx.2.1), h.props.mono fun p x _ _ hp => hp.any⟩

theorem EdOwn.reads {A : Nat → Prop} {w : World} {y : Ed} {X : AE} (h : EdOwn A w y X) : EdIn w y X :=
  ⟨h.id, h.frm, h.dst, h.typ, h.szT, row_props h.rowP (fun p hp => by
    obtain ⟨i, hi⟩ := List.getElem?_of_mem hp
    obtain ⟨x, _, hx⟩ := h.props.left hi
    exact hx.2.1), h.props.mono fun p x _ _ hp => hp.any⟩

theorem NdIn.below {w w' : World} {y : Nd} {X : AN} (h : NdIn w y X) (k : Below w.heap.size w w') : NdIn w' y X :=
  ⟨h.1, h.2.1, h.2.2.1.below k, h.2.2.2.1.below k, h.2.2.2.2.mono fun p x _ _ hp => hp.below k⟩

theorem EdIn.below {w w' : World} {y : Ed} {X : AE} (h : EdIn w y X) (k : Below w.heap.size w w') : EdIn w' y X :=
  ⟨h.1, h.2.1, h.2.2.1, h.2.2.2.1, h.2.2.2.2.1, h.2.2.2.2.2.1.below k, h.2.2.2.2.2.2.mono fun p x _ _ hp => hp.below k⟩

/-- Properties, nodes, edges that may be read through a slice. -/
def PsAt (w : World) (X : List AP) (a : Option Addr) (l : Nat) : Prop := ∃ P, PropsAt w P a l ∧ Pair2 (PrIn AnyB w) P X
def NsAt (w : World) (X : List AN) (a : Option Addr) (l : Nat) : Prop := ∃ N, NodesAt w N a l ∧ Pair2 (NdIn w) N X
def EsAt (w : World) (X : List AE) (a : Option Addr) (l : Nat) : Prop := ∃ E, EdgesAt w E a l ∧ Pair2 (EdIn w) E X

theorem PsAt.below {w w' : World} {X : List AP} {a : Option Addr} {l : Nat} (h : PsAt w X a l) (k : Below w.heap.size w w') : PsAt w' X a l := by
  obtain ⟨N, h1, h2⟩ := h
  exact ⟨N, h1.below k, h2.mono fun p x _ _ hp => hp.below k⟩

theorem NsAt.below {w w' : World} {X : List AN} {a : Option Addr} {l : Nat} (h : NsAt w X a l) (k : Below w.heap.size w w') : NsAt w' X a l := by
  obtain ⟨N, h1, h2⟩ := h
  exact ⟨N, h1.below k, h2.mono fun p x _ _ hp => hp.below k⟩

theorem EsAt.below {w w' : World} {X : List AE} {a : Option Addr} {l : Nat} (h : EsAt w X a l) (k : Below w.heap.size w w') : EsAt w' X a l := by
  obtain ⟨N, h1, h2⟩ := h
  exact ⟨N, h1.below k, h2.mono fun p x _ _ hp => hp.below k⟩

/-- Two lists one by one, each pair in blocks of its own among those that A allows. -/
def PairD {α β : Type} (R : (Nat → Prop) → α → β → Prop) (A : Nat → Prop) (P : List α) (L : List β) : Prop :=
  P.length = L.length ∧ ∃ As : Nat → Nat → Prop, (∀ (i : Nat) p x, P[i]? = some p → L[i]? = some x → R (As i) p x) ∧ (∀ i b, As i b → A b) ∧ ∀ i j b, As i b → As j b → i = j

theorem PairD.nil {α β : Type} {R : (Nat → Prop) → α → β → Prop} {A : Nat → Prop} : PairD R A [] [] := ⟨rfl, fun _ _ => False, fun i p x h => by simp at h, fun _ _ h => h.elim, fun _ _ _ h => h.elim⟩

theorem PairD.pair {α β : Type} {R : (Nat → Prop) → α → β → Prop} {A : Nat → Prop} {P : List α} {L : List β} (h : PairD R A P L) (m : ∀ (B B' : Nat → Prop) p x, (∀ b, B b → B' b) → R B p x → R B' p x) : Pair2 (R A) P L := by
  obtain ⟨h1, As, h2, h3, h4⟩ := h
  exact ⟨h1, fun i p x hp hx => m _ _ p x (h3 i) (h2 i p x hp hx)⟩

/-- Each pair is carried over, its blocks among those that A' allows. -/
theorem PairD.carry {α β : Type} {R R' : (Nat → Prop) → α → β → Prop} {A A' : Nat → Prop} {P : List α} {L : List β} (h : PairD R A P L) (Z : Nat → Prop) (m : ∀ (B : Nat → Prop) p x, (∀ b, B b → A b) → R B p x → R' (fun b => B b ∧ Z b) p x) (hA : ∀ b, A b → Z b → A' b) : PairD R' A' P L := by
  obtain ⟨h1, As, h2, h3, h4⟩ := h
  exact ⟨h1, fun i b => As i b ∧ Z b, fun i p x hp hx => m _ p x (h3 i) (h2 i p x hp hx), fun i b hb => hA b (h3 i b hb.1) hb.2, fun i j b hi hj => h4 i j b hi.1 hj.1⟩

theorem PairD.snoc {α β : Type} {R : (Nat → Prop) → α → β → Prop} {A A' B : Nat → Prop} {P : List α} {L : List β} (h : PairD R A P L) {p : α} {x : β} (hR : R B p x) (hA : ∀ b, A b → A' b) (hB : ∀ b, B b → A' b) (hd : ∀ b, A b → ¬ B b) : PairD R A' (P ++ [p]) (L ++ [x]) := by
  obtain ⟨h1, As, h2, h3, h4⟩ := h
  refine ⟨by simp [h1], fun i => if i < P.length then As i else if i = P.length then B else fun _ => False, fun i q y hq hy => ?_, fun i b hb => ?_, fun i j b hi hj => ?_⟩
  · rcases Nat.lt_trichotomy i P.length with hi | hi | hi
    · simp only [if_pos hi]
      rw [List.getElem?_append_left hi] at hq
      rw [List.getElem?_append_left (by omega)] at hy
      exact h2 i q y hq hy
    · subst hi
      simp only [Nat.lt_irrefl, if_false, if_true]
      rw [List.getElem?_append_right (Nat.le_refl _), Nat.sub_self] at hq
      rw [h1, List.getElem?_append_right (Nat.le_refl _), Nat.sub_self] at hy
      injection hq with hq
      injection hy with hy
      subst hq hy
      exact hR
    · rw [List.getElem?_eq_none (by simp; omega)] at hq
      cases hq
  · dsimp only at hb
    split at hb
    · exact hA b (h3 i b hb)
    · split at hb
      · exact hB b hb
      · exact hb.elim
  · dsimp only at hi hj
    split at hi
    · split at hj
      · exact h4 i j b hi hj
      · split at hj
        · exact absurd hj (hd b (h3 i b hi))
        · exact hj.elim
    · split at hi
      · split at hj
        · exact absurd hi (hd b (h3 j b hj))
        · split at hj
          · omega
          · exact hj.elim
      · exact hi.elim

theorem PairD.erase {α β : Type} {R : (Nat → Prop) → α → β → Prop} {A : Nat → Prop} {P : List α} {L : List β} (h : PairD R A P L) (i : Nat) : PairD R A (P.eraseIdx i) (L.eraseIdx i) := by
  obtain ⟨h1, As, h2, h3, h4⟩ := h
  refine ⟨by rw [List.length_eraseIdx, List.length_eraseIdx, h1], fun j => if j < i then As j else As (j + 1), fun j p x hp hx => ?_, fun j b hb => ?_, fun j k b hj hk => ?_⟩
  · rw [List.getElem?_eraseIdx] at hp hx
    split at hp
    · rename_i hj
      rw [if_pos hj] at hx
      simp only [if_pos hj]
      exact h2 j p x hp hx
    · rename_i hj
      rw [if_neg hj] at hx
      simp only [if_neg hj]
      exact h2 (j + 1) p x hp hx
  · dsimp only at hb
    split at hb
    · exact h3 j b hb
    · exact h3 (j + 1) b hb
  · dsimp only at hj hk
    split at hj <;> split at hk <;> have := h4 _ _ b hj hk <;> omega

/-- One pair is another one, in its old blocks and in new ones. -/
theorem PairD.set {α β : Type} {R R' : (Nat → Prop) → α → β → Prop} {A A' : Nat → Prop} {P : List α} {L : List β} (h : PairD R A P L) {i : Nat} {p : α} {x : β} (hp : P[i]? = some p) (hx : L[i]? = some x) (N : Nat → Prop) (hN : ∀ b, A b → ¬ N b) (hA : ∀ b, A b → A' b) (hNA : ∀ b, N b → A' b) (p' : α) (x' : β)
    (one : ∀ B : Nat → Prop, (∀ b, B b → A b) → R B p x → R' (fun b => B b ∨ N b) p' x')
    (other : ∀ (B C : Nat → Prop) q y, (∀ b, B b → A b) → (∀ b, C b → A b) → (∀ b, B b → ¬ C b) → R C p x → R B q y → R' B q y) : PairD R' A' (P.set i p') (L.set i x') := by
  obtain ⟨h1, As, h2, h3, h4⟩ := h
  have hi : i < P.length := (List.getElem?_eq_some_iff.1 hp).1
  refine ⟨by simp [h1], fun j b => As j b ∨ (j = i ∧ N b), fun j q y hq hy => ?_, fun j b hb => ?_, fun j k b hj hk => ?_⟩
  · rw [List.getElem?_set] at hq hy
    by_cases hij : i = j
    · subst hij
      rw [if_pos rfl, if_pos hi] at hq
      rw [if_pos rfl, if_pos (by omega)] at hy
      injection hq with hq
      injection hy with hy
      subst hq hy
      have := one (As i) (h3 i) (h2 i p x hp hx)
      simpa using this
    · rw [if_neg hij] at hq hy
      have := other (As j) (As i) q y (h3 j) (h3 i) (fun b hb hb' => hij (h4 i j b hb' hb)) (h2 i p x hp hx) (h2 j q y hq hy)
      have e : (fun b => As j b ∨ (j = i ∧ N b)) = As j := by
        funext b
        have : ¬ j = i := fun e => hij e.symm
        simp [this]
      show R' (fun b => As j b ∨ (j = i ∧ N b)) q y
      rw [e]
      exact this
  · rcases hb with hb | hb
    · exact hA b (h3 j b hb)
    · exact hNA b hb.2
  · rcases hj with hj | hj
    · rcases hk with hk | hk
      · exact h4 j k b hj hk
      · exact absurd hk.2 (hN b (h3 j b hj))
    · rcases hk with hk | hk
      · exact absurd hj.2 (hN b (h3 k b hk))
      · exact hj.1.trans hk.1.symm

theorem NdOwn.wide {w : World} (B B' : Nat → Prop) (p : Nd) (x : AN) (h : ∀ b, B b → B' b) (k : NdOwn B w p x) : NdOwn B' w p x := k.kept (Keep.weak w fun b hb _ => h b hb)
theorem EdOwn.wide {w : World} (B B' : Nat → Prop) (p : Ed) (x : AE) (h : ∀ b, B b → B' b) (k : EdOwn B w p x) : EdOwn B' w p x := k.kept (Keep.weak w fun b hb _ => h b hb)

/-- Nodes, edges in a row of the call's own, what they hold in rows of their own beside. -/
def NsOwn (A : Nat → Prop) (w : World) (X : List AN) (v : Value) : Prop := OwnB A v ∧ ∃ N, w.ownsRow 0 49 3 v N.length (rowN N) ∧ PairD (fun B => NdOwn B w) (fun i => A i ∧ v.ownBlock ≠ some i) N X
def EsOwn (A : Nat → Prop) (w : World) (X : List AE) (v : Value) : Prop := OwnB A v ∧ ∃ E, w.ownsRow 0 53 5 v E.length (rowX E) ∧ PairD (fun B => EdOwn B w) (fun i => A i ∧ v.ownBlock ≠ some i) E X

theorem slice_of_row {w : World} {B n size : Nat} {e : TypeId} {v : Value} {xs : List Value} (h : w.ownsRow B e size v n xs) : ∃ a c, v = .slice a n c ∧ n ≤ c := by
  rcases h.2 with ⟨h0, h1⟩ | ⟨g, cap, cur, h0, h1, h2, h3, _⟩
  · exact ⟨none, 0, by rw [h0, h1], by omega⟩
  · exact ⟨_, cap, h0, h3⟩

theorem NsOwn.reads {A : Nat → Prop} {w : World} {X : List AN} {v : Value} (h : NsOwn A w X v) : ∃ a c, v = .slice a X.length c ∧ X.length ≤ c ∧ NsAt w X a X.length := by
  obtain ⟨_, N, h1, h20⟩ := h
  have h2 := h20.pair NdOwn.wide
  obtain ⟨a, c, rfl, hc⟩ := slice_of_row h1
  rw [h2.1] at hc
  refine ⟨a, c, by rw [h2.1], hc, N, ?_, h2.mono fun p x _ _ hp => hp.reads⟩
  rw [← h2.1]
  exact row_nodes h1

theorem EsOwn.reads {A : Nat → Prop} {w : World} {X : List AE} {v : Value} (h : EsOwn A w X v) : ∃ a c, v = .slice a X.length c ∧ X.length ≤ c ∧ EsAt w X a X.length := by
  obtain ⟨_, N, h1, h20⟩ := h
  have h2 := h20.pair EdOwn.wide
  obtain ⟨a, c, rfl, hc⟩ := slice_of_row h1
  rw [h2.1] at hc
  refine ⟨a, c, by rw [h2.1], hc, N, ?_, h2.mono fun p x _ _ hp => hp.reads⟩
  rw [← h2.1]
  refine row_edges h1 fun p hp => ?_
  obtain ⟨i, hi⟩ := List.getElem?_of_mem hp
  obtain ⟨x, _, hx⟩ := h2.left hi
  exact hx.szT

set_option linter.unusedSimpArgs false

def bS (s : ByteArray) : List UInt8 := s.data.toList
def endP (P : List AP) : List UInt8 := (P.map fun p => [32] ++ bS p.name ++ [61] ++ prT p.t).flatten
/-- What stands behind a node's labels, or an edge's type. -/
def endL (P : List AP) : List UInt8 := endP P ++ [10]
def fitP (P : List AP) : Bool := P.all fun p => decide ((prT p.t).length ≤ 4000)
def labsL (L : List ByteArray) : List UInt8 := (L.map fun s => [32, 58] ++ bS s).flatten
def lnN (x : AN) : List UInt8 := [110, 111, 100, 101, 32] ++ Lib.itoa x.id ++ labsL x.labs ++ endL x.props
def lnE (x : AE) : List UInt8 := [101, 100, 103, 101, 32] ++ Lib.itoa x.id ++ [32] ++ Lib.itoa x.frm ++ [32] ++ Lib.itoa x.dst ++ [32, 58] ++ bS x.typ ++ endL x.props
def lnsN (N : List AN) : List UInt8 := (N.map lnN).flatten
def lnsE (E : List AE) : List UInt8 := (E.map lnE).flatten
def txtG (nx : Int) (N : List AN) (E : List AE) : List UInt8 := [110, 101, 120, 116, 32] ++ Lib.itoa nx ++ [10] ++ lnsN N ++ lnsE E
def fitG (N : List AN) (E : List AE) : Bool := (N.all fun x => fitP x.props) && (E.all fun x => fitP x.props)

theorem lt_blkX {w : World} {b : Nat} {o : Obj} (h : w.heap[b]? = some o) : b < w.heap.size := (Array.getElem?_eq_some_iff.1 h).1

theorem str_data (l : List UInt8) : (⟨l.toArray⟩ : ByteArray).data.toList = l := by simp

theorem bS_size (s : ByteArray) : (bS s).length = s.size := by simp [bS]

theorem bS_app (a b : ByteArray) : bS (a ++ b) = bS a ++ bS b := by simp [bS]

theorem bS_of (l : List UInt8) : bS ⟨l.toArray⟩ = l := by simp [bS]

/-- A text by its bytes. -/
theorem bS_eq {s : ByteArray} {l : List UInt8} (h : bS s = l) : s = ⟨l.toArray⟩ := by
  subst h
  apply ByteArray.ext
  simp [bS]

theorem str_of (s : ByteArray) : (⟨(bS s).toArray⟩ : ByteArray) = s := by
  apply ByteArray.ext
  simp [bS]

theorem add_sb (x : List UInt8) (s : ByteArray) (h : x.length + s.size ≤ 4611686018427387904) (w : World) : (binOp .add 9 (.string ⟨x.toArray⟩) (.string s)).run Tryz.prog w = .ok (.string ⟨(x ++ bS s).toArray⟩) w := by
  have e := str_of s
  have hl : (bS s).length = s.size := by simp [bS]
  have := add_str x (bS s) (by omega) w
  rw [e] at this
  exact this

theorem itoa_any (B : Nat) (n : Int) (w : World) (hB : B ≤ w.heap.size) (h0 : -9223372036854775808 ≤ n) (h1 : n ≤ 9223372036854775807) (hP : Pow10 B w) :
    Calls Tryz.prog 23 #[.int .i64 n] w fun e w' => e = .returned (.string ⟨(Lib.itoa n).toArray⟩) ∧ Below w.heap.size w w' :=
  (Tryz.strconv_Itoa n h0 h1 w (hP w (Below.refl _ _))).mono fun e w' ⟨he, k, os, hw⟩ => ⟨he, by rw [hw]; exact Lib.below_grow _ _ (Nat.le_refl _) _ _⟩

/-- How long the text of a right value is at most. -/
def M6 : Nat := 7102692000000

theorem prT_len6 {t : T} (h : Ck 6 t) : (prT t).length ≤ M6 := Nat.le_trans (prT_len 6 t h) (by decide)

theorem endP_snoc {P : List AP} {i : Nat} {p : AP} (h : P[i]? = some p) : endP (P.take (i + 1)) = endP (P.take i) ++ ([32] ++ bS p.name ++ [61] ++ prT p.t) := by
  unfold endP
  rw [List.take_add_one, h]
  simp

theorem fitP_snoc {P : List AP} {i : Nat} {p : AP} (h : P[i]? = some p) : fitP (P.take (i + 1)) = (fitP (P.take i) && decide ((prT p.t).length ≤ 4000)) := by
  unfold fitP
  rw [List.take_add_one, h]
  simp [List.all_append]

theorem endP_len {P : List AP} (hn : ∀ p ∈ P, p.name.size ≤ 12) (hc : ∀ p ∈ P, Ck 6 p.t) : (endP P).length ≤ P.length * (M6 + 20) := by
  induction P with
  | nil => simp [endP]
  | cons p P ih =>
    have h1 := ih (fun q hq => hn q (List.mem_cons_of_mem _ hq)) (fun q hq => hc q (List.mem_cons_of_mem _ hq))
    have h2 := hn p (List.mem_cons_self ..)
    have h3 := prT_len6 (hc p (List.mem_cons_self ..))
    have h4 : (bS p.name).length = p.name.size := by simp [bS]
    unfold endP at h1 ⊢
    simp only [List.map_cons, List.flatten_cons, List.length_append, List.length_cons, List.length_nil] at h1 ⊢
    rw [Nat.add_mul]
    omega

/-- Cells of a block from one on are written. -/
def putL (w : World) (b : Nat) : Nat → List Value → World
  | _, [] => w
  | o, v :: vs => putL (w.setCell ⟨b, o, none⟩ v) b (o + 1) vs

theorem putL_size (b : Nat) : ∀ (vs : List Value) (o : Nat) (w : World), (putL w b o vs).heap.size = w.heap.size
  | [], _, _ => rfl
  | v :: vs, o, w => by
    show (putL (w.setCell ⟨b, o, none⟩ v) b (o + 1) vs).heap.size = _
    rw [putL_size b vs]
    simp [World.setCell]

theorem putL_other (b : Nat) : ∀ (vs : List Value) (o : Nat) (w : World) (i : Nat), i ≠ b → (putL w b o vs).heap[i]? = w.heap[i]?
  | [], _, _, _, _ => rfl
  | v :: vs, o, w, i, h => by
    show (putL (w.setCell ⟨b, o, none⟩ v) b (o + 1) vs).heap[i]? = _
    rw [putL_other b vs _ _ i h]
    exact Below.heap_setCell w ⟨b, o, none⟩ v i h

theorem putL_bel (b : Nat) : ∀ (vs : List Value) (o : Nat) (w : World), Below b w (putL w b o vs)
  | [], _, w => Below.refl _ _
  | v :: vs, o, w => ((Below.refl b w).setCell (p := ⟨b, o, none⟩) (Nat.le_refl _) v).trans (putL_bel b vs (o + 1) _)

theorem set_here {w : World} {b : Nat} {cs : Array Value} {t : TypeId} (h : w.heap[b]? = some (.cells cs t (0, 0))) (o : Nat) (v : Value) : (w.setCell ⟨b, o, none⟩ v).heap[b]? = some (.cells (cs.setIfInBounds o v) t (0, 0)) := by
  simp [World.setCell, Array.getElem?_modify, h]

def setL (cs : Array Value) : Nat → List Value → Array Value
  | _, [] => cs
  | o, v :: vs => setL (cs.setIfInBounds o v) (o + 1) vs

theorem putL_here {b : Nat} {t : TypeId} : ∀ (vs : List Value) (o : Nat) (w : World) (cs : Array Value), w.heap[b]? = some (.cells cs t (0, 0)) → (putL w b o vs).heap[b]? = some (.cells (setL cs o vs) t (0, 0))
  | [], _, _, _, h => h
  | v :: vs, o, w, cs, h => putL_here vs (o + 1) _ _ (set_here h o v)

/-- What is allowed and isn't that block stays. -/
theorem Keep.put {A A' : Nat → Prop} {w w' : World} (k : Keep A A' w w') (b o : Nat) (vs : List Value) (hb : ∀ i, A' i → i ≠ b) : Keep A A' w (putL w' b o vs) :=
  ⟨by rw [putL_size]; exact k.1, fun i hA hi => ⟨(k.2 i hA hi).1, (putL_other b vs o w' i (hb i (k.2 i hA hi).1)).trans (k.2 i hA hi).2⟩⟩
end Go.Proofs.YthbbapimedlocaaGreatDoor
