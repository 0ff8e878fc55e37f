/-
  What is proved here: what the texts HData, TApp, BDraw prove, in one text.
-/
import Derived.Test.YtbjkpbeijkmoeaaGreatDoorQBAD
import Derived.Deep.AppendLies
import Derived.Laws.OwnMore
import Derived.Sort.Grow
namespace Go.Proofs.YtbjkpbeijkmoeaaGreatDoor
open Go.RowKit
set_option linter.unusedVariables false

/-- A property by what it holds. -/
structure AP where
  name : ByteArray
  t : T

/-- A node by what it holds. -/
structure AN where
  id : Int
  labs : List ByteArray
  props : List AP

/-- An edge by what it holds. -/
structure AE where
  id : Int
  frm : Int
  dst : Int
  typ : ByteArray
  props : List AP

/-- Two lists, one by one. -/
def Pair2 {α β : Type} (R : α → β → Prop) (P : List α) (L : List β) : Prop := P.length = L.length ∧ ∀ (i : Nat) p x, P[i]? = some p → L[i]? = some x → R p x

theorem Pair2.nil {α β : Type} {R : α → β → Prop} : Pair2 R [] [] := ⟨rfl, fun i p x h => by simp at h⟩

theorem Pair2.mono {α β : Type} {R R' : α → β → Prop} {P : List α} {L : List β} (h : Pair2 R P L) (m : ∀ p x, p ∈ P → x ∈ L → R p x → R' p x) : Pair2 R' P L :=
  ⟨h.1, fun i p x hp hx => m p x (List.mem_of_getElem? hp) (List.mem_of_getElem? hx) (h.2 i p x hp hx)⟩

theorem Pair2.snoc {α β : Type} {R : α → β → Prop} {P : List α} {L : List β} (h : Pair2 R P L) {p : α} {x : β} (hR : R p x) : Pair2 R (P ++ [p]) (L ++ [x]) := by
  refine ⟨by simp [h.1], fun i q y hq hy => ?_⟩
  rcases Nat.lt_or_ge i P.length with hi | hi
  · rw [List.getElem?_append_left hi] at hq
    rw [List.getElem?_append_left (by rw [← h.1]; exact hi)] at hy
    exact h.2 i q y hq hy
  · rw [List.getElem?_append_right hi] at hq
    rw [List.getElem?_append_right (by rw [← h.1]; exact hi), ← h.1] at hy
    cases hk : i - P.length with
    | zero =>
      rw [hk] at hq hy
      simp at hq hy
      rw [← hq, ← hy]
      exact hR
    | succ k => rw [hk] at hq; simp at hq

theorem Pair2.right {α β : Type} {R : α → β → Prop} {P : List α} {L : List β} (h : Pair2 R P L) {i : Nat} {x : β} (hx : L[i]? = some x) : ∃ p, P[i]? = some p ∧ R p x := by
  have hi : i < P.length := by rw [h.1]; exact (List.getElem?_eq_some_iff.1 hx).1
  exact ⟨P[i], List.getElem?_eq_getElem hi, h.2 i _ _ (List.getElem?_eq_getElem hi) hx⟩

theorem Pair2.left {α β : Type} {R : α → β → Prop} {P : List α} {L : List β} (h : Pair2 R P L) {i : Nat} {p : α} (hp : P[i]? = some p) : ∃ x, L[i]? = some x ∧ R p x := by
  have hi : i < L.length := by rw [← h.1]; exact (List.getElem?_eq_some_iff.1 hp).1
  exact ⟨L[i], List.getElem?_eq_getElem hi, h.2 i _ _ hp (List.getElem?_eq_getElem hi)⟩

theorem pair_choose {α β : Type} {R : α → β → Prop} : ∀ (P : List α), (∀ p ∈ P, ∃ x, R p x) → ∃ L, Pair2 R P L
  | [], _ => ⟨[], Pair2.nil⟩
  | p :: P, h => by
    obtain ⟨x, hx⟩ := h p (List.mem_cons_self ..)
    obtain ⟨L, hL⟩ := pair_choose P (fun q hq => h q (List.mem_cons_of_mem _ hq))
    refine ⟨x :: L, by simp [hL.1], fun i q y hq hy => ?_⟩
    cases i with
    | zero =>
      simp at hq hy
      rw [← hq, ← hy]
      exact hx
    | succ i => exact hL.2 i q y (by simpa using hq) (by simpa using hy)

def AnyB : Nat → Prop := fun _ => True

mutual
theorem LiesT.lie {w : World} : ∀ (t : T) (b off : Nat), LiesT w t b off → LieT AnyB w t b off
  | .node k n s L, b, off, h => by
    unfold LiesT at h
    unfold LieT
    obtain ⟨hs, a, l, c, h0, h1, h2, h3, h4, hL⟩ := h
    exact ⟨hs, a, l, c, h0, h1, h2, h3, h4, LiesS.lie L a l hL⟩
theorem LiesS.lie {w : World} : ∀ (L : List T) (a : Option Addr) (l : Nat), LiesS w L a l → LieA AnyB w L a l
  | [], _, _, h => by unfold LiesS at h; unfold LieA; exact h
  | t :: ts, a, l, h => by
    unfold LiesS at h
    unfold LieA
    obtain ⟨b, off, h1, h2, h3, h4, h5, h6⟩ := h
    exact ⟨b, off, h1, h2, h3, trivial, h4, LiesT.lie t b off h5, LiesS.lie ts _ _ h6⟩
end

/-- What is kept of the blocks that A allows. -/
def Keep (A A' : Nat → Prop) (w w' : World) : Prop := w.heap.size ≤ w'.heap.size ∧ ∀ i, A i → i < w.heap.size → A' i ∧ w'.heap[i]? = w.heap[i]?

theorem Keep.of_below {w w' : World} (k : Below w.heap.size w w') (A : Nat → Prop) : Keep A A w w' := ⟨k.size, fun i hA hi => ⟨hA, k.block i hi⟩⟩

theorem Keep.weak {A A' : Nat → Prop} (w : World) (h : ∀ i, A i → i < w.heap.size → A' i) : Keep A A' w w := ⟨Nat.le_refl _, fun i hA hi => ⟨h i hA hi, rfl⟩⟩

theorem Keep.trans {A A' A'' : Nat → Prop} {w w' w'' : World} (h : Keep A A' w w') (k : Keep A' A'' w' w'') : Keep A A'' w w'' :=
  ⟨Nat.le_trans h.1 k.1, fun i hA hi => by
    obtain ⟨h1, h2⟩ := h.2 i hA hi
    obtain ⟨k1, k2⟩ := k.2 i h1 (Nat.lt_of_lt_of_le hi h.1)
    exact ⟨k1, k2.trans h2⟩⟩

/-- A property's memory holds x, its value's lists in blocks that A allows. -/
def PrIn (A : Nat → Prop) (w : World) (p : Pr) (x : AP) : Prop :=
  p.name = x.name ∧ p.name.size ≤ 9223372036854775807 ∧ p.s.size ≤ 9223372036854775807 ∧ p.l ≤ p.c ∧ ∃ Lt, x.t = .node p.k p.n p.s Lt ∧ LieA A w Lt p.a p.l

theorem PrIn.kept {A A' : Nat → Prop} {w w' : World} {p : Pr} {x : AP} (h : PrIn A w p x) (k : Keep A A' w w') : PrIn A' w' p x := by
  obtain ⟨h1, h2, h3, h4, Lt, h5, h6⟩ := h
  exact ⟨h1, h2, h3, h4, Lt, h5, LieA.kept k.1 k.2 _ _ _ h6⟩

theorem PrIn.any {A : Nat → Prop} {w : World} {p : Pr} {x : AP} (h : PrIn A w p x) : PrIn AnyB w p x := h.kept (Keep.weak w fun _ _ _ => trivial)

theorem PrIn.below {w w' : World} {p : Pr} {x : AP} (h : PrIn AnyB w p x) (k : Below w.heap.size w w') : PrIn AnyB w' p x := h.kept (Keep.of_below k _)

def strs (L : List ByteArray) : List Value := L.map (fun s => .string s)

def Pr.cells (p : Pr) : List Value := [.string p.name, .int .i64 p.k, .int .i64 p.n, .string p.s, .slice p.a p.l p.c]
def rowP (P : List Pr) : List Value := (P.map Pr.cells).flatten

theorem rowP_snoc (P : List Pr) (p : Pr) : rowP (P ++ [p]) = rowP P ++ p.cells := by simp [rowP]

def Nd.cells (x : Nd) : List Value := [.int .i64 x.id, .slice x.la x.ll x.lc, .slice x.pa x.pl x.pc]
def rowN (N : List Nd) : List Value := (N.map Nd.cells).flatten

theorem rowN_snoc (N : List Nd) (x : Nd) : rowN (N ++ [x]) = rowN N ++ x.cells := by simp [rowN]

def Ed.cells (x : Ed) : List Value := [.int .i64 x.id, .int .i64 x.frm, .int .i64 x.dst, .string x.typ, .slice x.pa x.pl x.pc]
def rowX (E : List Ed) : List Value := (E.map Ed.cells).flatten

theorem rowX_snoc (E : List Ed) (x : Ed) : rowX (E ++ [x]) = rowX E ++ x.cells := by simp [rowX]

theorem flat_get {α : Type} (f : α → List Value) (k : Nat) (hk : ∀ x, (f x).length = k) : ∀ (L : List α) (i j : Nat) (x : α) (u : Value), L[i]? = some x → (f x)[j]? = some u → (L.map f).flatten[i * k + j]? = some u
  | [], i, j, x, u, h, _ => by simp at h
  | y :: L, 0, j, x, u, h, hu => by
    simp at h
    subst h
    have hj : j < (f y).length := (List.getElem?_eq_some_iff.1 hu).1
    simp only [List.map_cons, List.flatten_cons, Nat.zero_mul, Nat.zero_add]
    rw [List.getElem?_append_left hj]
    exact hu
  | y :: L, i + 1, j, x, u, h, hu => by
    simp only [List.map_cons, List.flatten_cons]
    have e : (i + 1) * k + j = (f y).length + (i * k + j) := by rw [hk, Nat.add_mul]; omega
    rw [e, List.getElem?_append_right (Nat.le_add_right _ _), Nat.add_sub_cancel_left]
    exact flat_get f k hk L i j x u (by simpa using h) hu

/-- A row of the call's own: where it lies. -/
theorem row_at {w : World} {B n size : Nat} {e : TypeId} {a : Option Addr} {l c : Nat} {xs : List Value} (h : w.ownsRow B e size (.slice a l c) n xs) (hn : 0 < n) : ∃ g, a = some ⟨g, 0, none⟩ ∧ l = n ∧ B ≤ g ∧ g < w.heap.size ∧ ∀ j u, xs[j]? = some u → w.cell? ⟨g, 0 + j, none⟩ = some u := by
  obtain ⟨g, cap, hv, hb, hg⟩ := h.form hn
  injection hv with h1 h2 h3
  subst h1 h2 h3
  refine ⟨g, rfl, rfl, hb, hg, fun j u hu => ?_⟩
  have hc := h.cells (g := g) rfl j u hu
  by_cases h0 : j = 0
  · subst h0; simpa [Addr.add] using hc
  · simpa [Addr.add, h0] using hc

theorem row_len {w : World} {B n size : Nat} {e : TypeId} {a : Option Addr} {l c : Nat} {xs : List Value} (h : w.ownsRow B e size (.slice a l c) n xs) : l = n ∧ l ≤ c ∧ n ≤ 9223372036854775807 := by
  have hm : maxLen ≤ 9223372036854775807 := by unfold maxLen; decide
  rcases h.2 with ⟨h0, h1⟩ | ⟨g, cap, cur, h0, h1, h2, h3, h4, _⟩
  · injection h0 with _ h2 h3
    subst h2 h3
    exact ⟨h1.symm, Nat.le_refl _, by omega⟩
  · injection h0 with _ h5 h6
    subst h5 h6
    exact ⟨rfl, h3, by omega⟩

theorem row_strs {w : World} {B : Nat} {a : Option Addr} {l c : Nat} {L : List ByteArray} (h : w.ownsRow B 9 1 (.slice a l c) L.length (strs L)) (hs : ∀ s ∈ L, s.size ≤ 9223372036854775807) : StrsAt w L a l := by
  obtain ⟨h1, _, h2⟩ := row_len h
  refine ⟨h1, by omega, fun h0 => ?_⟩
  obtain ⟨g, ha, _, _, hg, hc⟩ := row_at h (by omega)
  exact ⟨g, 0, ha, hg, fun i s hi => ⟨hs s (List.mem_of_getElem? hi), hc i _ (by rw [strs, List.getElem?_map, hi]; rfl)⟩⟩

/-- A row stays where its block stays. -/
theorem row_keep {w w' : World} {B n size : Nat} {e : TypeId} {v : Value} {xs : List Value} (h : w.ownsRow B e size v n xs) (hk : ∀ g, v.ownBlock = some g → g < w.heap.size → w'.heap[g]? = w.heap[g]?) : w'.ownsRow B e size v n xs := by
  refine ⟨h.1, ?_⟩
  rcases h.2 with h0 | ⟨g, cap, cur, h0, h1, h2, h3⟩
  · exact .inl h0
  · refine .inr ⟨g, cap, cur, h0, h1, ?_, h3⟩
    rw [hk g (by rw [h0]; rfl) (Array.getElem?_eq_some_iff.1 h2).1]
    exact h2

/-- The block of a value, if it has one, is allowed. -/
def OwnB (A : Nat → Prop) (v : Value) : Prop := ∀ g, v.ownBlock = some g → A g

/-- A node that may be read. -/
def NdIn (w : World) (y : Nd) (X : AN) : Prop := y.id = X.id ∧ y.labs = X.labs ∧ StrsAt w y.labs y.la y.ll ∧ PropsAt w y.props y.pa y.pl ∧ Pair2 (PrIn AnyB w) y.props X.props
def EdIn (w : World) (y : Ed) (X : AE) : Prop := y.id = X.id ∧ y.frm = X.frm ∧ y.dst = X.dst ∧ y.typ = X.typ ∧ y.typ.size ≤ 9223372036854775807 ∧ PropsAt w y.props y.pa y.pl ∧ Pair2 (PrIn AnyB w) y.props X.props

theorem NdIn.below {w w' : World} {y : Nd} {X : AN} (h : NdIn w y X) (k : Below w.heap.size w w') : NdIn w' y X :=
  ⟨h.1, h.2.1, h.2.2.1.below k, h.2.2.2.1.below k, h.2.2.2.2.mono fun p x _ _ hp => hp.below k⟩

theorem EdIn.below {w w' : World} {y : Ed} {X : AE} (h : EdIn w y X) (k : Below w.heap.size w w') : EdIn w' y X :=
  ⟨h.1, h.2.1, h.2.2.1, h.2.2.2.1, h.2.2.2.2.1, h.2.2.2.2.2.1.below k, h.2.2.2.2.2.2.mono fun p x _ _ hp => hp.below k⟩

/-- Properties, nodes, edges that may be read through a slice. -/
def PsAt (w : World) (X : List AP) (a : Option Addr) (l : Nat) : Prop := ∃ P, PropsAt w P a l ∧ Pair2 (PrIn AnyB w) P X
def NsAt (w : World) (X : List AN) (a : Option Addr) (l : Nat) : Prop := ∃ N, NodesAt w N a l ∧ Pair2 (NdIn w) N X
def EsAt (w : World) (X : List AE) (a : Option Addr) (l : Nat) : Prop := ∃ E, EdgesAt w E a l ∧ Pair2 (EdIn w) E X

theorem PsAt.below {w w' : World} {X : List AP} {a : Option Addr} {l : Nat} (h : PsAt w X a l) (k : Below w.heap.size w w') : PsAt w' X a l := by
  obtain ⟨N, h1, h2⟩ := h
  exact ⟨N, h1.below k, h2.mono fun p x _ _ hp => hp.below k⟩

theorem NsAt.below {w w' : World} {X : List AN} {a : Option Addr} {l : Nat} (h : NsAt w X a l) (k : Below w.heap.size w w') : NsAt w' X a l := by
  obtain ⟨N, h1, h2⟩ := h
  exact ⟨N, h1.below k, h2.mono fun p x _ _ hp => hp.below k⟩

theorem EsAt.below {w w' : World} {X : List AE} {a : Option Addr} {l : Nat} (h : EsAt w X a l) (k : Below w.heap.size w w') : EsAt w' X a l := by
  obtain ⟨N, h1, h2⟩ := h
  exact ⟨N, h1.below k, h2.mono fun p x _ _ hp => hp.below k⟩

/-- Two lists one by one, each pair in blocks of its own among those that A allows. -/
def PairD {α β : Type} (R : (Nat → Prop) → α → β → Prop) (A : Nat → Prop) (P : List α) (L : List β) : Prop :=
  P.length = L.length ∧ ∃ As : Nat → Nat → Prop, (∀ (i : Nat) p x, P[i]? = some p → L[i]? = some x → R (As i) p x) ∧ (∀ i b, As i b → A b) ∧ ∀ i j b, As i b → As j b → i = j

theorem PairD.nil {α β : Type} {R : (Nat → Prop) → α → β → Prop} {A : Nat → Prop} : PairD R A [] [] := ⟨rfl, fun _ _ => False, fun i p x h => by simp at h, fun _ _ h => h.elim, fun _ _ _ h => h.elim⟩

theorem PairD.pair {α β : Type} {R : (Nat → Prop) → α → β → Prop} {A : Nat → Prop} {P : List α} {L : List β} (h : PairD R A P L) (m : ∀ (B B' : Nat → Prop) p x, (∀ b, B b → B' b) → R B p x → R B' p x) : Pair2 (R A) P L := by
  obtain ⟨h1, As, h2, h3, h4⟩ := h
  exact ⟨h1, fun i p x hp hx => m _ _ p x (h3 i) (h2 i p x hp hx)⟩

/-- Each pair is carried over, its blocks among those that A' allows. -/
theorem PairD.carry {α β : Type} {R R' : (Nat → Prop) → α → β → Prop} {A A' : Nat → Prop} {P : List α} {L : List β} (h : PairD R A P L) (Z : Nat → Prop) (m : ∀ (B : Nat → Prop) p x, (∀ b, B b → A b) → R B p x → R' (fun b => B b ∧ Z b) p x) (hA : ∀ b, A b → Z b → A' b) : PairD R' A' P L := by
  obtain ⟨h1, As, h2, h3, h4⟩ := h
  exact ⟨h1, fun i b => As i b ∧ Z b, fun i p x hp hx => m _ p x (h3 i) (h2 i p x hp hx), fun i b hb => hA b (h3 i b hb.1) hb.2, fun i j b hi hj => h4 i j b hi.1 hj.1⟩

theorem PairD.snoc {α β : Type} {R : (Nat → Prop) → α → β → Prop} {A A' B : Nat → Prop} {P : List α} {L : List β} (h : PairD R A P L) {p : α} {x : β} (hR : R B p x) (hA : ∀ b, A b → A' b) (hB : ∀ b, B b → A' b) (hd : ∀ b, A b → ¬ B b) : PairD R A' (P ++ [p]) (L ++ [x]) := by
  obtain ⟨h1, As, h2, h3, h4⟩ := h
  refine ⟨by simp [h1], fun i => if i < P.length then As i else if i = P.length then B else fun _ => False, fun i q y hq hy => ?_, fun i b hb => ?_, fun i j b hi hj => ?_⟩
  · rcases Nat.lt_trichotomy i P.length with hi | hi | hi
    · simp only [if_pos hi]
      rw [List.getElem?_append_left hi] at hq
      rw [List.getElem?_append_left (by omega)] at hy
      exact h2 i q y hq hy
    · subst hi
      simp only [Nat.lt_irrefl, if_false, if_true]
      rw [List.getElem?_append_right (Nat.le_refl _), Nat.sub_self] at hq
      rw [h1, List.getElem?_append_right (Nat.le_refl _), Nat.sub_self] at hy
      injection hq with hq
      injection hy with hy
      subst hq hy
      exact hR
    · rw [List.getElem?_eq_none (by simp; omega)] at hq
      cases hq
  · dsimp only at hb
    split at hb
    · exact hA b (h3 i b hb)
    · split at hb
      · exact hB b hb
      · exact hb.elim
  · dsimp only at hi hj
    split at hi
    · split at hj
      · exact h4 i j b hi hj
      · split at hj
        · exact absurd hj (hd b (h3 i b hi))
        · exact hj.elim
    · split at hi
      · split at hj
        · exact absurd hi (hd b (h3 j b hj))
        · split at hj
          · omega
          · exact hj.elim
      · exact hi.elim

theorem PairD.erase {α β : Type} {R : (Nat → Prop) → α → β → Prop} {A : Nat → Prop} {P : List α} {L : List β} (h : PairD R A P L) (i : Nat) : PairD R A (P.eraseIdx i) (L.eraseIdx i) := by
  obtain ⟨h1, As, h2, h3, h4⟩ := h
  refine ⟨by rw [List.length_eraseIdx, List.length_eraseIdx, h1], fun j => if j < i then As j else As (j + 1), fun j p x hp hx => ?_, fun j b hb => ?_, fun j k b hj hk => ?_⟩
  · rw [List.getElem?_eraseIdx] at hp hx
    split at hp
    · rename_i hj
      rw [if_pos hj] at hx
      simp only [if_pos hj]
      exact h2 j p x hp hx
    · rename_i hj
      rw [if_neg hj] at hx
      simp only [if_neg hj]
      exact h2 (j + 1) p x hp hx
  · dsimp only at hb
    split at hb
    · exact h3 j b hb
    · exact h3 (j + 1) b hb
  · dsimp only at hj hk
    split at hj <;> split at hk <;> have := h4 _ _ b hj hk <;> omega

/-- One pair is another one, in its old blocks and in new ones. -/
theorem PairD.set {α β : Type} {R R' : (Nat → Prop) → α → β → Prop} {A A' : Nat → Prop} {P : List α} {L : List β} (h : PairD R A P L) {i : Nat} {p : α} {x : β} (hp : P[i]? = some p) (hx : L[i]? = some x) (N : Nat → Prop) (hN : ∀ b, A b → ¬ N b) (hA : ∀ b, A b → A' b) (hNA : ∀ b, N b → A' b) (p' : α) (x' : β)
    (one : ∀ B : Nat → Prop, (∀ b, B b → A b) → R B p x → R' (fun b => B b ∨ N b) p' x')
    (other : ∀ (B C : Nat → Prop) q y, (∀ b, B b → A b) → (∀ b, C b → A b) → (∀ b, B b → ¬ C b) → R C p x → R B q y → R' B q y) : PairD R' A' (P.set i p') (L.set i x') := by
  obtain ⟨h1, As, h2, h3, h4⟩ := h
  have hi : i < P.length := (List.getElem?_eq_some_iff.1 hp).1
  refine ⟨by simp [h1], fun j b => As j b ∨ (j = i ∧ N b), fun j q y hq hy => ?_, fun j b hb => ?_, fun j k b hj hk => ?_⟩
  · rw [List.getElem?_set] at hq hy
    by_cases hij : i = j
    · subst hij
      rw [if_pos rfl, if_pos hi] at hq
      rw [if_pos rfl, if_pos (by omega)] at hy
      injection hq with hq
      injection hy with hy
      subst hq hy
      have := one (As i) (h3 i) (h2 i p x hp hx)
      simpa using this
    · rw [if_neg hij] at hq hy
      have := other (As j) (As i) q y (h3 j) (h3 i) (fun b hb hb' => hij (h4 i j b hb' hb)) (h2 i p x hp hx) (h2 j q y hq hy)
      have e : (fun b => As j b ∨ (j = i ∧ N b)) = As j := by
        funext b
        have : ¬ j = i := fun e => hij e.symm
        simp [this]
      show R' (fun b => As j b ∨ (j = i ∧ N b)) q y
      rw [e]
      exact this
  · rcases hb with hb | hb
    · exact hA b (h3 j b hb)
    · exact hNA b hb.2
  · rcases hj with hj | hj
    · rcases hk with hk | hk
      · exact h4 j k b hj hk
      · exact absurd hk.2 (hN b (h3 j b hj))
    · rcases hk with hk | hk
      · exact absurd hj.2 (hN b (h3 k b hk))
      · exact hj.1.trans hk.1.symm

theorem slice_of_row {w : World} {B n size : Nat} {e : TypeId} {v : Value} {xs : List Value} (h : w.ownsRow B e size v n xs) : ∃ a c, v = .slice a n c ∧ n ≤ c := by
  rcases h.2 with ⟨h0, h1⟩ | ⟨g, cap, cur, h0, h1, h2, h3, _⟩
  · exact ⟨none, 0, by rw [h0, h1], by omega⟩
  · exact ⟨_, cap, h0, h3⟩

section
variable {P : Program} (w : World)

theorem run_append_both (t ty : TypeId) (base : Nat) (e : TypeId) (i : TypeInfo) (z : Value) (size bytes : Nat) (ht : P.underlying t = some (.slice e)) (hi : P.info? e = some i) (hz : i.zero = some z)
    (hsize : i.size = size) (hby : i.bytes = bytes) (hzs : z.cells.size = size) (hsz : 0 < size)
    (v : Value) (n : Nat) (xs : List Value) (hown : w.ownsRow base e size v n xs)
    (ax : Option Addr) (m c : Nat) (news : List Value) (hl : news.length = m * size) (hnews : ∀ j u, news[j]? = some u → ∃ ad, ax = some ad ∧ w.cell? (ad.add j) = some u) (h1 : ∀ u ∈ news, u.oneCell' = true)
    (h63 : n + m ≤ maxLen) (hbytes : (n + m) * bytes ≤ 140737488355328) (hbase : base ≤ w.heap.size) :
    ∃ v' w', (Builtin.append_ #[t, t] ty #[v, .slice ax m c]).run P w = .ok v' w' ∧
      w'.ownsRow base e size v' (n + m) (xs ++ news) ∧ w.grownBy w' v.ownBlock ∧ (v'.ownBlock = v.ownBlock ∨ v'.ownBlock = some w.heap.size) := by
  cases ax with
  | some ad =>
    obtain ⟨v', w', hr, h2, h3, _, h5⟩ := run_append_own_at (P := P) w base t ty e i z size bytes ht hi hz hsize hby hzs hsz v n xs hown ad m c news hl (fun j u hu => by
      obtain ⟨ad', e1, e2⟩ := hnews j u hu
      cases e1
      exact e2) h1 h63 hbytes hbase
    exact ⟨v', w', hr, h2, h3, h5⟩
  | none =>
    have hn : news = [] := by
      cases news with
      | nil => rfl
      | cons u us =>
        obtain ⟨_, e1, _⟩ := hnews 0 u rfl
        cases e1
    subst hn
    have hm : m = 0 := by
      rcases Nat.eq_zero_or_pos m with h | h
      · exact h
      · have := Nat.mul_pos h hsz
        simp at hl
        omega
    subst hm
    refine ⟨v, w, ?_, by simpa using hown, ⟨rfl, rfl, rfl, Nat.le_refl _, fun _ _ _ => rfl⟩, .inl rfl⟩
    rcases hown.2 with ⟨rfl, rfl⟩ | ⟨g, cap, cur, rfl, _, _, hnc, _⟩
    · simp [Builtin.append_, run_underlying ht, sizeOf, typeInfo, hi, Builtin.lenOf, Builtin.firstCells]
    · simp [Builtin.append_, run_underlying ht, sizeOf, typeInfo, hi, Builtin.lenOf, Builtin.firstCells, hnc, storeCells]

theorem wp_append_both {o : Oper} {a : Act} {K : Act → World → Prop} {Q : Exit → Act → World → Prop} (s x : Operand) (t : TypeId)
    (ho : o.op = .call { callee := .builtin .append, args := #[s, x], argTypes := #[t, t] })
    (base : Nat) (e : TypeId) (i : TypeInfo) (z : Value) (size bytes : Nat) (ht : P.underlying t = some (.slice e)) (hi : P.info? e = some i) (hz : i.zero = some z)
    (hsize : i.size = size) (hby : i.bytes = bytes) (hzs : z.cells.size = size) (hsz : 0 < size)
    (v : Value) (n : Nat) (xs : List Value) (hs : a.eval s = v) (hown : w.ownsRow base e size v n xs)
    (ax : Option Addr) (m c : Nat) (news : List Value) (hx : a.eval x = .slice ax m c) (hl : news.length = m * size) (hnews : ∀ j u, news[j]? = some u → ∃ ad, ax = some ad ∧ w.cell? (ad.add j) = some u) (h1 : ∀ u ∈ news, u.oneCell' = true)
    (h63 : n + m ≤ maxLen) (hbytes : (n + m) * bytes ≤ 140737488355328) (hbase : base ≤ w.heap.size)
    (h : ∀ v' w', w'.ownsRow base e size v' (n + m) (xs ++ news) → w.grownBy w' v.ownBlock → (v'.ownBlock = v.ownBlock ∨ v'.ownBlock = some w.heap.size) → K (a.put o.dst v') w') : o.wp P a w K Q := by
  obtain ⟨v', w', hr, h2, h3, h4⟩ := run_append_both (P := P) w t o.type base e i z size bytes ht hi hz hsize hby hzs hsz v n xs hown ax m c news hl hnews h1 h63 hbytes hbase
  unfold Oper.wp execOp
  simp only [ho, resolve, invoke, builtin, Sem.run_bind, Sem.run_pure, Result.andThen_ok, List.map_toArray, List.map_cons, List.map_nil, hs, hx, hr]
  exact h v' w' h2 h3 h4

theorem wpList_append_both {ops : Array Oper} {rest : List Oper} {o : Oper} {a : Act} {Q : Exit → Act → World → Prop} (hgd : o.guard = none) (s x : Operand) (t : TypeId)
    (ho : o.op = .call { callee := .builtin .append, args := #[s, x], argTypes := #[t, t] })
    (base : Nat) (e : TypeId) (i : TypeInfo) (z : Value) (size bytes : Nat) (ht : P.underlying t = some (.slice e)) (hi : P.info? e = some i) (hz : i.zero = some z)
    (hsize : i.size = size) (hby : i.bytes = bytes) (hzs : z.cells.size = size) (hsz : 0 < size)
    (v : Value) (n : Nat) (xs : List Value) (hs : a.eval s = v) (hown : w.ownsRow base e size v n xs)
    (ax : Option Addr) (m c : Nat) (news : List Value) (hx : a.eval x = .slice ax m c) (hl : news.length = m * size) (hnews : ∀ j u, news[j]? = some u → ∃ ad, ax = some ad ∧ w.cell? (ad.add j) = some u) (h1 : ∀ u ∈ news, u.oneCell' = true)
    (h63 : n + m ≤ maxLen) (hbytes : (n + m) * bytes ≤ 140737488355328) (hbase : base ≤ w.heap.size)
    (h : ∀ v' w', w'.ownsRow base e size v' (n + m) (xs ++ news) → w.grownBy w' v.ownBlock → (v'.ownBlock = v.ownBlock ∨ v'.ownBlock = some w.heap.size) → wpList P ops Q rest (a.put o.dst v') w') : wpList P ops Q (o :: rest) a w :=
  wpList_plain hgd fun _ hK => wp_append_both w s x t ho base e i z size bytes ht hi hz hsize hby hzs hsz v n xs hs hown ax m c news hx hl hnews h1 h63 hbytes hbase fun v' w' h2 h3 h4 => hK _ _ (h v' w' h2 h3 h4)

theorem step_append_both {ops : Array Oper} {o : Oper} {a : Act} {K : Act → World → Prop} {Q : Exit → Act → World → Prop} {E : Prop} (hgd : o.guard = none) (s x : Operand) (t : TypeId)
    (ho : o.op = .call { callee := .builtin .append, args := #[s, x], argTypes := #[t, t] })
    (base : Nat) (e : TypeId) (i : TypeInfo) (z : Value) (size bytes : Nat) (ht : P.underlying t = some (.slice e)) (hi : P.info? e = some i) (hz : i.zero = some z)
    (hsize : i.size = size) (hby : i.bytes = bytes) (hzs : z.cells.size = size) (hsz : 0 < size)
    (v : Value) (n : Nat) (xs : List Value) (hs : a.eval s = v) (hown : w.ownsRow base e size v n xs)
    (ax : Option Addr) (m c : Nat) (news : List Value) (hx : a.eval x = .slice ax m c) (hl : news.length = m * size) (hnews : ∀ j u, news[j]? = some u → ∃ ad, ax = some ad ∧ w.cell? (ad.add j) = some u) (h1 : ∀ u ∈ news, u.oneCell' = true)
    (h63 : n + m ≤ maxLen) (hbytes : (n + m) * bytes ≤ 140737488355328) (hbase : base ≤ w.heap.size)
    (h : ∀ v' w', w'.ownsRow base e size v' (n + m) (xs ++ news) → w.grownBy w' v.ownBlock → (v'.ownBlock = v.ownBlock ∨ v'.ownBlock = some w.heap.size) → K (a.put o.dst v') w') :
    if Region.wanted o (yielded ops a.tmps) = true then Oper.wp P o a w K Q else E := by
  have hw : Region.wanted o (yielded ops a.tmps) = true := by simp [Region.wanted, hgd]
  rw [if_pos hw]
  exact wp_append_both w s x t ho base e i z size bytes ht hi hz hsize hby hzs hsz v n xs hs hown ax m c news hx hl hnews h1 h63 hbytes hbase h

end

set_option linter.unusedSimpArgs false

theorem ask_draws {α : Type} : ∀ (k : Ask α) (w : World), w.drawn ≤ (w.ask k).2.drawn
  | .done a, w => by unfold World.ask; exact Nat.le_refl _
  | .ask what range k, w => by
    unfold World.ask
    simp only
    split
    · exact ask_draws (k 0) w
    · refine Nat.le_trans ?_ (ask_draws _ _)
      exact Nat.le_succ _

theorem sys_draws (w : World) (c : Sys) : w.drawn ≤ (w.sys c).2.drawn := by
  have h := ask_draws (Kernel.perform c w.os) w
  unfold World.sys
  split
  · exact Nat.le_refl _
  · rename_i r os w' e1 e2
    rw [e2] at h
    exact h

theorem far_draws {p : Program} {w w' : World} {a : Addr} {v : Value} {b : Bool} {l : List Addr} (h : w.farStore p a v b = .ok (w', l)) : w'.drawn = w.drawn := by
  unfold World.farStore at h
  split at h
  · split at h
    · rename_i r hr
      injection h with h
      subst h
      unfold World.viewStore at hr
      simp only [bind, Except.bind, pure, Except.pure] at hr
      repeat' (split at hr)
      all_goals first
        | (injection hr with hr; injection hr with h1 h2; rw [← h1])
        | cases hr
    · cases h
  · cases h

theorem sem_draws {α : Type} (p : Program) : ∀ (s : Sem α) (w : World) (v : α) (w' : World), s.run p w = .ok v w' → w.drawn ≤ w'.drawn
  | .pure a, w, v, w', h => by
    unfold Sem.run at h
    injection h with h1 h2
    rw [h2]
    exact Nat.le_refl _
  | .load m a k, w, v, w', h => by
    unfold Sem.run at h
    split at h
    · exact sem_draws p _ w v w' h
    · split at h
      · exact sem_draws p _ w v w' h
      · cases h
  | .store m a u k, w, v, w', h => by
    have go : ∀ x : World, k.run p x = .ok v w' → x.drawn ≤ w'.drawn := fun x hx => sem_draws p k x v w' hx
    cases u
    all_goals
      simp only [Sem.run] at h
      first
        | cases h; done
        | (split at h
           · split at h
             · cases h
             · have h4 := go _ h; exact h4
           · split at h
             · rename_i w2 l hf
               have h2 := far_draws hf
               have h3 := go _ h
               omega
             · cases h)
  | .new o k, w, v, w', h => by
    unfold Sem.run at h
    have h4 := sem_draws p (k w.heap.size) _ v w' h
    exact h4
  | .shape r k, w, v, w', h => by
    unfold Sem.run at h
    exact sem_draws p _ w v w' h
  | .freeze a n k, w, v, w', h => by
    unfold Sem.run at h
    have h4 := sem_draws p k _ v w' h
    have h5 : (w.freeze a n).drawn = w.drawn := by
      unfold World.freeze
      first | rfl | (split <;> rfl)
    omega
  | .frozen a k, w, v, w', h => by
    unfold Sem.run at h
    exact sem_draws p _ w v w' h
  | .getObj r k, w, v, w', h => by
    unfold Sem.run at h
    split at h
    · cases h
    · exact sem_draws p _ w v w' h
    · cases h
  | .setObj r o k, w, v, w', h => by
    unfold Sem.run at h
    split at h
    · cases h
    · have h4 := sem_draws p k _ v w' h
      exact h4
    · cases h
  | .choose q k, w, v, w', h => by
    unfold Sem.run at h
    split at h
    · exact sem_draws p _ w v w' h
    · exact Nat.le_trans (Nat.le_succ _) (sem_draws p _ _ v w' h)
  | .sys c k, w, v, w', h => by
    unfold Sem.run at h
    exact Nat.le_trans (sys_draws w c) (sem_draws p _ _ v w' h)
  | .program k, w, v, w', h => by
    unfold Sem.run at h
    exact sem_draws p _ w v w' h
  | .mark m k, w, v, w', h => by
    unfold Sem.run at h
    exact sem_draws p k w v w' h
  | .halt e, w, v, w', h => by
    unfold Sem.run at h
    cases h

/-- Old blocks are as they were, and no draw is taken back. -/
structure BelD (B : Nat) (w w' : World) : Prop extends Below B w w' where
  drawn : w.drawn ≤ w'.drawn

theorem BelD.refl (B : Nat) (w : World) : BelD B w w := ⟨Below.refl _ _, Nat.le_refl _⟩
theorem BelD.trans {B : Nat} {a b c : World} (h : BelD B a b) (k : BelD B b c) : BelD B a c := ⟨h.toBelow.trans k.toBelow, Nat.le_trans h.drawn k.drawn⟩
theorem BelD.mono {B B' : Nat} {w w' : World} (h : BelD B w w') (hB : B' ≤ B) : BelD B' w w' := ⟨h.toBelow.mono hB, h.drawn⟩
theorem BelD.drew {B : Nat} {a w : World} (h : BelD B a w) : BelD B a w.drew := ⟨h.toBelow.drew, Nat.le_trans h.drawn (Nat.le_succ _)⟩
theorem BelD.alloc {B : Nat} {a w : World} (h : BelD B a w) (hB : B ≤ w.heap.size) (o : Obj) : BelD B a (w.alloc o) := ⟨h.toBelow.alloc hB o, h.drawn⟩
theorem BelD.setCell {B : Nat} {a w : World} (h : BelD B a w) {p : Addr} (hp : B ≤ p.block) (u : Value) : BelD B a (w.setCell p u) := ⟨h.toBelow.setCell hp u, h.drawn⟩
theorem BelD.grown {B : Nat} {a w w' : World} {row : Option Nat} (h : BelD B a w) (hg : w.grownBy w' row) (hd : w.drawn ≤ w'.drawn) (hB : B ≤ w.heap.size) (hr : ∀ k, row = some k → B ≤ k) : BelD B a w' := ⟨h.toBelow.grown hg hB hr, Nat.le_trans h.drawn hd⟩
theorem belD2 {w w1 w2 : World} (h : BelD w.heap.size w w1) (k : BelD w1.heap.size w1 w2) : BelD w.heap.size w w2 := h.trans (k.mono h.size)

/-- Such a world is the old one with new blocks behind it. -/
theorem BelD.grow {w w' : World} (h : BelD w.heap.size w w') : ∃ q os, w' = Sort.grow (w.drewN q) os := by
  refine ⟨w'.drawn - w.drawn, w'.heap.extract w.heap.size w'.heap.size, ?_⟩
  have e1 : w'.drawn = w.drawn + (w'.drawn - w.drawn) := by have := h.drawn; omega
  have e2 : w'.heap = w.heap ++ w'.heap.extract w.heap.size w'.heap.size := by
    apply Array.ext_getElem?
    intro i
    by_cases hi : i < w.heap.size
    · rw [Array.getElem?_append_left hi]
      exact h.block i hi
    · rw [Array.getElem?_append_right (by omega)]
      have hs := h.size
      rw [Array.getElem?_extract]
      split
      · congr 1
        omega
      · rw [Array.getElem?_eq_none (by omega)]
  have e3 := h.os
  have e4 := h.tape
  have e5 := h.output
  obtain ⟨hp, tp, dr, o, ou⟩ := w'
  obtain ⟨hp0, tp0, dr0, o0, ou0⟩ := w
  simp only at e1 e2 e3 e4 e5
  subst e3 e4 e5
  simp only [Sort.grow, World.drewN]
  congr 1

section
variable {P : Program} (w : World)
theorem wpList_append_bothD {ops : Array Oper} {rest : List Oper} {o : Oper} {a : Act} {Q : Exit → Act → World → Prop} (hgd : o.guard = none) (s x : Operand) (t : TypeId)
    (ho : o.op = .call { callee := .builtin .append, args := #[s, x], argTypes := #[t, t] })
    (base : Nat) (e : TypeId) (i : TypeInfo) (z : Value) (size bytes : Nat) (ht : P.underlying t = some (.slice e)) (hi : P.info? e = some i) (hz : i.zero = some z)
    (hsize : i.size = size) (hby : i.bytes = bytes) (hzs : z.cells.size = size) (hsz : 0 < size)
    (v : Value) (n : Nat) (xs : List Value) (hs : a.eval s = v) (hown : w.ownsRow base e size v n xs)
    (ax : Option Addr) (m c : Nat) (news : List Value) (hx : a.eval x = .slice ax m c) (hl : news.length = m * size) (hnews : ∀ j u, news[j]? = some u → ∃ ad, ax = some ad ∧ w.cell? (ad.add j) = some u) (h1 : ∀ u ∈ news, u.oneCell' = true)
    (h63 : n + m ≤ maxLen) (hbytes : (n + m) * bytes ≤ 140737488355328) (hbase : base ≤ w.heap.size)
    (h : ∀ v' w', w'.ownsRow base e size v' (n + m) (xs ++ news) → w.grownBy w' v.ownBlock → (v'.ownBlock = v.ownBlock ∨ v'.ownBlock = some w.heap.size) → w.drawn ≤ w'.drawn → wpList P ops Q rest (a.put o.dst v') w') : wpList P ops Q (o :: rest) a w :=
  wpList_plain hgd fun _ hK => by
    obtain ⟨v', w', hr, h2, h3, h4⟩ := run_append_both (P := P) w t o.type base e i z size bytes ht hi hz hsize hby hzs hsz v n xs hown ax m c news hl hnews h1 h63 hbytes hbase
    have hd := sem_draws P _ _ _ _ hr
    unfold Oper.wp execOp
    simp only [ho, resolve, invoke, builtin, Sem.run_bind, Sem.run_pure, Result.andThen_ok, List.map_toArray, List.map_cons, List.map_nil, hs, hx, hr]
    exact hK _ _ (h v' w' h2 h3 h4 hd)
end
end Go.Proofs.YtbjkpbeijkmoeaaGreatDoor
