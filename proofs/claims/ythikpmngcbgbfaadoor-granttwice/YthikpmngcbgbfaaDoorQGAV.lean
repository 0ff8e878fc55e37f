/-
  What is proved here: what the texts HWork, KOrd, TRt, TGr, KIff, TTake, GtRight prove, in one text.
-/
import Derived.Test.YthikpmngcbgbfaaDoorQGAM
import Derived.Test.YthikpmngcbgbfaaDoorQGAD
import Derived.Test.YthikpmngcbgbfaaDoorQGAH
import Derived.Test.YthikpmngcbgbfaaDoorQGAJ
import Derived.Test.YthikpmngcbgbfaaDoorQGAA
import Derived.Test.YthikpmngcbgbfaaDoorQGAN
namespace Go.Proofs.YthikpmngcbgbfaaDoor
open Go.RowKit
set_option linter.unusedVariables false

/-- What is being changed, by what it holds. -/
structure WS where
  N : List AN
  E : List AE
  next : Int
  made : List Int



/-- All blocks that were there, but those that O allows, are as they were. -/
structure Rest (O : Nat → Prop) (w w' : World) : Prop where
  os : w'.os = w.os
  tape : w'.tape = w.tape
  output : w'.output = w.output
  size : w.heap.size ≤ w'.heap.size
  block : ∀ i, i < w.heap.size → ¬ O i → w'.heap[i]? = w.heap[i]?

theorem Rest.refl (O : Nat → Prop) (w : World) : Rest O w w := ⟨rfl, rfl, rfl, Nat.le_refl _, fun _ _ _ => rfl⟩

theorem Rest.of_below {O : Nat → Prop} {w w' : World} (k : Below w.heap.size w w') : Rest O w w' := ⟨k.os, k.tape, k.output, k.size, fun i hi _ => k.block i hi⟩

theorem Rest.trans {O O' : Nat → Prop} {w w1 w2 : World} (h : Rest O w w1) (k : Rest O' w1 w2) (hO : ∀ i, i < w.heap.size → O' i → O i) : Rest O w w2 :=
  ⟨k.os.trans h.os, k.tape.trans h.tape, k.output.trans h.output, Nat.le_trans h.size k.size, fun i hi hn => (k.block i (Nat.lt_of_lt_of_le hi h.size) (fun q => hn (hO i hi q))).trans (h.block i hi hn)⟩

theorem Rest.below {O : Nat → Prop} {w w' : World} (h : Rest O w w') {B : Nat} (hB : B ≤ w.heap.size) (hO : ∀ i, O i → B ≤ i) : Below B w w' :=
  ⟨h.os, h.tape, h.output, h.size, fun i hi => h.block i (by omega) (fun q => by have := hO i q; omega)⟩

theorem Rest.alloc {O : Nat → Prop} {w u : World} (h : Rest O w u) (o : Obj) : Rest O w (u.alloc o) :=
  ⟨h.os, h.tape, h.output, Nat.le_trans h.size (by simp), fun i hi hn => (Below.heap_alloc u o i (Nat.lt_of_lt_of_le hi h.size)).trans (h.block i hi hn)⟩

theorem Rest.set {O : Nat → Prop} {w u : World} (h : Rest O w u) (p : Addr) (hp : w.heap.size ≤ p.block) (v : Value) : Rest O w (u.setCell p v) :=
  ⟨h.os, h.tape, h.output, Nat.le_trans h.size (by simp [World.setCell]), fun i hi hn => (Below.heap_setCell u p v i (by omega)).trans (h.block i hi hn)⟩

theorem cell_same {w w' : World} {b : Nat} (h : w'.heap[b]? = w.heap[b]?) (o : Nat) : w'.cell? ⟨b, o, none⟩ = w.cell? ⟨b, o, none⟩ := World.cell?_of_block (w := w) (a := ⟨b, o, none⟩) h

/-- What is allowed behind a step. -/
def Now (O : Nat → Prop) (w w' : World) : Nat → Prop := fun i => O i ∨ (w.heap.size ≤ i ∧ i < w'.heap.size)

/-- Three answers (of x and y, y and z, x and z) go through. -/
def TR (x y z : Int) : Prop := (x ≤ 0 → y ≤ 0 → z ≤ 0) ∧ (x < 0 → y ≤ 0 → z < 0) ∧ (x ≤ 0 → y < 0 → z < 0) ∧ (x = 0 → y = 0 → z = 0)

theorem lex_TR {p1 p2 p3 q1 q2 q3 : Int} (h : TR p1 p2 p3) (k : TR q1 q2 q3) : TR (lex p1 q1) (lex p2 q2) (lex p3 q3) := by
  obtain ⟨a1, a2, a3, a4⟩ := h
  obtain ⟨b1, b2, b3, b4⟩ := k
  unfold lex
  refine ⟨?_, ?_, ?_, ?_⟩ <;> intro x y <;> split at x <;> split at y <;> split <;> omega

theorem lex_neg (p q : Int) : lex (-p) (-q) = - lex p q := by
  unfold lex
  by_cases h : p = 0
  · simp [h]
  · have h2 : ¬ -p = 0 := by omega
    simp [h, h2]

theorem cmpI_neg (a b : Int) : cmpI b a = - cmpI a b := by
  unfold cmpI
  repeat' split <;> first | rfl | omega

theorem cmpI_TR (a b c : Int) : TR (cmpI a b) (cmpI b c) (cmpI a c) := by
  unfold TR cmpI
  repeat' split <;> first | omega | skip

theorem cmpB_neg : ∀ x y : List UInt8, cmpB y x = - cmpB x y
  | [], [] => rfl
  | [], _ :: _ => rfl
  | _ :: _, [] => rfl
  | a :: x, b :: y => by unfold cmpB; rw [cmpI_neg, cmpB_neg x y, lex_neg]

theorem cmpB_TR : ∀ x y z : List UInt8, TR (cmpB x y) (cmpB y z) (cmpB x z)
  | [], [], [] => by simp [cmpB, TR]
  | [], [], _ :: _ => by simp [cmpB, TR]
  | [], _ :: _, [] => by simp [cmpB, TR]
  | [], _ :: _, _ :: _ => by simp [cmpB, TR]
  | _ :: _, [], [] => by simp [cmpB, TR]
  | _ :: _, [], _ :: _ => by simp [cmpB, TR]
  | _ :: _, _ :: _, [] => by simp [cmpB, TR]
  | a :: x, b :: y, c :: z => by unfold cmpB; exact lex_TR (cmpI_TR _ _ _) (cmpB_TR x y z)

theorem bytes_ext {a b : ByteArray} (h : a.toList = b.toList) : a = b := by
  rw [ByteArray.toList_eq, ByteArray.toList_eq] at h
  obtain ⟨d⟩ := a
  obtain ⟨d'⟩ := b
  have : d = d' := Array.toList_inj.1 h
  rw [this]

theorem cmpS_neg (a b : ByteArray) : cmpS b a = - cmpS a b := by rw [cmpS_eq, cmpS_eq]; exact cmpB_neg _ _

theorem cmpS_zero {a b : ByteArray} (h : cmpS a b = 0) : a = b := by
  rw [cmpS_eq] at h
  exact bytes_ext (cmpB_zero h)

theorem cmpS_self (a : ByteArray) : cmpS a a = 0 := by rw [cmpS_eq]; exact cmpB_self _

theorem cmpS_trans {a b c : ByteArray} (h : cmpS a b < 0) (k : cmpS b c ≤ 0) : cmpS a c < 0 := by
  rw [cmpS_eq] at h k ⊢
  exact (cmpB_TR _ _ _).2.1 h k

theorem cmpS_trans2 {a b c : ByteArray} (h : cmpS a b ≤ 0) (k : cmpS b c < 0) : cmpS a c < 0 := by
  rw [cmpS_eq] at h k ⊢
  exact (cmpB_TR _ _ _).2.2.1 h k

theorem cmpS_three (a b : ByteArray) : cmpS a b = -1 ∨ cmpS a b = 0 ∨ cmpS a b = 1 := by
  unfold cmpS
  split
  · exact .inl rfl
  · split
    · exact .inr (.inl rfl)
    · exact .inr (.inr rfl)

/-- Names that rise. -/
def RiseS (ns : List ByteArray) : Prop := ∀ (i j : Nat) (x y : ByteArray), i < j → ns[i]? = some x → ns[j]? = some y → cmpS x y < 0

/-- Where a name stands, or where it would. -/
def SpotS (ns : List ByteArray) (t : ByteArray) (i : Nat) (f : Bool) : Prop := i ≤ ns.length ∧ (∀ k x, k < i → ns[k]? = some x → cmpS x t < 0) ∧ (∀ k x, i ≤ k → ns[k]? = some x → cmpS t x ≤ 0) ∧ (f = true → ns[i]? = some t) ∧ (f = false → t ∉ ns)

def FoundS (ns : List ByteArray) (t : ByteArray) (e : Ending) : Prop := ∃ (i : Nat) (f : Bool), e = .returned (.tuple #[.int .i64 i, .bool f]) ∧ SpotS ns t i f

def RtL (L : List ByteArray) : Prop := RiseS L ∧ L.length ≤ 4 ∧ ∀ s ∈ L, nm s = true
def kT : T → Int
  | .node k _ _ _ => k
def RtP (P : List AP) : Prop := RiseS (P.map AP.name) ∧ P.length ≤ 6 ∧ ∀ p ∈ P, nm p.name = true ∧ kT p.t ≠ 0 ∧ Ck 6 p.t

/-- A right work. -/
structure Rt (S : WS) : Prop where
  n40 : S.N.length ≤ 40
  e60 : S.E.length ≤ 60
  nri : Rise (S.N.map AN.id)
  eri : Rise (S.E.map AE.id)
  pos : 0 < S.next
  next : S.next ≤ 1099511627776
  nid : ∀ X ∈ S.N, 0 < X.id ∧ X.id < S.next
  eid : ∀ X ∈ S.E, 0 < X.id ∧ X.id < S.next ∧ X.id ∉ S.N.map AN.id
  nds : ∀ X ∈ S.N, RtL X.labs ∧ RtP X.props
  eds : ∀ X ∈ S.E, nm X.typ = true ∧ X.frm ∈ S.N.map AN.id ∧ X.dst ∈ S.N.map AN.id ∧ RtP X.props

theorem rise_iff {ns : List ByteArray} : RiseS ns ↔ ns.Pairwise (fun x y => cmpS x y < 0) := by
  constructor
  · intro hr
    rw [List.pairwise_iff_getElem]
    intro i j hi hj hij
    exact hr i j _ _ hij (List.getElem?_eq_getElem hi) (List.getElem?_eq_getElem hj)
  · intro hq i j x y hij hx hy
    rw [List.pairwise_iff_getElem] at hq
    obtain ⟨hi, e1⟩ := List.getElem?_eq_some_iff.1 hx
    obtain ⟨hj, e2⟩ := List.getElem?_eq_some_iff.1 hy
    rw [← e1, ← e2]
    exact hq i j hi hj hij

theorem pair_of_rise {L : List Int} (h : Rise L) : L.Pairwise (· < ·) := by
  rw [List.pairwise_iff_getElem]
  intro i j hi hj hij
  exact h i j _ _ hij (List.getElem?_eq_getElem hi) (List.getElem?_eq_getElem hj)

theorem leS_iff (s t : ByteArray) : leS s t = false ↔ cmpS t s < 0 := by
  rw [cmpS_neg s t]
  unfold leS cmpS
  cases h1 : Op.bytesLess s.toList t.toList with
  | true => simp
  | false =>
    cases h2 : (s.toList == t.toList) with
    | true => simp
    | false => simp

theorem nm_ahead {s : ByteArray} (h : nm s = true) : cmpS ⟨#[]⟩ s < 0 := by
  unfold nm at h
  simp only [Bool.and_eq_true, decide_eq_true_eq] at h
  rcases cmpS_three ⟨#[]⟩ s with h1 | h1 | h1
  · omega
  · have := cmpS_zero h1
    rw [← this] at h
    exact absurd h.1.1 (by decide)
  · rw [cmpS_eq] at h1
    have e0 : ByteArray.toList ⟨#[]⟩ = [] := by rw [ByteArray.toList_eq]
    rw [e0] at h1
    cases hl : s.toList with
    | nil => rw [hl] at h1; exact absurd h1 (by decide)
    | cons a l => rw [hl] at h1; exact absurd h1 (by simp [cmpB])

abbrev Asc (L : List ByteArray) : Prop := L.Pairwise (fun x y => cmpS x y < 0)

theorem asc_cons {ah s : ByteArray} {r : List ByteArray} : Asc (ah :: s :: r) ↔ cmpS ah s < 0 ∧ Asc (s :: r) := by
  unfold Asc
  rw [List.pairwise_cons]
  refine ⟨fun h => ⟨h.1 s (List.mem_cons_self ..), h.2⟩, fun h => ⟨fun y hy => ?_, h.2⟩⟩
  rcases List.mem_cons.1 hy with rfl | hy
  · exact h.1
  · exact cmpS_trans h.1 (by have := (List.pairwise_cons.1 h.2).1 y hy; omega)

theorem labE_iff : ∀ (L : List ByteArray) (ah : ByteArray), labE ah L = 0 ↔ (∀ s ∈ L, nm s = true) ∧ Asc (ah :: L)
  | [], ah => by simp [labE, Asc]
  | s :: r, ah => by
    rw [labE, asc_cons]
    have ih := labE_iff r s
    simp only [leS_iff]
    split
    · rename_i h
      rw [ih]
      exact ⟨fun k => ⟨fun x hx => by rcases List.mem_cons.1 hx with rfl | hx; exact h.1; exact k.1 x hx, h.2, k.2⟩, fun k => ⟨fun x hx => k.1 x (List.mem_cons_of_mem _ hx), k.2.2⟩⟩
    · rename_i h
      exact ⟨fun k => absurd k (by decide), fun k => absurd ⟨k.1 s (List.mem_cons_self ..), k.2.1⟩ h⟩

theorem asc_first {L : List ByteArray} (h : ∀ s ∈ L, nm s = true) : Asc (⟨#[]⟩ :: L) ↔ RiseS L := by
  rw [rise_iff]
  unfold Asc
  rw [List.pairwise_cons]
  exact ⟨fun k => k.2, fun k => ⟨fun s hs => nm_ahead (h s hs), k⟩⟩

theorem labsE_iff (L : List ByteArray) : labsE L = 0 ↔ RtL L := by
  unfold labsE RtL
  split
  · rename_i h
    exact ⟨fun k => absurd k (by decide), fun k => by omega⟩
  · rename_i h
    rw [labE_iff]
    exact ⟨fun k => ⟨(asc_first k.1).1 k.2, by omega, k.1⟩, fun k => ⟨k.2.2, (asc_first k.2.2).2 k.1⟩⟩

theorem prE_iff : ∀ (L : List Pr) (ah : ByteArray), prE ah L = 0 ↔ (∀ p ∈ L, nm p.name = true ∧ p.k ≠ 0 ∧ p.e = 0) ∧ Asc (ah :: L.map Pr.name)
  | [], ah => by simp [prE, Asc]
  | p :: r, ah => by
    rw [prE, List.map_cons, asc_cons]
    have ih := prE_iff r p.name
    simp only [leS_iff]
    split
    · rename_i h
      split
      · rename_i he
        rw [ih]
        exact ⟨fun k => ⟨fun x hx => by rcases List.mem_cons.1 hx with rfl | hx; exact ⟨h.1, h.2.2, he⟩; exact k.1 x hx, h.2.1, k.2⟩, fun k => ⟨fun x hx => k.1 x (List.mem_cons_of_mem _ hx), k.2.2⟩⟩
      · rename_i he
        exact ⟨fun k => absurd k he, fun k => absurd (k.1 p (List.mem_cons_self ..)).2.2 he⟩
    · rename_i h
      exact ⟨fun k => absurd k (by decide), fun k => absurd ⟨(k.1 p (List.mem_cons_self ..)).1, k.2.1, (k.1 p (List.mem_cons_self ..)).2.1⟩ h⟩

theorem prsE_iff (L : List Pr) : prsE L = 0 ↔ RiseS (L.map Pr.name) ∧ L.length ≤ 6 ∧ ∀ p ∈ L, nm p.name = true ∧ p.k ≠ 0 ∧ p.e = 0 := by
  unfold prsE
  have hn : (∀ p ∈ L, nm p.name = true ∧ p.k ≠ 0 ∧ p.e = 0) → ∀ s ∈ L.map Pr.name, nm s = true := fun h s hs => by
    obtain ⟨p, hp, rfl⟩ := List.mem_map.1 hs
    exact (h p hp).1
  split
  · rename_i h
    exact ⟨fun k => absurd k (by decide), fun k => by omega⟩
  · rename_i h
    rw [prE_iff]
    exact ⟨fun k => ⟨(asc_first (hn k.1)).1 k.2, by omega, k.1⟩, fun k => ⟨k.2.2, (asc_first (hn k.2.2)).2 k.1⟩⟩

theorem up_cons {ah s : Int} {r : List Int} : (ah :: s :: r).Pairwise (· < ·) ↔ ah < s ∧ (s :: r).Pairwise (· < ·) := by
  rw [List.pairwise_cons]
  refine ⟨fun h => ⟨h.1 s (List.mem_cons_self ..), h.2⟩, fun h => ⟨fun y hy => ?_, h.2⟩⟩
  rcases List.mem_cons.1 hy with rfl | hy
  · exact h.1
  · have := (List.pairwise_cons.1 h.2).1 y hy
    have := h.1
    omega

theorem ndE_of : ∀ (N : List Nd) (ah : Int), (ah :: N.map Nd.id).Pairwise (· < ·) → (∀ x ∈ N, labsE x.labs = 0 ∧ prsE x.props = 0) → ndE ah N = 0
  | [], _, _, _ => rfl
  | x :: r, ah, h, k => by
    rw [List.map_cons, up_cons] at h
    have hx := k x (List.mem_cons_self ..)
    have h1 : ndOne ah x = 0 := by
      unfold ndOne
      rw [if_neg (by have := h.1; omega), if_pos hx.1, hx.2]
    rw [ndE, if_pos h1]
    exact ndE_of r x.id h.2 fun y hy => k y (List.mem_cons_of_mem _ hy)

theorem edE_of (N : List Nd) : ∀ (E : List Ed) (ah : Int), (ah :: E.map Ed.id).Pairwise (· < ·) → (∀ x ∈ E, hasN N x.id = false ∧ nm x.typ = true ∧ hasN N x.frm = true ∧ hasN N x.dst = true ∧ prsE x.props = 0) → edE N ah E = 0
  | [], _, _, _ => rfl
  | x :: r, ah, h, k => by
    rw [List.map_cons, up_cons] at h
    have hx := k x (List.mem_cons_self ..)
    have h1 : edOne N ah x = 0 := by
      unfold edOne
      rw [if_neg (by have := h.1; rw [hx.1, hx.2.1]; simp; omega), if_neg (by rw [hx.2.2.1, hx.2.2.2.1]; simp), hx.2.2.2.2]
    rw [edE, if_pos h1]
    exact edE_of N r x.id h.2 fun y hy => k y (List.mem_cons_of_mem _ hy)

theorem lastI_mem : ∀ (L : List Int) (ah : Int), lastI ah L = ah ∨ lastI ah L ∈ L
  | [], _ => .inl rfl
  | x :: r, ah => by
    rw [lastI]
    rcases lastI_mem r x with h | h
    · rw [h]; exact .inr (List.mem_cons_self ..)
    · exact .inr (List.mem_cons_of_mem _ h)

theorem lastI_le : ∀ (L : List Int) (ah : Int), (ah :: L).Pairwise (· < ·) → ∀ x ∈ ah :: L, x ≤ lastI ah L
  | [], ah, _, x, hx => by rw [List.mem_singleton.1 hx]; exact Int.le_refl _
  | s :: r, ah, h, x, hx => by
    rw [up_cons] at h
    rw [lastI]
    have ih := lastI_le r s h.2
    rcases List.mem_cons.1 hx with rfl | hx
    · have := ih s (List.mem_cons_self ..)
      have := h.1
      omega
    · exact ih x hx

/-- What is asked of a graph. -/
structure GR (N : List Nd) (E : List Ed) (next : Int) : Prop where
  n40 : N.length ≤ 40
  e60 : E.length ≤ 60
  nri : Rise (N.map Nd.id)
  eri : Rise (E.map Ed.id)
  pos : 0 < next
  most : next ≤ 1099511627776
  nid : ∀ x ∈ N, 0 < x.id ∧ x.id < next
  eid : ∀ x ∈ E, 0 < x.id ∧ x.id < next
  nds : ∀ x ∈ N, labsE x.labs = 0 ∧ prsE x.props = 0
  eds : ∀ x ∈ E, hasN N x.id = false ∧ nm x.typ = true ∧ hasN N x.frm = true ∧ hasN N x.dst = true ∧ prsE x.props = 0

theorem up_of {α : Type} {f : α → Int} {L : List α} (hr : Rise (L.map f)) (h : ∀ x ∈ L, 0 < f x) : ((0 : Int) :: L.map f).Pairwise (· < ·) :=
  List.pairwise_cons.2 ⟨fun y hy => by obtain ⟨x, hx, rfl⟩ := List.mem_map.1 hy; exact h x hx, pair_of_rise hr⟩

theorem gE_iff (N : List Nd) (E : List Ed) (next : Int) : gE N E next = 0 ↔ GR N E next := by
  constructor
  · intro h
    unfold gE at h
    split at h
    · exact absurd h (by decide)
    rename_i h1
    split at h
    · rename_i h2
      split at h
      · rename_i h3
        split at h
        · exact absurd h (by decide)
        rename_i h4
        obtain ⟨r1, a1⟩ := ndE_ok N 0 h2
        obtain ⟨r2, a2⟩ := edE_ok N E 0 h3
        have u1 := lastI_le _ 0 (up_of r1 fun x hx => (a1 x hx).1)
        have u2 := lastI_le _ 0 (up_of r2 fun x hx => (a2 x hx).1)
        have z1 := u1 0 (List.mem_cons_self ..)
        refine ⟨by omega, by omega, r1, r2, by omega, by omega, fun x hx => ⟨(a1 x hx).1, ?_⟩, fun x hx => ⟨(a2 x hx).1, ?_⟩, fun x hx => (a1 x hx).2, fun x hx => (a2 x hx).2⟩
        · have := u1 x.id (List.mem_cons_of_mem _ (List.mem_map.2 ⟨x, hx, rfl⟩))
          omega
        · have := u2 x.id (List.mem_cons_of_mem _ (List.mem_map.2 ⟨x, hx, rfl⟩))
          omega
      · rename_i h3; exact absurd h h3
    · rename_i h2; exact absurd h h2
  · intro h
    have h2 := ndE_of N 0 (up_of h.nri fun x hx => (h.nid x hx).1) h.nds
    have h3 := edE_of N E 0 (up_of h.eri fun x hx => (h.eid x hx).1) h.eds
    unfold gE
    rw [if_neg (by have := h.n40; have := h.e60; omega), if_pos h2, if_pos h3, if_neg]
    have p0 := h.pos
    have l1 : lastI 0 (N.map Nd.id) < next := by
      rcases lastI_mem (N.map Nd.id) 0 with e | e
      · omega
      · obtain ⟨x, hx, e⟩ := List.mem_map.1 e
        have := (h.nid x hx).2
        omega
    have l2 : lastI 0 (E.map Ed.id) < next := by
      rcases lastI_mem (E.map Ed.id) 0 with e | e
      · omega
      · obtain ⟨x, hx, e⟩ := List.mem_map.1 e
        have := (h.eid x hx).2
        omega
    have := h.most
    omega

theorem firstErr_zero (es : Nat → Int) (z : Int) : ∀ (n i : Nat), (∀ j, j < n → es (i + j) = 0) → firstErr es i n z = z
  | 0, i, _ => by simp [firstErr]
  | n + 1, i, h => by
    have h0 := h 0 (by omega)
    rw [Nat.add_zero] at h0
    rw [firstErr, if_pos h0]
    exact firstErr_zero es z n (i + 1) fun j hj => by
      have := h (j + 1) (by omega)
      rw [show i + 1 + j = i + (j + 1) from by omega]
      exact this

theorem bi_plain (B : Nat) (w : World) (hB : B ≤ w.heap.size) (hT : Tabs B w) (d : Nat) (k n : Int) (s : ByteArray) (a : Option Addr) (l c lists : Nat) (L : List T) (h4 : k ≠ 4) (hs : s.size ≤ 9223372036854775807) (hin : InT (.node k n s L)) (hL : LiesS w L a l) : ∃ e, Both w (.agg #[.int .i64 k, .int .i64 n, .string s, .slice a l c]) lists e ∧ (e = 0 → Ck d (.node k n s L)) ∧ (Ck d (.node k n s L) → e = 0) := by
  have hl := hL.length
  by_cases h3 : k = 3
  · subst h3
    have hv : ∀ w1, Below w.heap.size w w1 → ∀ w', Below w1.heap.size w1 w' → Calls Tryd.prog 82 #[.string s] w' fun e w'' => e = .returned (.bool (Lib.validD s.data.toList)) ∧ Below w'.heap.size w' w'' := fun w1 k1 w' k' => Tryd.utf8_ValidString s w' hs (hT.below ((below2 k1 k').mono hB)).now
    refine ⟨if s.size > 4000 then 2 else if Lib.validD s.data.toList = true ∧ n = 0 ∧ l = 0 then 0 else 6, fun w' k => ⟨within_text n s a l c lists _ w' fun w2 k2 => checkText_any n s a l c (Lib.validD s.data.toList) w2 hs hl.2 (hv w2 (below2 k k2)), by first | exact ref_text n s a l c (lists + 1) (Lib.validD s.data.toList) _ w' hs hl.2 rfl (hv w' k) | exact trivial⟩, fun e => ?_, fun h => by cases h with | text _ _ g0 g1 => rw [if_neg (by omega), if_pos ⟨g1, rfl, hl.1⟩]⟩
    split at e
    · exact absurd e (by decide)
    · split at e
      · rename_i h1 h2
        obtain ⟨h2, rfl, h5⟩ := h2
        have e1 : L = [] := List.length_eq_zero_iff.1 (by omega)
        subst e1
        exact .text d s (by omega) h2
      · exact absurd e (by decide)
  · obtain ⟨z, hz0, hz1, hz2, hz3, hz4⟩ : ∃ z : Int, ((k = 0 ∧ n = 0 ∨ k = 1 ∧ (n = 0 ∨ n = 1) ∨ k = 2) → s = ⟨#[]⟩ → l = 0 → z = 0) ∧ (¬ (k = 0 ∧ n = 0 ∨ k = 1 ∧ (n = 0 ∨ n = 1) ∨ k = 2) → z = 6) ∧ (s ≠ ⟨#[]⟩ → z = 6) ∧ (l ≠ 0 → z = 6) ∧ (z = 0 → (k = 0 ∧ n = 0 ∨ k = 1 ∧ (n = 0 ∨ n = 1) ∨ k = 2) ∧ s = ⟨#[]⟩ ∧ l = 0) := by
      by_cases hk : (k = 0 ∧ n = 0 ∨ k = 1 ∧ (n = 0 ∨ n = 1) ∨ k = 2)
      · by_cases hs : s = ⟨#[]⟩
        · by_cases hl0 : l = 0
          · exact ⟨0, fun _ _ _ => rfl, fun h => absurd hk h, fun h => absurd hs h, fun h => absurd hl0 h, fun _ => ⟨hk, hs, hl0⟩⟩
          · exact ⟨6, fun _ _ h => absurd h hl0, fun _ => rfl, fun _ => rfl, fun _ => rfl, fun h => absurd h (by decide)⟩
        · exact ⟨6, fun _ h => absurd h hs, fun _ => rfl, fun _ => rfl, fun _ => rfl, fun h => absurd h (by decide)⟩
      · exact ⟨6, fun h => absurd h hk, fun _ => rfl, fun _ => rfl, fun _ => rfl, fun h => absurd h (by decide)⟩
    refine ⟨z, fun w' kk => ⟨within_plain k n s a l c lists z w' (by simpa using h4) (by simpa using h3) fun w2 k2 => checkPlain_any k n s a l c z w2 hz0 hz1 hz2 hz3 hl.2, by first | exact ref_plain k n s a l c (lists + 1) z w' hl.2 (by simpa using h4) (by simpa using h3) hz0 hz1 hz2 hz3 | exact trivial⟩, fun e => ?_, fun h => ?_⟩
    rotate_left
    · cases h with
      | null => exact hz0 (.inl ⟨rfl, rfl⟩) rfl hl.1
      | bool _ _ g => exact hz0 (.inr (.inl ⟨rfl, g⟩)) rfl hl.1
      | int => exact hz0 (.inr (.inr rfl)) rfl hl.1
      | text => exact absurd rfl h3
      | list => exact absurd rfl h4
    obtain ⟨hk, rfl, h0⟩ := hz4 e
    have e1 : L = [] := List.length_eq_zero_iff.1 (by omega)
    subst e1
    unfold InT at hin
    rcases hk with ⟨rfl, rfl⟩ | ⟨rfl, h⟩ | rfl
    · exact .null d
    · exact .bool d n h
    · exact .int d n hin.1.1 hin.1.2

theorem bi_all (B : Nat) (w : World) (hB : B ≤ w.heap.size) (hT : Tabs B w) : ∀ (f lists : Nat), lists + f = 6 → ∀ (k n : Int) (s : ByteArray) (a : Option Addr) (l c : Nat) (L : List T), s.size ≤ 9223372036854775807 → InT (.node k n s L) → LiesS w L a l → ∃ e, Both w (.agg #[.int .i64 k, .int .i64 n, .string s, .slice a l c]) lists e ∧ (e = 0 → Ck f (.node k n s L)) ∧ (Ck f (.node k n s L) → e = 0) := by
  intro f
  induction f with
  | zero =>
    intro lists hd k n s a l c L hs hin hL
    by_cases h4 : k = 4
    · subst h4
      exact ⟨2, both_list_many w n s a l c lists hL.length.2 (.inr (by omega)), fun e => absurd e (by decide), fun h => by cases h⟩
    · exact bi_plain B w hB hT _ k n s a l c lists L h4 hs hin hL
  | succ f ih =>
    intro lists hd k n s a l c L hs hin hL
    by_cases h4 : k = 4
    · subst h4
      by_cases hm : 30 < l
      · exact ⟨2, both_list_many w n s a l c lists hL.length.2 (.inl hm), fun e => absurd e (by decide), fun h => by cases h with | list _ _ g0 g1 => have := hL.length.1; omega⟩
      · obtain ⟨z, hz0, hz1, hz2, hz3⟩ := bare_of n s
        by_cases h0 : l = 0
        · subst h0
          have e1 : L = [] := List.length_eq_zero_iff.1 hL.length.1.symm
          subst e1
          exact ⟨z, fun w' k => ⟨within_list n s a 0 c lists z w' fun w2 k2 => checkList_empty 4 n s a c lists z w2 (by omega) hz0 hz1 hz2, by first | exact ref_empty n s a c (lists + 1) z w' (by omega) hz0 hz1 hz2 | exact trivial⟩, fun e => by obtain ⟨rfl, rfl⟩ := hz3 e; exact .list f [] (by simp) (fun t ht => by cases ht), fun h => by cases h with | list _ _ g0 g1 => exact hz0 rfl rfl⟩
        · obtain ⟨b, off, _, rfl, hb, _⟩ := hL.get (i := 0) (by omega)
          have hel : ∀ i, i < l → ∃ e, Both w ((valsAt w b off).at i) (lists + 1) e ∧ (e = 0 → ∀ t, L.drop i = t :: L.drop (i + 1) → Ck f t) ∧ ((∀ t ∈ L, Ck f t) → e = 0) := by
            intro i hi
            obtain ⟨kt, nt, st, Lt, at', lt, ct, _, hd', p0, p1, p2, p3, hlc, hLt, _, hst⟩ := hL.at2 hi
            rw [vals_at p0 p1 p2 p3]
            have hmem : T.node kt nt st Lt ∈ L := List.mem_of_mem_drop (by rw [hd']; exact List.mem_cons_self ..)
            obtain ⟨e, he, hwe, hwi⟩ := ih (lists + 1) (by omega) kt nt st at' lt ct Lt hst (InL.mem (by unfold InT at hin; exact hin.2) hmem) hLt
            refine ⟨e, he, fun e0 t ht => ?_, fun h => hwi (h _ hmem)⟩
            rw [hd'] at ht
            simp only [List.cons.injEq, and_true] at ht
            rw [← ht]
            exact hwe e0
          obtain ⟨es, hes⟩ : ∃ es : Nat → Int, ∀ i, i < l → Both w ((valsAt w b off).at i) (lists + 1) (es i) ∧ (es i = 0 → ∀ t, L.drop i = t :: L.drop (i + 1) → Ck f t) ∧ ((∀ t ∈ L, Ck f t) → es i = 0) := by
            refine ⟨fun i => if h : i < l then Classical.choose (hel i h) else 0, fun i hi => ?_⟩
            have := Classical.choose_spec (hel i hi)
            simp only [dif_pos hi]
            exact this
          refine ⟨firstErr es 0 l z, fun w' k => ⟨?_, ?_⟩, fun e => ?_, fun h => ?_⟩
          · refine within_list n s (some ⟨b, off, none⟩) l c lists _ w' fun w2 k2 => ?_
            have kk := below2 k k2
            refine checkList_any 4 n s b off l c lists es (valsAt w b off) z w2 hz0 hz1 hz2 (by omega) (by omega) (by omega) (by have := kk.size; omega) (listAt_below hL.listAt hb kk) fun i hi w3 k3 => ?_
            have := ((hes i hi).1 w3 (below2 kk k3)).1
            rw [show ((lists + 1 : Nat) : Int) = (lists : Int) + 1 from by omega] at this
            exact this
          · first
            | exact trivial
            | (refine ref_list n s b off l c (lists + 1) es (valsAt w b off) z w' hz0 hz1 hz2 (by omega) (by omega) (by omega) (by have := k.size; omega) (listAt_below hL.listAt hb k) fun i hi w3 k3 => ?_
               have := ((hes i hi).1 w3 (below2 k k3)).2
               rw [show ((lists + 1 : Nat) : Int) = (lists : Int) + 1 from by omega] at this
               exact this)
          · obtain ⟨hz, hall⟩ := firstErr_none es z l 0 e
            obtain ⟨rfl, rfl⟩ := hz3 hz
            refine .list f L (by rw [← hL.length.1]; omega) (fun t ht => ?_)
            obtain ⟨i, hi, hdi⟩ := mem_drop ht
            have hi' : i < l := by rw [hL.length.1]; exact hi
            have h0 := hall i hi'
            rw [Nat.zero_add] at h0
            exact (hes i hi').2.1 h0 t hdi
          · cases h with
            | list _ _ g0 g1 => rw [firstErr_zero es z l 0 (fun i hi => by rw [Nat.zero_add]; exact (hes i hi).2.2 g1)]; exact hz0 rfl rfl
    · exact bi_plain B w hB hT _ k n s a l c lists L h4 hs hin hL

theorem pair_map {α β γ : Type} {R : α → β → Prop} {f : α → γ} {g : β → γ} {P : List α} {L : List β} (h : Pair2 R P L) (hR : ∀ p x, R p x → f p = g x) : P.map f = L.map g := by
  apply List.ext_getElem?
  intro i
  rw [List.getElem?_map, List.getElem?_map]
  cases hx : P[i]? with
  | none =>
    have : L[i]? = none := by
      rw [List.getElem?_eq_none_iff] at hx ⊢
      rw [← h.1]
      exact hx
    rw [this]
    rfl
  | some x =>
    obtain ⟨y, hy, hxy⟩ := h.left hx
    rw [hy]
    show some (f x) = some (g y)
    rw [hR x y hxy]

theorem pair_mem {α β : Type} {R : α → β → Prop} {P : List α} {L : List β} (h : Pair2 R P L) {x : β} (hx : x ∈ L) : ∃ p ∈ P, R p x := by
  obtain ⟨i, hi⟩ := List.getElem?_of_mem hx
  obtain ⟨p, hp, hR⟩ := h.right hi
  exact ⟨p, List.mem_of_getElem? hp, hR⟩

theorem pair_mem' {α β : Type} {R : α → β → Prop} {P : List α} {L : List β} (h : Pair2 R P L) {p : α} (hp : p ∈ P) : ∃ x ∈ L, R p x := by
  obtain ⟨i, hi⟩ := List.getElem?_of_mem hp
  obtain ⟨x, hx, hR⟩ := h.left hi
  exact ⟨x, List.mem_of_getElem? hx, hR⟩

theorem props_right {w : World} {P : List Pr} {pa : Option Addr} {pl : Nat} (hP : PropsAt w P pa pl) (hO : ∀ p ∈ P, PrOk w p) (h0 : prsE P = 0) : ∃ X : List AP, Pair2 (PrIn AnyB w) P X ∧ RtP X := by
  obtain ⟨g1, g2, g3⟩ := (prsE_iff P).1 h0
  obtain ⟨X, hX⟩ := pair_choose (R := fun p x => PrIn AnyB w p x ∧ nm x.name = true ∧ kT x.t ≠ 0 ∧ Ck 6 x.t) P (fun p hp => by
    obtain ⟨⟨h1, h2⟩, L, _, h3, _, h4⟩ := hO p hp
    have hck := h4 (g3 p hp).2.2
    obtain ⟨i, hi⟩ := List.getElem?_of_mem hp
    have hil := (List.getElem?_eq_some_iff.1 hi).1
    obtain ⟨b, off, _, _, hc⟩ := hP.2.2 (by rw [hP.1]; omega)
    exact ⟨⟨p.name, .node p.k p.n p.s L⟩, ⟨rfl, (hc i p hi).1, h1, h2, L, rfl, LiesS.lie _ _ _ h3⟩, (g3 p hp).1, (g3 p hp).2.1, hck⟩)
  refine ⟨X, hX.mono fun _ _ _ _ h => h.1, ?_, by rw [← hX.1]; exact g2, fun x hx => ?_⟩
  · rw [← pair_map hX (f := Pr.name) fun p x h => h.1.1]
    exact g1
  · obtain ⟨p, _, h⟩ := pair_mem hX hx
    exact h.2

theorem nodes_right {w : World} {N : List Nd} (hO : ∀ x ∈ N, NdOk w x) (h0 : ∀ x ∈ N, labsE x.labs = 0 ∧ prsE x.props = 0) : ∃ X : List AN, Pair2 (NdIn w) N X ∧ ∀ x ∈ X, RtL x.labs ∧ RtP x.props := by
  obtain ⟨X, hX⟩ := pair_choose (R := fun p x => NdIn w p x ∧ RtL x.labs ∧ RtP x.props) N (fun p hp => by
    obtain ⟨h1, h2, h3⟩ := hO p hp
    obtain ⟨Y, hY, hok⟩ := props_right h2 h3 (h0 p hp).2
    exact ⟨⟨p.id, p.labs, Y⟩, ⟨rfl, rfl, h1, h2, hY⟩, (labsE_iff _).1 (h0 p hp).1, hok⟩)
  refine ⟨X, hX.mono fun _ _ _ _ h => h.1, fun x hx => ?_⟩
  obtain ⟨p, _, h⟩ := pair_mem hX hx
  exact h.2

theorem edges_right {w : World} {E : List Ed} {ea : Option Addr} {el : Nat} (hA : EdgesAt w E ea el) (hO : ∀ x ∈ E, EdOk w x) (h0 : ∀ x ∈ E, prsE x.props = 0) : ∃ X : List AE, Pair2 (EdIn w) E X ∧ ∀ x ∈ X, RtP x.props := by
  obtain ⟨X, hX⟩ := pair_choose (R := fun p x => EdIn w p x ∧ RtP x.props) E (fun p hp => by
    obtain ⟨h2, h3⟩ := hO p hp
    obtain ⟨Y, hY, hok⟩ := props_right h2 h3 (h0 p hp)
    obtain ⟨i, hi⟩ := List.getElem?_of_mem hp
    have hil := (List.getElem?_eq_some_iff.1 hi).1
    obtain ⟨b, off, _, _, hc⟩ := hA.2.2 (by rw [hA.1]; omega)
    exact ⟨⟨p.id, p.frm, p.dst, p.typ, Y⟩, ⟨rfl, rfl, rfl, rfl, (hc i p hi).1, h2, hY⟩, hok⟩)
  refine ⟨X, hX.mono fun _ _ _ _ h => h.1, fun x hx => ?_⟩
  obtain ⟨p, _, h⟩ := pair_mem hX hx
  exact h.2

/-- A graph that its check takes, by what it holds, is right. -/
theorem gr_right {w : World} {N : List Nd} {E : List Ed} {na : Option Addr} {nl : Nat} {ea : Option Addr} {el : Nat} {next : Int} (h : GrOk w N E na nl ea el) (h0 : gE N E next = 0) :
    ∃ XN XE, NsAt w XN na nl ∧ EsAt w XE ea el ∧ ∀ made, Rt ⟨XN, XE, next, made⟩ := by
  obtain ⟨h1, h2, h3, h4⟩ := h
  have r := (gE_iff N E next).1 h0
  obtain ⟨XN, p1, o1⟩ := nodes_right h3 r.nds
  obtain ⟨XE, p2, o2⟩ := edges_right h2 h4 (fun x hx => (r.eds x hx).2.2.2.2)
  have e1 : N.map Nd.id = XN.map AN.id := pair_map p1 fun p x h => h.1
  have e2 : E.map Ed.id = XE.map AE.id := pair_map p2 fun p x h => h.1
  refine ⟨XN, XE, ⟨N, h1, p1⟩, ⟨E, h2, p2⟩, fun made => ⟨by show XN.length ≤ 40; rw [← p1.1]; exact r.n40, by show XE.length ≤ 60; rw [← p2.1]; exact r.e60, by show Rise (XN.map AN.id); rw [← e1]; exact r.nri, by show Rise (XE.map AE.id); rw [← e2]; exact r.eri, r.pos, r.most, fun X hX => ?_, fun X hX => ?_, o1, fun X hX => ?_⟩⟩
  · obtain ⟨p, hp, h⟩ := pair_mem p1 hX
    rw [← h.1]
    exact r.nid p hp
  · obtain ⟨p, hp, h⟩ := pair_mem p2 hX
    have hno := (r.eds p hp).1
    unfold hasN at hno
    rw [e1] at hno
    rw [← h.1]
    exact ⟨(r.eid p hp).1, (r.eid p hp).2, by simpa using hno⟩
  · obtain ⟨p, hp, h⟩ := pair_mem p2 hX
    have hq := r.eds p hp
    unfold hasN at hq
    rw [e1] at hq
    rw [← h.2.1, ← h.2.2.1, ← h.2.2.2.1]
    exact ⟨hq.2.1, by simpa using hq.2.2.1, by simpa using hq.2.2.2.1, o2 X hX⟩

theorem inL_of : ∀ {L : List T}, (∀ t ∈ L, InT t) → InL L
  | [], _ => by unfold InL; trivial
  | t :: ts, h => by unfold InL; exact ⟨h t (List.mem_cons_self ..), inL_of fun u hu => h u (List.mem_cons_of_mem _ hu)⟩

theorem ck_in : ∀ {d : Nat} {t : T}, Ck d t → InT t := by
  intro d t h
  induction h with
  | null d => unfold InT InL; exact ⟨by omega, trivial⟩
  | bool d n h => unfold InT InL; exact ⟨by omega, trivial⟩
  | int d n h0 h1 => unfold InT InL; exact ⟨⟨h0, h1⟩, trivial⟩
  | text d s h0 h1 => unfold InT InL; exact ⟨by omega, trivial⟩
  | list d L h0 h1 ih => unfold InT; exact ⟨by omega, inL_of ih⟩

def Pr.fix (p : Pr) : Pr := ⟨p.name, p.k, p.n, p.s, p.a, p.l, p.c, 0⟩
def Nd.fix (x : Nd) : Nd := ⟨x.id, x.labs, x.la, x.ll, x.lc, x.props.map Pr.fix, x.pa, x.pl, x.pc⟩
def Ed.fix (x : Ed) : Ed := ⟨x.id, x.frm, x.dst, x.typ, x.props.map Pr.fix, x.pa, x.pl, x.pc⟩

theorem map_get {α β : Type} {f : α → β} {L : List α} {i : Nat} {y : β} (h : (L.map f)[i]? = some y) : ∃ x, L[i]? = some x ∧ f x = y := by
  rw [List.getElem?_map] at h
  cases hx : L[i]? with
  | none => rw [hx] at h; cases h
  | some x => rw [hx] at h; exact ⟨x, rfl, by injection h⟩

theorem PropsAt.fix {w : World} {P : List Pr} {a : Option Addr} {l : Nat} (h : PropsAt w P a l) : PropsAt w (P.map Pr.fix) a l := by
  obtain ⟨h1, h2, h3⟩ := h
  refine ⟨by rw [List.length_map]; exact h1, h2, fun h0 => ?_⟩
  obtain ⟨b, off, ha, hb, hc⟩ := h3 h0
  exact ⟨b, off, ha, hb, fun i p hp => by obtain ⟨q, hq, rfl⟩ := map_get hp; exact hc i q hq⟩

theorem NodesAt.fix {w : World} {P : List Nd} {a : Option Addr} {l : Nat} (h : NodesAt w P a l) : NodesAt w (P.map Nd.fix) a l := by
  obtain ⟨h1, h2, h3⟩ := h
  refine ⟨by rw [List.length_map]; exact h1, h2, fun h0 => ?_⟩
  obtain ⟨b, off, ha, hb, hc⟩ := h3 h0
  exact ⟨b, off, ha, hb, fun i p hp => by obtain ⟨q, hq, rfl⟩ := map_get hp; exact hc i q hq⟩

theorem EdgesAt.fix {w : World} {P : List Ed} {a : Option Addr} {l : Nat} (h : EdgesAt w P a l) : EdgesAt w (P.map Ed.fix) a l := by
  obtain ⟨h1, h2, h3⟩ := h
  refine ⟨by rw [List.length_map]; exact h1, h2, fun h0 => ?_⟩
  obtain ⟨b, off, ha, hb, hc⟩ := h3 h0
  exact ⟨b, off, ha, hb, fun i p hp => by obtain ⟨q, hq, rfl⟩ := map_get hp; exact hc i q hq⟩

theorem props_back (B : Nat) {w : World} (hB : B ≤ w.heap.size) (hT : Tabs B w) {P : List Pr} {X : List AP} (h : Pair2 (PrIn AnyB w) P X) (hX : RtP X) : (∀ p ∈ P.map Pr.fix, PrOk w p) ∧ prsE (P.map Pr.fix) = 0 := by
  have hx : ∀ p ∈ P, ∃ x ∈ X, PrIn AnyB w p x := fun p hp => pair_mem' h hp
  refine ⟨fun q hq => ?_, (prsE_iff _).2 ⟨?_, by rw [List.length_map, h.1]; exact hX.2.1, fun q hq => ?_⟩⟩
  · obtain ⟨p, hp, rfl⟩ := List.mem_map.1 hq
    obtain ⟨x, hxm, e1, e2, e3, e4, Lt, e5, e6⟩ := hx p hp
    have hck := (hX.2.2 x hxm).2.2
    rw [e5] at hck
    obtain ⟨e, hb, _, hz⟩ := bi_all B w hB hT 6 0 rfl p.k p.n p.s p.a p.l p.c Lt e3 (ck_in hck) (LieA.lies _ _ _ e6)
    rw [hz hck] at hb
    exact ⟨⟨e3, e4⟩, Lt, ck_in hck, LieA.lies _ _ _ e6, hb, fun _ => hck⟩
  · rw [List.map_map, show (Pr.name ∘ Pr.fix) = Pr.name from rfl, pair_map h (g := AP.name) fun p x h => h.1]
    exact hX.1
  · obtain ⟨p, hp, rfl⟩ := List.mem_map.1 hq
    obtain ⟨x, hxm, e1, e2, e3, e4, Lt, e5, e6⟩ := hx p hp
    have := hX.2.2 x hxm
    rw [e5] at this
    exact ⟨by show nm p.name = true; rw [e1]; exact this.1, this.2.1, rfl⟩

/-- A right work lies as a graph that its check takes. -/
theorem gr_back (B : Nat) {w : World} (hB : B ≤ w.heap.size) (hT : Tabs B w) {S : WS} (hS : Rt S) {na : Option Addr} {nl : Nat} {ea : Option Addr} {el : Nat} (hN : NsAt w S.N na nl) (hE : EsAt w S.E ea el) : ∃ N E, GrOk w N E na nl ea el ∧ gE N E S.next = 0 := by
  obtain ⟨N, hA, p1⟩ := hN
  obtain ⟨E, hA', p2⟩ := hE
  have i1 : (N.map Nd.fix).map Nd.id = S.N.map AN.id := by rw [List.map_map, show (Nd.id ∘ Nd.fix) = Nd.id from rfl]; exact pair_map p1 fun p x h => h.1
  have i2 : (E.map Ed.fix).map Ed.id = S.E.map AE.id := by rw [List.map_map, show (Ed.id ∘ Ed.fix) = Ed.id from rfl]; exact pair_map p2 fun p x h => h.1
  have hn : ∀ x ∈ N, ∃ X ∈ S.N, NdIn w x X := fun x hx => pair_mem' p1 hx
  have he : ∀ x ∈ E, ∃ X ∈ S.E, EdIn w x X := fun x hx => pair_mem' p2 hx
  refine ⟨N.map Nd.fix, E.map Ed.fix, ⟨hA.fix, hA'.fix, fun y hy => ?_, fun y hy => ?_⟩, (gE_iff _ _ _).2 ⟨by rw [List.length_map, p1.1]; exact hS.n40, by rw [List.length_map, p2.1]; exact hS.e60, by rw [i1]; exact hS.nri, by rw [i2]; exact hS.eri, hS.pos, hS.next, fun y hy => ?_, fun y hy => ?_, fun y hy => ?_, fun y hy => ?_⟩⟩
  · obtain ⟨x, hx, rfl⟩ := List.mem_map.1 hy
    obtain ⟨X, hX, q1, q2, q3, q4, q5⟩ := hn x hx
    exact ⟨q3, q4.fix, (props_back B hB hT q5 (hS.nds X hX).2).1⟩
  · obtain ⟨x, hx, rfl⟩ := List.mem_map.1 hy
    obtain ⟨X, hX, q1, q2, q3, q4, q5, q6, q7⟩ := he x hx
    exact ⟨q6.fix, (props_back B hB hT q7 (hS.eds X hX).2.2.2).1⟩
  · obtain ⟨x, hx, rfl⟩ := List.mem_map.1 hy
    obtain ⟨X, hX, q1, _⟩ := hn x hx
    show 0 < x.id ∧ x.id < S.next
    rw [q1]
    exact hS.nid X hX
  · obtain ⟨x, hx, rfl⟩ := List.mem_map.1 hy
    obtain ⟨X, hX, q1, _⟩ := he x hx
    show 0 < x.id ∧ x.id < S.next
    rw [q1]
    exact ⟨(hS.eid X hX).1, (hS.eid X hX).2.1⟩
  · obtain ⟨x, hx, rfl⟩ := List.mem_map.1 hy
    obtain ⟨X, hX, q1, q2, q3, q4, q5⟩ := hn x hx
    refine ⟨(labsE_iff _).2 ?_, (props_back B hB hT q5 (hS.nds X hX).2).2⟩
    show RtL x.labs
    rw [q2]
    exact (hS.nds X hX).1
  · obtain ⟨x, hx, rfl⟩ := List.mem_map.1 hy
    obtain ⟨X, hX, q1, q2, q3, q4, q5, q6, q7⟩ := he x hx
    have hd := hS.eds X hX
    have hi := (hS.eid X hX).2.2
    unfold hasN
    rw [i1]
    refine ⟨?_, ?_, ?_, ?_, (props_back B hB hT q7 hd.2.2.2).2⟩
    · rw [← q1] at hi
      exact decide_eq_false hi
    · show nm x.typ = true
      rw [q4]
      exact hd.1
    · have := hd.2.1
      rw [← q2] at this
      exact decide_eq_true this
    · have := hd.2.2.1
      rw [← q3] at this
      exact decide_eq_true this

theorem RtP.ok {P : List AP} (h : RtP P) : P.length ≤ 1000 ∧ ∀ p ∈ P, p.ok :=
  ⟨by have := h.2.1; omega, fun p hp => by
    have hwt := ck_wt 6 _ (h.2.2 p hp).2.2
    have e : 2 * 32 ^ 6 = 2147483648 := by decide
    show wtT p.t ≤ _
    omega⟩

theorem Rt.nok {S : WS} (h : Rt S) : ∀ x ∈ S.N, x.ok := fun x hx => ⟨by have := (h.nds x hx).1.2.1; omega, (h.nds x hx).2.ok.1, (h.nds x hx).2.ok.2⟩
theorem Rt.eok {S : WS} (h : Rt S) : ∀ x ∈ S.E, x.ok := fun x hx => (h.eds x hx).2.2.2.ok

set_option linter.unusedSimpArgs false

theorem pair2_map {α β : Type} {R R' : α → β → Prop} {f : α → α} {P : List α} {X : List β} (h : Pair2 R P X) (m : ∀ p x, R p x → R' (f p) x) : Pair2 R' (P.map f) X :=
  ⟨by rw [List.length_map]; exact h.1, fun i q x hq hx => by
    obtain ⟨p, hp, rfl⟩ := map_get hq
    exact m p x (h.2 i p x hp hx)⟩

theorem nd_fix {w : World} {x : Nd} {X : AN} (h : NdIn w x X) : NdIn w x.fix X :=
  ⟨h.1, h.2.1, h.2.2.1, h.2.2.2.1.fix, pair2_map h.2.2.2.2 fun p x h => h⟩

theorem ed_fix {w : World} {x : Ed} {X : AE} (h : EdIn w x X) : EdIn w x.fix X :=
  ⟨h.1, h.2.1, h.2.2.1, h.2.2.2.1, h.2.2.2.2.1, h.2.2.2.2.2.1.fix, pair2_map h.2.2.2.2.2.2 fun p x h => h⟩

/-- A graph that its check takes, by what it holds, is right. -/
theorem gr_rightP {w : World} {N : List Nd} {E : List Ed} {na : Option Addr} {nl : Nat} {ea : Option Addr} {el : Nat} {next : Int} (h : GrOk w N E na nl ea el) (h0 : gE N E next = 0) :
    ∃ XN XE, Pair2 (NdIn w) N XN ∧ Pair2 (EdIn w) E XE ∧ ∀ made, Rt ⟨XN, XE, next, made⟩ := by
  obtain ⟨h1, h2, h3, h4⟩ := h
  have r := (gE_iff N E next).1 h0
  obtain ⟨XN, p1, o1⟩ := nodes_right h3 r.nds
  obtain ⟨XE, p2, o2⟩ := edges_right h2 h4 (fun x hx => (r.eds x hx).2.2.2.2)
  have e1 : N.map Nd.id = XN.map AN.id := pair_map p1 fun p x h => h.1
  have e2 : E.map Ed.id = XE.map AE.id := pair_map p2 fun p x h => h.1
  refine ⟨XN, XE, p1, p2, fun made => ⟨by show XN.length ≤ 40; rw [← p1.1]; exact r.n40, by show XE.length ≤ 60; rw [← p2.1]; exact r.e60, by show Rise (XN.map AN.id); rw [← e1]; exact r.nri, by show Rise (XE.map AE.id); rw [← e2]; exact r.eri, r.pos, r.most, fun X hX => ?_, fun X hX => ?_, o1, fun X hX => ?_⟩⟩
  · obtain ⟨p, hp, h⟩ := pair_mem p1 hX
    rw [← h.1]
    exact r.nid p hp
  · obtain ⟨p, hp, h⟩ := pair_mem p2 hX
    have hno := (r.eds p hp).1
    unfold hasN at hno
    rw [e1] at hno
    rw [← h.1]
    exact ⟨(r.eid p hp).1, (r.eid p hp).2, by simpa using hno⟩
  · obtain ⟨p, hp, h⟩ := pair_mem p2 hX
    have hq := r.eds p hp
    unfold hasN at hq
    rw [e1] at hq
    rw [← h.2.1, ← h.2.2.1, ← h.2.2.2.1]
    exact ⟨hq.2.1, by simpa using hq.2.2.1, by simpa using hq.2.2.2.1, o2 X hX⟩

/-- A right work lies as a graph that its check takes. -/
theorem gr_backP (B : Nat) {w : World} (hB : B ≤ w.heap.size) (hT : Tabs B w) {S : WS} (hS : Rt S) {na : Option Addr} {nl : Nat} {ea : Option Addr} {el : Nat} (hN : NsAt w S.N na nl) (hE : EsAt w S.E ea el) : ∃ N E, (GrOk w N E na nl ea el ∧ gE N E S.next = 0) ∧ Pair2 (NdIn w) N S.N ∧ Pair2 (EdIn w) E S.E := by
  obtain ⟨N, hA, p1⟩ := hN
  obtain ⟨E, hA', p2⟩ := hE
  have i1 : (N.map Nd.fix).map Nd.id = S.N.map AN.id := by rw [List.map_map, show (Nd.id ∘ Nd.fix) = Nd.id from rfl]; exact pair_map p1 fun p x h => h.1
  have i2 : (E.map Ed.fix).map Ed.id = S.E.map AE.id := by rw [List.map_map, show (Ed.id ∘ Ed.fix) = Ed.id from rfl]; exact pair_map p2 fun p x h => h.1
  have hn : ∀ x ∈ N, ∃ X ∈ S.N, NdIn w x X := fun x hx => pair_mem' p1 hx
  have he : ∀ x ∈ E, ∃ X ∈ S.E, EdIn w x X := fun x hx => pair_mem' p2 hx
  refine ⟨N.map Nd.fix, E.map Ed.fix, ?_, pair2_map p1 fun p x h => nd_fix h, pair2_map p2 fun p x h => ed_fix h⟩
  refine ⟨⟨hA.fix, hA'.fix, fun y hy => ?_, fun y hy => ?_⟩, (gE_iff _ _ _).2 ⟨by rw [List.length_map, p1.1]; exact hS.n40, by rw [List.length_map, p2.1]; exact hS.e60, by rw [i1]; exact hS.nri, by rw [i2]; exact hS.eri, hS.pos, hS.next, fun y hy => ?_, fun y hy => ?_, fun y hy => ?_, fun y hy => ?_⟩⟩
  · obtain ⟨x, hx, rfl⟩ := List.mem_map.1 hy
    obtain ⟨X, hX, q1, q2, q3, q4, q5⟩ := hn x hx
    exact ⟨q3, q4.fix, (props_back B hB hT q5 (hS.nds X hX).2).1⟩
  · obtain ⟨x, hx, rfl⟩ := List.mem_map.1 hy
    obtain ⟨X, hX, q1, q2, q3, q4, q5, q6, q7⟩ := he x hx
    exact ⟨q6.fix, (props_back B hB hT q7 (hS.eds X hX).2.2.2).1⟩
  · obtain ⟨x, hx, rfl⟩ := List.mem_map.1 hy
    obtain ⟨X, hX, q1, _⟩ := hn x hx
    show 0 < x.id ∧ x.id < S.next
    rw [q1]
    exact hS.nid X hX
  · obtain ⟨x, hx, rfl⟩ := List.mem_map.1 hy
    obtain ⟨X, hX, q1, _⟩ := he x hx
    show 0 < x.id ∧ x.id < S.next
    rw [q1]
    exact ⟨(hS.eid X hX).1, (hS.eid X hX).2.1⟩
  · obtain ⟨x, hx, rfl⟩ := List.mem_map.1 hy
    obtain ⟨X, hX, q1, q2, q3, q4, q5⟩ := hn x hx
    refine ⟨(labsE_iff _).2 ?_, (props_back B hB hT q5 (hS.nds X hX).2).2⟩
    show RtL x.labs
    rw [q2]
    exact (hS.nds X hX).1
  · obtain ⟨x, hx, rfl⟩ := List.mem_map.1 hy
    obtain ⟨X, hX, q1, q2, q3, q4, q5, q6, q7⟩ := he x hx
    have hd := hS.eds X hX
    have hi := (hS.eid X hX).2.2
    unfold hasN
    rw [i1]
    refine ⟨?_, ?_, ?_, ?_, (props_back B hB hT q7 hd.2.2.2).2⟩
    · rw [← q1] at hi
      exact decide_eq_false hi
    · show nm x.typ = true
      rw [q4]
      exact hd.1
    · have := hd.2.1
      rw [← q2] at this
      exact decide_eq_true this
    · have := hd.2.2.1
      rw [← q3] at this
      exact decide_eq_true this

/-- What is seen of what is right is right. -/
theorem seen_rt {G : List ByteArray} {N : List AN} {E : List AE} {nx : Int} {made : List Int} (h : Rt ⟨N, E, nx, made⟩) : Rt ⟨seenN G N, seenE (seenN G N) E, nx, made⟩ := by
  have sN : ∀ X ∈ seenN G N, X ∈ N := fun X hX => (seenN_sub G N).subset hX
  have sE : ∀ X ∈ seenE (seenN G N) E, X ∈ E := fun X hX => (seenE_sub _ E).subset hX
  refine ⟨Nat.le_trans (seenN_sub G N).length_le h.n40, Nat.le_trans (seenE_sub _ E).length_le h.e60, seenN_rise h.nri, seenE_rise h.eri, h.pos, h.next, fun X hX => h.nid X (sN X hX), fun X hX => ?_, fun X hX => h.nds X (sN X hX), fun X hX => ?_⟩
  · obtain ⟨e1, e2, e3⟩ := h.eid X (sE X hX)
    refine ⟨e1, e2, fun hm => e3 ?_⟩
    obtain ⟨y, hy, e⟩ := List.mem_map.1 hm
    exact List.mem_map.2 ⟨y, sN y hy, e⟩
  · obtain ⟨d1, d2, d3, d4⟩ := h.eds X (sE X hX)
    obtain ⟨f1, f2⟩ := seenE_ends hX
    obtain ⟨x, hx, e⟩ := hasA_mem.1 f1
    obtain ⟨y, hy, e'⟩ := hasA_mem.1 f2
    exact ⟨d1, List.mem_map.2 ⟨x, hx, e⟩, List.mem_map.2 ⟨y, hy, e'⟩, d4⟩
end Go.Proofs.YthikpmngcbgbfaaDoor
