/-
  What is proved here: what the texts SPure, HWork, TPure, HDel prove, in one text.
-/
import Derived.Test.YtdlmlpddkfnfmaaGreatDoorRows
import Derived.Test.YtdlmlpddkfnfmaaGreatDoorQMAM
import Derived.Test.YtdlmlpddkfnfmaaGreatDoorQMAF
import Derived.Test.YtdlmlpddkfnfmaaGreatDoorQMAN
import Derived.Deep.RegionLaw
import Derived.Lib.SliceRun
namespace Go.Proofs.YtdlmlpddkfnfmaaGreatDoor
open Go.RowKit
set_option linter.unusedVariables false

set_option linter.unusedVariables false

section
variable {α : Type}

/-- D' is D, mixed within a range. -/
def MixS (a b : Nat) (D D' : List α) : Prop := D'.length = D.length ∧ D'.take a = D.take a ∧ D'.drop b = D.drop b ∧ D'.Perm D

theorem MixS.refl (a b : Nat) (D : List α) : MixS a b D D := ⟨rfl, rfl, rfl, List.Perm.refl _⟩

theorem MixS.trans {a b : Nat} {D D' D'' : List α} (h : MixS a b D D') (k : MixS a b D' D'') : MixS a b D D'' := ⟨k.1.trans h.1, k.2.1.trans h.2.1, k.2.2.1.trans h.2.2.1, k.2.2.2.trans h.2.2.2⟩

theorem MixS.wide {a b a' b' : Nat} {D D' : List α} (h : MixS a b D D') (ha : a' ≤ a) (hb : b ≤ b') : MixS a' b' D D' := by
  refine ⟨h.1, ?_, ?_, h.2.2.2⟩
  · have := congrArg (List.take a') h.2.1
    rwa [List.take_take, List.take_take, Nat.min_eq_left ha] at this
  · have := congrArg (List.drop (b' - b)) h.2.2.1
    rw [List.drop_drop, List.drop_drop] at this
    rwa [show b + (b' - b) = b' by omega] at this

theorem MixS.before {a b : Nat} {D D' : List α} (h : MixS a b D D') {i : Nat} (hi : i < a) : D'[i]? = D[i]? := by
  have := congrArg (fun l => l[i]?) h.2.1
  simpa [List.getElem?_take, hi] using this

theorem MixS.behind {a b : Nat} {D D' : List α} (h : MixS a b D D') {i : Nat} (hi : b ≤ i) : D'[i]? = D[i]? := by
  have := congrArg (fun l => l[i - b]?) h.2.2.1
  simp only [List.getElem?_drop] at this
  rwa [show b + (i - b) = i by omega] at this

/-- The part of a list within a range. -/
def segS (D : List α) (a b : Nat) : List α := (D.drop a).take (b - a)

theorem split3 (D : List α) (a b : Nat) (hab : a ≤ b) : D = D.take a ++ (segS D a b ++ D.drop b) := by
  have h1 : D.drop b = (D.drop a).drop (b - a) := by rw [List.drop_drop]; congr 1; omega
  rw [h1, segS, List.take_append_drop, List.take_append_drop]

theorem MixS.segS {a b : Nat} {D D' : List α} (h : MixS a b D D') (hab : a ≤ b) : (segS D' a b).Perm (segS D a b) := by
  have hp := h.2.2.2
  rw [split3 D a b hab, split3 D' a b hab, h.2.1, h.2.2.1] at hp
  exact (List.perm_append_right_iff _).1 ((List.perm_append_left_iff _).1 hp)

theorem seg_get (D : List α) (a b i : Nat) (x : α) (ha : a ≤ i) (hb : i < b) (h : D[i]? = some x) : x ∈ segS D a b := by
  refine List.mem_of_getElem? (i := i - a) ?_
  rw [segS, List.getElem?_take, if_pos (by omega), List.getElem?_drop, show a + (i - a) = i by omega, h]

theorem get_seg (D : List α) (a b : Nat) (x : α) (h : x ∈ segS D a b) : ∃ i, a ≤ i ∧ i < b ∧ D[i]? = some x := by
  obtain ⟨j, hj⟩ := List.getElem?_of_mem h
  rw [segS, List.getElem?_take] at hj
  split at hj
  · rw [List.getElem?_drop] at hj
    exact ⟨a + j, by omega, by omega, hj⟩
  · cases hj

/-- What stands in the range stood in it. -/
theorem MixS.from {a b : Nat} {D D' : List α} (h : MixS a b D D') (hab : a ≤ b) {i : Nat} {x : α} (ha : a ≤ i) (hb : i < b) (hx : D'[i]? = some x) : ∃ j, a ≤ j ∧ j < b ∧ D[j]? = some x :=
  get_seg D a b x ((h.segS hab).mem_iff.1 (seg_get D' a b i x ha hb hx))

variable (key : α → Int)

/-- A part that rises. -/
def Ris (D : List α) (a b : Nat) : Prop := ∀ (i j : Nat) (x y : α), a ≤ i → i < j → j < b → D[i]? = some x → D[j]? = some y → key x ≤ key y

/-- Each of a part is at most each of the next. -/
def Und (D : List α) (a m b : Nat) : Prop := ∀ (i j : Nat) (x y : α), a ≤ i → i < m → m ≤ j → j < b → D[i]? = some x → D[j]? = some y → key x ≤ key y

variable {key}

theorem Ris.sub {D : List α} {a b a' b' : Nat} (h : Ris key D a b) (ha : a ≤ a') (hb : b' ≤ b) : Ris key D a' b' := fun i j x y h1 h2 h3 hx hy => h i j x y (by omega) h2 (by omega) hx hy

theorem Ris.one {D : List α} {a b : Nat} (h : b ≤ a + 1) : Ris key D a b := fun i j x y h1 h2 h3 _ _ => by omega

theorem Ris.join {D : List α} {a m b : Nat} (h1 : Ris key D a m) (h2 : Ris key D m b) (hu : Und key D a m b) : Ris key D a b := fun i j x y ha hij hb hx hy => by
  by_cases hm : j < m
  · exact h1 i j x y ha hij hm hx hy
  · by_cases hi : i < m
    · exact hu i j x y ha hi (by omega) hb hx hy
    · exact h2 i j x y (by omega) hij hb hx hy

theorem Und.mix1 {D D' : List α} {a m b : Nat} (h : Und key D a m b) (ham : a ≤ m) (k : MixS a m D D') : Und key D' a m b := fun i j x y h1 h2 h3 h4 hx hy => by
  obtain ⟨i', g1, g2, g3⟩ := k.from ham h1 h2 hx
  rw [k.behind h3] at hy
  exact h i' j x y g1 g2 h3 h4 g3 hy

theorem Und.mix2 {D D' : List α} {a m b : Nat} (h : Und key D a m b) (hmb : m ≤ b) (k : MixS m b D D') : Und key D' a m b := fun i j x y h1 h2 h3 h4 hx hy => by
  obtain ⟨j', g1, g2, g3⟩ := k.from hmb h3 h4 hy
  rw [k.before h2] at hx
  exact h i j' x y h1 h2 g1 g2 hx g3

theorem Ris.before {D D' : List α} {a b a' b' : Nat} (h : Ris key D a b) (k : MixS a' b' D D') (hb : b ≤ a') : Ris key D' a b := fun i j x y h1 h2 h3 hx hy => by
  rw [k.before (by omega)] at hx hy
  exact h i j x y h1 h2 h3 hx hy

theorem Ris.behind {D D' : List α} {a b a' b' : Nat} (h : Ris key D a b) (k : MixS a' b' D D') (hb : b' ≤ a) : Ris key D' a b := fun i j x y h1 h2 h3 hx hy => by
  rw [k.behind (by omega)] at hx hy
  exact h i j x y h1 h2 h3 hx hy

/-- Two that change places. -/
def swp (D : List α) (i j : Nat) : List α := match D[i]?, D[j]? with
  | some x, some y => (D.set i y).set j x
  | _, _ => D

theorem swp_eq {D : List α} {i j : Nat} {x y : α} (hx : D[i]? = some x) (hy : D[j]? = some y) : swp D i j = (D.set i y).set j x := by simp [swp, hx, hy]

theorem swp_get {D : List α} {i j : Nat} {x y : α} (hx : D[i]? = some x) (hy : D[j]? = some y) (k : Nat) : (swp D i j)[k]? = if k = j then some x else if k = i then some y else D[k]? := by
  have hi := (List.getElem?_eq_some_iff.1 hx).1
  have hj := (List.getElem?_eq_some_iff.1 hy).1
  rw [swp_eq hx hy, List.getElem?_set]
  by_cases h1 : k = j
  · subst h1; simp [hj]
  · rw [if_neg (Ne.symm h1), if_neg h1, List.getElem?_set]
    by_cases h2 : k = i
    · subst h2; simp [hi]
    · rw [if_neg (Ne.symm h2), if_neg h2]

theorem swp_perm {D : List α} {i j : Nat} {x y : α} (hx : D[i]? = some x) (hy : D[j]? = some y) (hij : i < j) : (swp D i j).Perm D := by
  have hi := (List.getElem?_eq_some_iff.1 hx).1
  have hj := (List.getElem?_eq_some_iff.1 hy).1
  have e : D = D.take i ++ (x :: (segS D (i + 1) j ++ (y :: D.drop (j + 1)))) := by
    have h1 := split3 D (i + 1) j (by omega)
    have h2 : D.take (i + 1) = D.take i ++ [x] := by rw [List.take_add_one, hx]; rfl
    have h3 : D.drop j = y :: D.drop (j + 1) := by
      rw [List.drop_eq_getElem_cons hj]
      congr 1
      rw [List.getElem?_eq_getElem hj] at hy
      exact Option.some.inj hy
    rw [h2, h3] at h1
    simpa using h1
  have lt : (D.take i).length = i := by rw [List.length_take]; omega
  have ls : (segS D (i + 1) j).length = j - (i + 1) := by rw [segS, List.length_take, List.length_drop]; omega
  have e2 : swp D i j = D.take i ++ (y :: (segS D (i + 1) j ++ (x :: D.drop (j + 1)))) := by
    apply List.ext_getElem?
    intro k
    rw [swp_get hx hy]
    by_cases h1 : k = j
    · subst h1
      rw [if_pos rfl, List.getElem?_append_right (by omega), lt, List.getElem?_cons, if_neg (by omega), List.getElem?_append_right (by omega), ls]
      rw [show k - i - 1 - (k - (i + 1)) = 0 by omega]
      rfl
    · rw [if_neg h1]
      by_cases h2 : k = i
      · subst h2
        rw [if_pos rfl, List.getElem?_append_right (by omega), lt, Nat.sub_self]
        rfl
      · rw [if_neg h2]
        conv => lhs; rw [e]
        by_cases h3 : k < i
        · rw [List.getElem?_append_left (by omega), List.getElem?_append_left (by omega)]
        · rw [List.getElem?_append_right (by omega), List.getElem?_append_right (by omega), lt]
          rw [List.getElem?_cons, List.getElem?_cons, if_neg (by omega), if_neg (by omega)]
          by_cases h4 : k < j
          · rw [List.getElem?_append_left (by omega), List.getElem?_append_left (by omega)]
          · rw [List.getElem?_append_right (by omega), List.getElem?_append_right (by omega), ls, List.getElem?_cons, List.getElem?_cons, if_neg (by omega), if_neg (by omega)]
  rw [e2]
  conv => rhs; rw [e]
  refine List.Perm.append_left _ ?_
  refine List.Perm.trans (l₂ := y :: x :: (segS D (i + 1) j ++ D.drop (j + 1))) (List.Perm.cons _ List.perm_middle) ?_
  refine List.Perm.trans (List.Perm.swap _ _ _) ?_
  exact List.Perm.cons _ List.perm_middle.symm

theorem swp_mix {D : List α} {i j a b : Nat} {x y : α} (hx : D[i]? = some x) (hy : D[j]? = some y) (hij : i < j) (ha : a ≤ i) (hb : j < b) : MixS a b D (swp D i j) := by
  refine ⟨?_, ?_, ?_, swp_perm hx hy hij⟩
  · rw [swp_eq hx hy]; simp
  · apply List.ext_getElem?
    intro k
    rw [List.getElem?_take, List.getElem?_take]
    split
    · rw [swp_get hx hy, if_neg (by omega), if_neg (by omega)]
    · rfl
  · apply List.ext_getElem?
    intro k
    rw [List.getElem?_drop, List.getElem?_drop, swp_get hx hy, if_neg (by omega), if_neg (by omega)]

end

/-- What is being changed, by what it holds. -/
structure WS where
  N : List AN
  E : List AE
  next : Int
  made : List Int



/-- All blocks that were there, but those that O allows, are as they were. -/
structure Rest (O : Nat → Prop) (w w' : World) : Prop where
  os : w'.os = w.os
  tape : w'.tape = w.tape
  output : w'.output = w.output
  size : w.heap.size ≤ w'.heap.size
  block : ∀ i, i < w.heap.size → ¬ O i → w'.heap[i]? = w.heap[i]?

theorem Rest.refl (O : Nat → Prop) (w : World) : Rest O w w := ⟨rfl, rfl, rfl, Nat.le_refl _, fun _ _ _ => rfl⟩

theorem Rest.of_below {O : Nat → Prop} {w w' : World} (k : Below w.heap.size w w') : Rest O w w' := ⟨k.os, k.tape, k.output, k.size, fun i hi _ => k.block i hi⟩

theorem Rest.trans {O O' : Nat → Prop} {w w1 w2 : World} (h : Rest O w w1) (k : Rest O' w1 w2) (hO : ∀ i, i < w.heap.size → O' i → O i) : Rest O w w2 :=
  ⟨k.os.trans h.os, k.tape.trans h.tape, k.output.trans h.output, Nat.le_trans h.size k.size, fun i hi hn => (k.block i (Nat.lt_of_lt_of_le hi h.size) (fun q => hn (hO i hi q))).trans (h.block i hi hn)⟩

theorem Rest.below {O : Nat → Prop} {w w' : World} (h : Rest O w w') {B : Nat} (hB : B ≤ w.heap.size) (hO : ∀ i, O i → B ≤ i) : Below B w w' :=
  ⟨h.os, h.tape, h.output, h.size, fun i hi => h.block i (by omega) (fun q => by have := hO i q; omega)⟩

theorem Rest.alloc {O : Nat → Prop} {w u : World} (h : Rest O w u) (o : Obj) : Rest O w (u.alloc o) :=
  ⟨h.os, h.tape, h.output, Nat.le_trans h.size (by simp), fun i hi hn => (Below.heap_alloc u o i (Nat.lt_of_lt_of_le hi h.size)).trans (h.block i hi hn)⟩

theorem Rest.set {O : Nat → Prop} {w u : World} (h : Rest O w u) (p : Addr) (hp : w.heap.size ≤ p.block) (v : Value) : Rest O w (u.setCell p v) :=
  ⟨h.os, h.tape, h.output, Nat.le_trans h.size (by simp [World.setCell]), fun i hi hn => (Below.heap_setCell u p v i (by omega)).trans (h.block i hi hn)⟩

theorem cell_same {w w' : World} {b : Nat} (h : w'.heap[b]? = w.heap[b]?) (o : Nat) : w'.cell? ⟨b, o, none⟩ = w.cell? ⟨b, o, none⟩ := World.cell?_of_block (w := w) (a := ⟨b, o, none⟩) h

/-- Where a work lies: its own block, and the blocks of its nodes, its edges and its made numbers, all apart. -/
structure WorkAt (O : Nat → Prop) (w : World) (b : Nat) (S : WS) (na : Option Addr) (nc : Nat) (ea : Option Addr) (ec : Nat) (ma : Option Addr) (mc : Nat) (PN PE PM : Nat → Prop) : Prop where
  blk : w.heap[b]? = some (.cells #[.slice na S.N.length nc, .slice ea S.E.length ec, .int .i64 S.next, .slice ma S.made.length mc] 69 (0, 0))
  ob : O b
  lt : ∀ i, O i → i < w.heap.size
  pn : ∀ i, PN i → O i ∧ i ≠ b
  pe : ∀ i, PE i → O i ∧ i ≠ b ∧ ¬ PN i
  pm : ∀ i, PM i → O i ∧ i ≠ b ∧ ¬ PN i ∧ ¬ PE i
  ns : NsOwn PN w S.N (.slice na S.N.length nc)
  es : EsOwn PE w S.E (.slice ea S.E.length ec)
  ms : OwnB PM (.slice ma S.made.length mc)
  mr : w.ownsRow 0 3 1 (.slice ma S.made.length mc) S.made.length (ints S.made)

def WorkIn (O : Nat → Prop) (w : World) (b : Nat) (S : WS) : Prop := ∃ na nc ea ec ma mc PN PE PM, WorkAt O w b S na nc ea ec ma mc PN PE PM

theorem WorkIn.lt {O : Nat → Prop} {w : World} {b : Nat} {S : WS} (h : WorkIn O w b S) : b < w.heap.size := by
  obtain ⟨_, _, _, _, _, _, _, _, _, h⟩ := h
  exact h.lt b h.ob

theorem WorkIn.lts {O : Nat → Prop} {w : World} {b : Nat} {S : WS} (h : WorkIn O w b S) : ∀ i, O i → i < w.heap.size := by
  obtain ⟨_, _, _, _, _, _, _, _, _, h⟩ := h
  exact h.lt

/-- It stays where its blocks stay. -/
theorem WorkIn.kept {O O' : Nat → Prop} {w w' : World} {b : Nat} {S : WS} (h : WorkIn O w b S) (hs : w.heap.size ≤ w'.heap.size) (hk : ∀ i, O i → w'.heap[i]? = w.heap[i]?) (hO : ∀ i, O i → O' i) (hl : ∀ i, O' i → i < w'.heap.size) : WorkIn O' w' b S := by
  obtain ⟨na, nc, ea, ec, ma, mc, PN, PE, PM, h⟩ := h
  exact ⟨na, nc, ea, ec, ma, mc, PN, PE, PM, (hk b h.ob).trans h.blk, hO b h.ob, hl, fun i hi => ⟨hO i (h.pn i hi).1, (h.pn i hi).2⟩, fun i hi => ⟨hO i (h.pe i hi).1, (h.pe i hi).2⟩, fun i hi => ⟨hO i (h.pm i hi).1, (h.pm i hi).2⟩,
    h.ns.kept ⟨hs, fun i hi _ => ⟨hi, hk i (h.pn i hi).1⟩⟩, h.es.kept ⟨hs, fun i hi _ => ⟨hi, hk i (h.pe i hi).1⟩⟩, h.ms, row_keep h.mr fun g hg _ => hk g (h.pm g (h.ms g hg)).1⟩

theorem WorkIn.below {O : Nat → Prop} {w w' : World} {b : Nat} {S : WS} (h : WorkIn O w b S) (k : Below w.heap.size w w') : WorkIn O w' b S :=
  h.kept k.size (fun i hi => k.block i (h.lts i hi)) (fun _ h => h) (fun i hi => Nat.lt_of_lt_of_le (h.lts i hi) k.size)

/-- What is allowed behind a step. -/
def Now (O : Nat → Prop) (w w' : World) : Nat → Prop := fun i => O i ∨ (w.heap.size ≤ i ∧ i < w'.heap.size)

/-- What a step leaves: the work, in what it had and in new blocks; all else as it was. -/
def StepEnd (O : Nat → Prop) (w w' : World) (b : Nat) (S : WS) : Prop := WorkIn (Now O w w') w' b S ∧ Rest O w w'

theorem StepEnd.of_below {O : Nat → Prop} {w w' : World} {b : Nat} {S : WS} (h : WorkIn O w b S) (k : Below w.heap.size w w') : StepEnd O w w' b S :=
  ⟨h.kept k.size (fun i hi => k.block i (h.lts i hi)) (fun _ h => .inl h) (fun i hi => hi.elim (fun q => Nat.lt_of_lt_of_le (h.lts i q) k.size) (fun q => q.2)), Rest.of_below k⟩

/-- Two steps. -/
theorem StepEnd.trans {O : Nat → Prop} {w w1 w2 : World} {b : Nat} {S1 S2 : WS} (h : StepEnd O w w1 b S1) (k : StepEnd (Now O w w1) w1 w2 b S2) : StepEnd O w w2 b S2 := by
  refine ⟨k.1.kept (Nat.le_refl _) (fun _ _ => rfl) (fun i hi => ?_) (fun i hi => ?_), h.2.trans k.2 fun i hi q => q.elim id (fun q => absurd q.1 (by omega))⟩
  · rcases hi with (hi | hi) | hi
    · exact .inl hi
    · exact .inr ⟨hi.1, Nat.lt_of_lt_of_le hi.2 k.2.size⟩
    · exact .inr ⟨Nat.le_trans h.2.size hi.1, hi.2⟩
  · rcases hi with hi | hi
    · exact Nat.lt_of_lt_of_le (h.1.lts i (.inl hi)) k.2.size
    · exact hi.2

/-- A step behind what only makes new blocks. -/
theorem StepEnd.behind {O : Nat → Prop} {w w1 w2 : World} {b : Nat} {S1 S2 : WS} (h : WorkIn O w b S1) (k1 : Below w.heap.size w w1) (k : StepEnd O w1 w2 b S2) : StepEnd O w w2 b S2 := by
  refine ⟨k.1.kept (Nat.le_refl _) (fun _ _ => rfl) (fun i hi => ?_) (fun i hi => ?_), (Rest.of_below k1).trans k.2 fun i hi q => q⟩
  · rcases hi with hi | hi
    · exact .inl hi
    · exact .inr ⟨Nat.le_trans k1.size hi.1, hi.2⟩
  · rcases hi with hi | hi
    · exact Nat.lt_of_lt_of_le (h.lts i hi) (Nat.le_trans k1.size k.2.size)
    · exact hi.2

/-- What only makes new blocks, behind a step. -/
theorem StepEnd.then {O : Nat → Prop} {w w1 w2 : World} {b : Nat} {S : WS} (h : StepEnd O w w1 b S) (k : Below w1.heap.size w1 w2) : StepEnd O w w2 b S := h.trans (StepEnd.of_below h.1 k)

/-- A block that the work hasn't. -/
theorem StepEnd.far {O : Nat → Prop} {w w' : World} {b : Nat} {S : WS} (h : StepEnd O w w' b S) {i : Nat} (hi : i < w.heap.size) (hn : ¬ O i) : w'.heap[i]? = w.heap[i]? := h.2.block i hi hn

/-- Where one stands that is meant. -/
theorem idxF_get {α : Type} (s : α → Bool) : ∀ (Y : List α) (i : Nat), Y.any s = true → ∃ (j : Nat) (y : α), idxF s i Y = ((i + j : Nat) : Int) ∧ Y[j]? = some y ∧ s y = true
  | [], i, h => by simp at h
  | y :: ys, i, h => by
    unfold idxF
    by_cases hy : s y = true
    · rw [if_pos hy]
      exact ⟨0, y, rfl, rfl, hy⟩
    · rw [if_neg hy]
      have h2 : ys.any s = true := by
        rw [List.any_cons] at h
        simpa [hy] using h
      obtain ⟨j, z, h3, h4, h5⟩ := idxF_get s ys (i + 1) h2
      refine ⟨j + 1, z, ?_, ?_, h5⟩
      · rw [h3]
        congr 1
        omega
      · simpa using h4

theorem perm_eraseIdx {α : Type} : ∀ (L : List α) (j : Nat) (x : α), L[j]? = some x → L.Perm (x :: L.eraseIdx j)
  | [], j, x, h => by simp at h
  | y :: ys, 0, x, h => by
    simp at h
    subst h
    exact List.Perm.refl _
  | y :: ys, j + 1, x, h => by
    have ih := perm_eraseIdx ys j x (by simpa using h)
    exact (List.Perm.cons y ih).trans (List.Perm.swap x y _)

theorem Pair2.head {α β : Type} {R : α → β → Prop} {p : α} {P : List α} {x : β} {L : List β} (h : Pair2 R (p :: P) (x :: L)) : R p x ∧ Pair2 R P L :=
  ⟨h.2 0 p x rfl rfl, by have := h.1; simpa using this, fun i q y hq hy => h.2 (i + 1) q y (by simpa using hq) (by simpa using hy)⟩

theorem Pair2.cons {α β : Type} {R : α → β → Prop} {p : α} {P : List α} {x : β} {L : List β} (h : R p x) (k : Pair2 R P L) : Pair2 R (p :: P) (x :: L) :=
  ⟨by simp [k.1], fun i q y hq hy => by
    cases i with
    | zero =>
      simp at hq hy
      rw [← hq, ← hy]
      exact h
    | succ i => exact k.2 i q y (by simpa using hq) (by simpa using hy)⟩

/-- Of a list that is mixed, the other one is mixed likewise. -/
theorem pair_perm {α β : Type} {R : α → β → Prop} {P P' : List α} (h : P'.Perm P) : ∀ {L : List β}, Pair2 R P L → ∃ L', L'.Perm L ∧ Pair2 R P' L' := by
  replace h := h.symm
  induction h with
  | nil => exact fun {L} h => ⟨L, List.Perm.refl _, h⟩
  | cons p _ ih =>
    intro L h
    cases L with
    | nil => have := h.1; simp at this
    | cons x L =>
      obtain ⟨h1, h2⟩ := h.head
      obtain ⟨L', h3, h4⟩ := ih h2
      exact ⟨x :: L', h3.cons x, h4.cons h1⟩
  | swap p q l =>
    intro L h
    match L, h with
    | [], h => have := h.1; simp at this
    | [x], h => have := h.1; simp at this
    | x :: y :: L, h =>
      obtain ⟨h1, h2⟩ := h.head
      obtain ⟨h3, h4⟩ := h2.head
      exact ⟨y :: x :: L, List.Perm.swap x y L, (h4.cons h1).cons h3⟩
  | trans _ _ ih1 ih2 =>
    intro L h
    obtain ⟨L1, h1, h2⟩ := ih1 h
    obtain ⟨L2, h3, h4⟩ := ih2 h2
    exact ⟨L2, h3.trans h1, h4⟩

theorem rise_pairs {α : Type} {f : α → Int} {L : List α} (h : Rise (L.map f)) : L.Pairwise (fun x y => f x < f y) := by
  rw [List.pairwise_iff_getElem]
  intro i j hi hj hij
  exact h i j _ _ hij (by rw [List.getElem?_map, List.getElem?_eq_getElem hi]; rfl) (by rw [List.getElem?_map, List.getElem?_eq_getElem hj]; rfl)

theorem any_mem {α : Type} {s : α → α → Bool} (hs : ∀ x y, s x y = true ↔ x = y) (x : α) (B : List α) : B.any (s x) = true ↔ x ∈ B := by
  rw [List.any_eq_true]
  constructor
  · rintro ⟨y, hy, h⟩
    rw [(hs x y).1 h]
    exact hy
  · intro h
    exact ⟨x, h, (hs x x).2 rfl⟩

/-- Those of A that B has, too. -/
def bothL {α : Type} (s : α → α → Bool) (A B : List α) : List α := A.filter fun x => B.any (s x)

theorem both_lack {α : Type} {s : α → α → Bool} (A B : List α) : A.Perm (bothL s A B ++ lackL s A B) := (List.filter_append_perm _ _).symm

theorem lack_not {α : Type} {s : α → α → Bool} (hs : ∀ x y, s x y = true ↔ x = y) {A B : List α} {x : α} (h : x ∈ lackL s A B) : x ∈ A ∧ x ∉ B := by
  obtain ⟨h1, h2⟩ := List.mem_filter.1 h
  refine ⟨h1, fun h3 => ?_⟩
  rw [(any_mem hs x B).2 h3] at h2
  cases h2

theorem both_in {α : Type} {s : α → α → Bool} (hs : ∀ x y, s x y = true ↔ x = y) {A B : List α} {x : α} : x ∈ bothL s A B ↔ x ∈ A ∧ x ∈ B := by
  unfold bothL
  rw [List.mem_filter, any_mem hs]

/-- What is to go is there. -/
theorem gone_there {α : Type} {s : α → α → Bool} (hs : ∀ x y, s x y = true ↔ x = y) {X R G : List α} {x : α} (h : X.Perm (R ++ x :: G)) : X.any (s x) = true := (any_mem hs x X).2 (h.mem_iff.2 (by simp))

theorem gone_step {α : Type} {s : α → α → Bool} (hs : ∀ x y, s x y = true ↔ x = y) {X R G : List α} {x y : α} {j : Nat} (h : X.Perm (R ++ x :: G)) (hj : X[j]? = some y) (hy : s x y = true) : (X.eraseIdx j).Perm (R ++ G) := by
  rw [← (hs x y).1 hy] at hj
  have h1 := (perm_eraseIdx X j x hj).symm.trans (h.trans List.perm_middle)
  exact (List.perm_cons x).1 h1

theorem more_new {α : Type} {s : α → α → Bool} (hs : ∀ x y, s x y = true ↔ x = y) {f : α → Int} {A B X : List α} (hB : Rise (B.map f)) (hX : X.Perm (bothL s A B)) {x y : α} (hx : x ∈ lackL s B A) (hy : y ∈ X) : f x ≠ f y := by
  intro e
  obtain ⟨h1, h2⟩ := lack_not hs hx
  obtain ⟨h3, h4⟩ := (both_in hs).1 (hX.mem_iff.1 hy)
  have hp := rise_pairs hB
  have : x = y := by
    obtain ⟨i, hi, rfl⟩ := List.getElem_of_mem h1
    obtain ⟨j, hj, rfl⟩ := List.getElem_of_mem h4
    rw [List.pairwise_iff_getElem] at hp
    rcases Nat.lt_trichotomy i j with h | h | h
    · have := hp i j hi hj h; omega
    · subst h; rfl
    · have := hp j i hj hi h; omega
  rw [this] at h2
  exact h2 h3

theorem nodup_rise {α : Type} {f : α → Int} {A : List α} (h : Rise (A.map f)) : A.Nodup := by
  have hp := rise_pairs h
  rw [List.nodup_iff_pairwise_ne]
  exact hp.imp fun h e => by rw [e] at h; omega

/-- What is sorted of those that stay and those that come is what was to come about. -/
theorem all_turned {α : Type} {s : α → α → Bool} (hs : ∀ x y, s x y = true ↔ x = y) {f : α → Int} {A B X E : List α} (hA : Rise (A.map f)) (hB : Rise (B.map f)) (hX : X.Perm (bothL s A B)) (hE : E.Perm (X ++ lackL s B A)) (hr : E.Pairwise (fun x y => f x ≤ f y)) : E = B := by
  have p1 : (bothL s A B).Perm (bothL s B A) := by
    refine (List.perm_ext_iff_of_nodup ?_ ?_).2 fun x => ?_
    · exact List.Nodup.sublist List.filter_sublist (nodup_rise hA)
    · exact List.Nodup.sublist List.filter_sublist (nodup_rise hB)
    · rw [both_in hs, both_in hs]; exact And.comm
  have p2 : E.Perm B := (hE.trans ((hX.trans p1).append_right _)).trans (both_lack B A).symm
  have hp := rise_pairs hB
  refine List.Perm.eq_of_pairwise (le := fun x y => f x ≤ f y) (fun x y hx hy h1 h2 => ?_) hr (hp.imp fun h => Int.le_of_lt h) p2
  have hx := p2.mem_iff.1 hx
  obtain ⟨i, hi, rfl⟩ := List.getElem_of_mem hx
  obtain ⟨j, hj, rfl⟩ := List.getElem_of_mem hy
  rw [List.pairwise_iff_getElem] at hp
  rcases Nat.lt_trichotomy i j with h | h | h
  · have := hp i j hi hj h; omega
  · subst h; rfl
  · have := hp j i hj hi h; omega

theorem Pair2.eraseT {α β : Type} {R : α → β → Prop} {P : List α} {L : List β} (h : Pair2 R P L) (i : Nat) : Pair2 R (P.eraseIdx i) (L.eraseIdx i) := by
  refine ⟨by rw [List.length_eraseIdx, List.length_eraseIdx, h.1], fun j p x hp hx => ?_⟩
  rw [List.getElem?_eraseIdx] at hp hx
  split at hp
  · rename_i hj
    rw [if_pos hj] at hx
    exact h.2 j p x hp hx
  · rename_i hj
    rw [if_neg hj] at hx
    exact h.2 (j + 1) p x hp hx

theorem Pair2.appendT {α β : Type} {R : α → β → Prop} {P Q : List α} {L M : List β} (h : Pair2 R P L) (k : Pair2 R Q M) : Pair2 R (P ++ Q) (L ++ M) := by
  refine ⟨by simp [h.1, k.1], fun i p x hp hx => ?_⟩
  by_cases hi : i < P.length
  · rw [List.getElem?_append_left hi] at hp
    rw [List.getElem?_append_left (by rw [← h.1]; exact hi)] at hx
    exact h.2 i p x hp hx
  · rw [List.getElem?_append_right (by omega)] at hp
    rw [List.getElem?_append_right (by rw [← h.1]; omega), ← h.1] at hx
    exact k.2 _ p x hp hx

theorem pairs_of_ris {α : Type} {f : α → Int} {E : List α} (h : Ris f E 0 E.length) : E.Pairwise (fun x y => f x ≤ f y) := by
  rw [List.pairwise_iff_getElem]
  intro i j hi hj hij
  exact h i j _ _ (Nat.zero_le _) hij hj (List.getElem?_eq_getElem hi) (List.getElem?_eq_getElem hj)

theorem pairs_of_pair {α β : Type} {R : α → β → Prop} {f : α → Int} {g : β → Int} {P : List α} {L : List β} (h : Pair2 R P L) (hR : ∀ p x, R p x → f p = g x) (k : P.Pairwise (fun x y => f x ≤ f y)) : L.Pairwise (fun x y => g x ≤ g y) := by
  rw [List.pairwise_iff_getElem] at k ⊢
  intro i j hi hj hij
  have hi' : i < P.length := by rw [h.1]; exact hi
  have hj' : j < P.length := by rw [h.1]; exact hj
  have := k i j hi' hj' hij
  rw [hR _ _ (h.2 i _ _ (List.getElem?_eq_getElem hi') (List.getElem?_eq_getElem hi)), hR _ _ (h.2 j _ _ (List.getElem?_eq_getElem hj') (List.getElem?_eq_getElem hj))] at this
  exact this

theorem rowBaseT {w : World} {B B' n size : Nat} {e : TypeId} {v : Value} {xs : List Value} (h : w.ownsRow B e size v n xs) (hB : B' ≤ B) : w.ownsRow B' e size v n xs := by
  refine ⟨h.1, ?_⟩
  rcases h.2 with h | ⟨g, cap, cur, e1, e2, e3⟩
  · exact .inl h
  · exact .inr ⟨g, cap, cur, e1, by omega, e3⟩

theorem rowUpT {w : World} {B B' n m size g cap : Nat} {e : TypeId} {xs : List Value} (h : w.ownsRow B e size (.slice (some ⟨g, 0, none⟩) m cap) n xs) (hB : B' ≤ g) : w.ownsRow B' e size (.slice (some ⟨g, 0, none⟩) m cap) n xs := by
  refine ⟨h.1, ?_⟩
  rcases h.2 with ⟨h0, _⟩ | ⟨g', cap', cur, e1, e2, e3⟩
  · cases h0
  · injection e1 with q1 q2 q3
    injection q1 with q1
    injection q1 with q1
    subst q1 q2 q3
    exact .inr ⟨g, cap, cur, rfl, hB, e3⟩

mutual
theorem ordT_eq : ∀ t u : T, ordT t u = 0 → t = u
  | .node k n s L, .node k' n' s' L', h => by
    rw [ordT_lex] at h
    obtain ⟨h1, h2⟩ := lex_zero h
    rw [cmpP_lex] at h1
    obtain ⟨h3, h4⟩ := lex_zero h1
    obtain ⟨h5, h6⟩ := lex_zero h4
    rw [cmpI_zero h3, cmpI_zero h5, bytes_ext (cmpB_zero h6), ordL_eq L L' h2]
theorem ordL_eq : ∀ L M : List T, ordL L M = 0 → L = M
  | [], [], _ => rfl
  | [], _ :: _, h => by rw [ordL_nil_cons] at h; cases h
  | _ :: _, [], h => by rw [ordL_cons_nil] at h; cases h
  | t :: ts, u :: us, h => by
    rw [ordL_lex] at h
    obtain ⟨h1, h2⟩ := lex_zero h
    rw [ordT_eq t u h1, ordL_eq ts us h2]
end

theorem eqB_eq {α : Type} {r : α → α → Bool} (hr : ∀ x y, r x y = true → x = y) : ∀ X Y : List α, eqB r X Y = true → X = Y
  | [], [], _ => rfl
  | [], _ :: _, h => by cases h
  | _ :: _, [], h => by cases h
  | x :: X, y :: Y, h => by
    have h' : (r x y && eqB r X Y) = true := h
    rw [Bool.and_eq_true] at h'
    rw [hr x y h'.1, eqB_eq hr X Y h'.2]

theorem sameP_eq (x y : AP) (h : sameP x y = true) : x = y := by
  unfold sameP at h
  rw [Bool.and_eq_true, beq_iff_eq, beq_iff_eq] at h
  cases x
  cases y
  congr 1
  · exact bytes_ext h.1
  · exact ordT_eq _ _ h.2

theorem eqS_eq (L M : List ByteArray) (h : eqS L M = true) : L = M := eqB_eq (fun x y h => bytes_ext (by simpa using h)) L M h

theorem sameN_iff (x y : AN) : sameN x y = true ↔ x = y := by
  refine ⟨fun h => ?_, fun h => by rw [h]; exact sameN_self y⟩
  unfold sameN at h
  rw [Bool.and_eq_true, Bool.and_eq_true, beq_iff_eq] at h
  cases x
  cases y
  congr 1
  · exact h.1
  · exact eqS_eq _ _ h.2.1
  · exact eqB_eq sameP_eq _ _ h.2.2

theorem sameE_iff (x y : AE) : sameE x y = true ↔ x = y := by
  refine ⟨fun h => ?_, fun h => by rw [h]; exact sameE_self y⟩
  unfold sameE at h
  rw [Bool.and_eq_true, Bool.and_eq_true, Bool.and_eq_true, Bool.and_eq_true, beq_iff_eq, beq_iff_eq, beq_iff_eq, beq_iff_eq] at h
  cases x
  cases y
  congr 1
  · exact h.1
  · exact h.2.1
  · exact h.2.2.1
  · exact bytes_ext h.2.2.2.1
  · exact eqB_eq sameP_eq _ _ h.2.2.2.2

theorem setCells_put (b : Nat) : ∀ (vs : List Value) (o : Nat) (w : World), w.setCells b o vs = putL w b o vs
  | [], _, _ => rfl
  | v :: vs, o, w => setCells_put b vs (o + 1) _

theorem setL_size : ∀ (vs : List Value) (o : Nat) (cs : Array Value), (setL cs o vs).size = cs.size
  | [], _, _ => rfl
  | v :: vs, o, cs => by
    show (setL (cs.setIfInBounds o v) (o + 1) vs).size = _
    rw [setL_size vs]
    simp

theorem setL_list : ∀ (vs : List Value) (o : Nat) (cs : Array Value), o + vs.length ≤ cs.size → (setL cs o vs).toList = cs.toList.take o ++ vs ++ cs.toList.drop (o + vs.length)
  | [], o, cs, _ => by simp [setL]
  | v :: vs, o, cs, h => by
    have h' : o + 1 + vs.length ≤ (cs.setIfInBounds o v).size := by simp at h ⊢; omega
    show (setL (cs.setIfInBounds o v) (o + 1) vs).toList = _
    rw [setL_list vs (o + 1) _ h']
    have ho : o < cs.toList.length := by simp at h ⊢; omega
    rw [Array.toList_setIfInBounds]
    have e1 : (cs.toList.set o v).take (o + 1) = cs.toList.take o ++ [v] := by
      rw [List.take_add_one, List.getElem?_set_self ho, List.take_set_of_le (Nat.le_refl _)]
      rfl
    have e2 : (cs.toList.set o v).drop (o + 1 + vs.length) = cs.toList.drop (o + 1 + vs.length) := by
      rw [List.drop_set_of_lt (by omega)]
    rw [e1, e2]
    simp [Nat.add_comm, Nat.add_left_comm]

theorem flat_len {α : Type} (f : α → List Value) (k : Nat) (hk : ∀ x, (f x).length = k) : ∀ L : List α, (L.map f).flatten.length = L.length * k
  | [] => by simp
  | x :: L => by
    simp only [List.map_cons, List.flatten_cons, List.length_append, List.length_cons, hk, flat_len f k hk L, Nat.add_mul]
    omega

theorem flat_take {α : Type} (f : α → List Value) (k : Nat) (hk : ∀ x, (f x).length = k) (L : List α) (i : Nat) (hi : i ≤ L.length) : ((L.map f).flatten).take (i * k) = ((L.take i).map f).flatten := by
  have e : (L.map f).flatten = ((L.take i).map f).flatten ++ ((L.drop i).map f).flatten := by
    rw [← List.flatten_append, ← List.map_append, List.take_append_drop]
  have hl : ((L.take i).map f).flatten.length = i * k := by rw [flat_len f k hk, List.length_take, Nat.min_eq_left hi]
  rw [e, List.take_append_of_le_length (by omega), List.take_of_length_le (by omega)]

/-- A row without one place: those behind it moved, the last one's cells written over. -/
theorem own_erase {α : Type} (f : α → List Value) (k : Nat) (hk : ∀ x, (f x).length = k) {w : World} {e : TypeId} {g cap : Nat} (L : List α) (i : Nat) (hi : i < L.length) (h : w.ownsRow 0 e k (.slice (some ⟨g, 0, none⟩) L.length cap) L.length ((L.map f).flatten)) (zs : List Value) (hz : zs.length = k) :
    ((w.setCells g (i * k) (((L.drop (i + 1)).map f).flatten)).setCells g ((L.length - 1) * k) zs).ownsRow 0 e k (.slice (some ⟨g, 0, none⟩) (L.length - 1) cap) (L.length - 1) (((L.eraseIdx i).map f).flatten) := by
  obtain ⟨_, h⟩ := h
  refine ⟨by rw [flat_len f k hk, List.length_eraseIdx_of_lt hi], .inr ?_⟩
  rcases h with ⟨h0, h1⟩ | ⟨g', cap', cur, h0, h1, h2, h3, h4, h5, h6⟩
  · omega
  · injection h0 with e1 _ e3
    injection e1 with e1
    injection e1 with e1
    subst e1 e3
    have hn : ((L.drop (i + 1)).map f).flatten.length = (L.length - 1 - i) * k := by rw [flat_len f k hk, List.length_drop]; congr 1; omega
    have hnk : L.length * k ≤ cur.size := by rw [h5]; exact Nat.mul_le_mul_right k h3
    have e7 : i * k + (L.length - 1 - i) * k = (L.length - 1) * k := by rw [← Nat.add_mul]; congr 1; omega
    have e8 : (L.length - 1) * k + k = L.length * k := by
      have : L.length = (L.length - 1) + 1 := by omega
      conv => rhs; rw [this, Nat.add_mul, Nat.one_mul]
    have q1 := putL_here (((L.drop (i + 1)).map f).flatten) (i * k) w cur h2
    have q2 := putL_here zs ((L.length - 1) * k) _ _ q1
    rw [← setCells_put, ← setCells_put] at q2
    refine ⟨g, cap, _, rfl, Nat.zero_le _, q2, by omega, h4, by rw [setL_size, setL_size, h5], ?_⟩
    have l1 : (setL cur (i * k) (((L.drop (i + 1)).map f).flatten)).toList = cur.toList.take (i * k) ++ ((L.drop (i + 1)).map f).flatten ++ cur.toList.drop (i * k + (((L.drop (i + 1)).map f).flatten).length) := setL_list _ _ _ (by omega)
    rw [setL_list zs _ _ (by rw [setL_size]; omega), l1]
    have l2 : (cur.toList.take (i * k) ++ ((L.drop (i + 1)).map f).flatten).length = (L.length - 1) * k := by
      rw [List.length_append, List.length_take, hn, Nat.min_eq_left (by simp; have := Nat.mul_le_mul_right k (Nat.le_of_lt hi); omega)]
      exact e7
    have l3 : ∀ (A B C D : List Value) (m : Nat), A.length = m → List.take m (List.take m (A ++ B) ++ C ++ D) = A := by
      intro A B C D m hm
      rw [List.append_assoc, List.take_append_of_le_length (by simp [hm]), List.take_take, Nat.min_self, List.take_append_of_le_length (by omega), List.take_of_length_le (by omega)]
    rw [l3 _ _ _ _ _ l2]
    have l4 : cur.toList.take (i * k) = ((L.take i).map f).flatten := by
      rw [← flat_take f k hk L i (Nat.le_of_lt hi), ← h6, List.take_take, Nat.min_eq_left (Nat.mul_le_mul_right k (Nat.le_of_lt hi))]
    rw [l4, List.eraseIdx_eq_take_drop_succ, List.map_append, List.flatten_append]

set_option maxHeartbeats 4000000 in
set_option maxRecDepth 100000 in
theorem deleteN_any (L : List Nd) (g cap i r : Nat) (w : World) (hn : L.length = i + 1 + r) (h : w.ownsRow 0 49 3 (.slice (some ⟨g, 0, none⟩) (i + 1 + r) cap) (i + 1 + r) (rowN L)) (hl : i + 1 + r ≤ 1000) :
    Calls Tryz.prog 98 #[.slice (some ⟨g, 0, none⟩) (i + 1 + r) cap, .int .i64 i, .int .i64 (i + 1)] w fun e w' => e = .returned (.slice (some ⟨g, 0, none⟩) (i + r) cap) ∧ w'.ownsRow 0 49 3 (.slice (some ⟨g, 0, none⟩) (i + r) cap) (i + r) (rowN (L.eraseIdx i)) ∧ Rest (fun j => j = g) w w' := by
  obtain ⟨news, hnews⟩ : ∃ z, z = ((L.drop (i + 1)).map Nd.cells).flatten := ⟨_, rfl⟩
  have hlen : news.length = r * 3 := by rw [hnews, flat_len Nd.cells 3 (fun _ => rfl), List.length_drop, hn]; congr 1; omega
  have hfl : rowN L = ((L.take (i + 1)).map Nd.cells).flatten ++ news := by rw [hnews, ← List.flatten_append, ← List.map_append, List.take_append_drop]; rfl
  have hft : ((L.take (i + 1)).map Nd.cells).flatten.length = (i + 1) * 3 := by rw [flat_len Nd.cells 3 (fun _ => rfl), List.length_take, hn, Nat.min_eq_left (by omega)]
  have hm : maxLen ≤ 9223372036854775807 := by unfold maxLen; decide
  obtain ⟨cur, hblk, hnc, hcm, hsz, htk⟩ : ∃ cur, w.heap[g]? = some (.cells cur 49 (0, 0)) ∧ i + 1 + r ≤ cap ∧ cap ≤ 9223372036854775807 ∧ cur.size = cap * 3 ∧ cur.toList.take ((i + 1 + r) * 3) = rowN L := by
    rcases h.2 with ⟨h0, _⟩ | ⟨g', cap', cur, h0, _, h2, h3, h4, h5, h6⟩
    · cases h0
    · injection h0 with e1 _ e3
      injection e1 with e1
      injection e1 with e1
      subst e1 e3
      exact ⟨cur, h2, h3, Nat.le_trans h4 hm, h5, h6⟩
  have hcell : ∀ o, w.cell? ⟨g, o, none⟩ = cur[o]? := fun o => cell_of hblk o
  have hfree : ∀ o, w.frozen? ⟨g, o, none⟩ = false := fun o => free_of hblk o
  have hread : ∀ t u, news[t]? = some u → w.cell? ⟨g, (i + 1) * 3 + t, none⟩ = some u := fun t u hu => by
    have ht : t < news.length := (List.getElem?_eq_some_iff.1 hu).1
    rw [hcell, ← Array.getElem?_toList]
    have e : (rowN L)[(i + 1) * 3 + t]? = some u := by rw [hfl, List.getElem?_append_right (by omega), hft, Nat.add_sub_cancel_left]; exact hu
    rw [← htk, List.getElem?_take] at e
    split at e
    · exact e
    · cases e
  obtain ⟨A, hA, hsrc⟩ : ∃ A : Addr, (if cap = i + 1 then some (⟨g, 0, none⟩ : Addr) else some ⟨g, (i + 1) * 3, none⟩) = some A ∧ Hid (∀ t u, news[t]? = some u → w.drew.cell? (A.add t) = some u) := by
    by_cases hc : cap = i + 1
    · refine ⟨⟨g, 0, none⟩, by simp [hc], fun t u hu => ?_⟩
      have ht : t < news.length := (List.getElem?_eq_some_iff.1 hu).1
      rw [hlen] at ht
      have : r = 0 := by omega
      subst this
      omega
    · refine ⟨⟨g, (i + 1) * 3, none⟩, by simp [hc], fun t u hu => ?_⟩
      rw [add_none]
      exact hread t u hu
  have s1 : Hid (news.length = r * 3) := hlen
  have s2 : Hid (∀ u ∈ news, u.oneCell' = true) := fun u hu => by
    rw [hnews] at hu
    obtain ⟨l, hl1, hl2⟩ := List.mem_flatten.1 hu
    obtain ⟨x, _, rfl⟩ := List.mem_map.1 hl1
    simp [Nd.cells] at hl2; rcases hl2 with rfl | rfl | rfl <;> rfl
  have s3 : Hid (∀ t, t < news.length → (w.drew.cell? ⟨g, 0 + i * 3 + t, none⟩).isSome = true ∧ w.drew.frozen? ⟨g, 0 + i * 3 + t, none⟩ = false) := fun t ht => by
    refine ⟨?_, hfree _⟩
    show (w.cell? _).isSome = true
    rw [hcell]
    have hq : 0 + i * 3 + t < cur.size := by rw [hlen] at ht; rw [hsz]; omega
    rw [Array.getElem?_eq_getElem hq]
    rfl
  obtain ⟨W1, hW1⟩ : ∃ W1, W1 = w.drew.setCells g (0 + i * 3) news := ⟨_, rfl⟩
  have hb1 : W1.heap[g]? = some (.cells (setL cur (0 + i * 3) news) 49 (0, 0)) := by rw [hW1, setCells_put]; exact putL_here news _ w.drew cur hblk
  have hcl : ∀ ty, (Builtin.clear_ #[22] ty #[.slice (some ⟨g, (i + r) * 3, none⟩) (i + 1 + r - (i + r)) (cap - (i + r))]).run Tryz.prog W1 = .ok (.tuple #[]) (W1.setCells g ((i + r) * 3) [.int .i64 0, .slice none 0 0, .slice none 0 0]) := fun ty => by
    have e1 : i + 1 + r - (i + r) = 1 := by omega
    rw [e1]
    have hst := run_storeCells_cells (P := Tryz.prog) g ((i + r) * 3) [.int .i64 0, .slice none 0 0, .slice none 0 0] 0 W1 (fun j hj => by
      rw [cell_of hb1]
      have hj' : j < 3 := hj
      have hq : (i + r) * 3 + 0 + j < (setL cur (0 + i * 3) news).size := by rw [setL_size, hsz]; omega
      rw [Array.getElem?_eq_getElem hq]
      rfl) (fun j hj => free_of hb1 _) (by simp [Value.oneCell'])
    simp only [Nat.add_zero] at hst
    have hzc : (Builtin.zeroCells (.agg #[.int .i64 0, .slice none 0 0, .slice none 0 0] : Value).cells 1).toList = [.int .i64 0, .slice none 0 0, .slice none 0 0] := by simp [Builtin.zeroCells, Value.cells, Array.range]
    simp [Builtin.clear_, run_underlying Tryz.underlying22, Tryz.zeroValue49, hzc, hst]
  have X1 := toHid hW1
  have HH := toHid h
  have HN := toHid hn
  have HNEWS := toHid hnews
  have hic : i + 1 ≤ cap := by omega
  have hcne : ¬ (cap = i + r) := by omega
  have hii : i ≤ cap := by omega
  have hp0 : (0 : Int) ≤ (i : Int) + 1 := by omega
  have hb2 : (i : Int) + 1 ≤ (i : Int) + 1 + (r : Int) := by omega
  have hb3 : (i : Int) + (r : Int) ≤ (i : Int) + 1 + (r : Int) := by omega
  have hb4 : i + 1 + r ≤ cap := by omega
  have hne : ((i : Int) == (i : Int) + 1) = false := by simp; omega
  have hroom : i + r ≤ cap := by omega
  obtain ⟨i0, hi0, hiz, his, hib⟩ := info_Node
  have HI0 := toHid hi0
  have HIS := toHid his
  clear h hn hnews hlen hfl hft hread hcell hfree hblk hb1 hW1 htk hsz hi0 hiz his hib hm
  go_enter Tryz.func98, Tryz.ntmps98
  go_upto_region 5 with fail
  go_region_law (first
    | (refine step_append_room (by rfl) (.tmp 22) (.tmp 25) 22 (by rfl) 49 i0 3 Tryz.underlying22 HI0.out HIS.out g 0 i cap (by simp [Act.eval, Act.put]) A r (cap - (i + 1)) news (by simp [Act.eval, Act.put]) s1.out hsrc.out s2.out hroom s3.out ?_; rw [← X1.out]))
  go_wp2_with fail
  go_ret
  refine ⟨rfl, ?_, ?_⟩
  · have h' : w.drew.ownsRow 0 49 3 (.slice (some ⟨g, 0, none⟩) L.length cap) L.length ((L.map Nd.cells).flatten) := by rw [HN.out]; exact HH.out
    have q := own_erase Nd.cells 3 (fun _ => rfl) L i (by rw [HN.out]; omega) h' [.int .i64 0, .slice none 0 0, .slice none 0 0] rfl
    have e : i + 1 + r - 1 = i + r := by omega
    rw [HN.out, ← HNEWS.out, e] at q
    rw [X1.out, Nat.zero_add]
    exact q
  · rw [X1.out, setCells_put, setCells_put]
    have k1 := putL_bel g news (0 + i * 3) w.drew
    have k2 := putL_bel g [.int .i64 0, .slice none 0 0, .slice none 0 0] ((i + r) * 3) (putL w.drew g (0 + i * 3) news)
    exact ⟨k2.os.trans k1.os, k2.tape.trans k1.tape, k2.output.trans k1.output, Nat.le_trans k1.size k2.size, fun j _ hj => (putL_other g _ _ _ j hj).trans (putL_other g news _ w.drew j hj)⟩

set_option maxHeartbeats 4000000 in
set_option maxRecDepth 100000 in
theorem deleteE_any (L : List Ed) (g cap i r : Nat) (w : World) (hn : L.length = i + 1 + r) (h : w.ownsRow 0 53 5 (.slice (some ⟨g, 0, none⟩) (i + 1 + r) cap) (i + 1 + r) (rowX L)) (hl : i + 1 + r ≤ 1000) :
    Calls Tryz.prog 105 #[.slice (some ⟨g, 0, none⟩) (i + 1 + r) cap, .int .i64 i, .int .i64 (i + 1)] w fun e w' => e = .returned (.slice (some ⟨g, 0, none⟩) (i + r) cap) ∧ w'.ownsRow 0 53 5 (.slice (some ⟨g, 0, none⟩) (i + r) cap) (i + r) (rowX (L.eraseIdx i)) ∧ Rest (fun j => j = g) w w' := by
  obtain ⟨news, hnews⟩ : ∃ z, z = ((L.drop (i + 1)).map Ed.cells).flatten := ⟨_, rfl⟩
  have hlen : news.length = r * 5 := by rw [hnews, flat_len Ed.cells 5 (fun _ => rfl), List.length_drop, hn]; congr 1; omega
  have hfl : rowX L = ((L.take (i + 1)).map Ed.cells).flatten ++ news := by rw [hnews, ← List.flatten_append, ← List.map_append, List.take_append_drop]; rfl
  have hft : ((L.take (i + 1)).map Ed.cells).flatten.length = (i + 1) * 5 := by rw [flat_len Ed.cells 5 (fun _ => rfl), List.length_take, hn, Nat.min_eq_left (by omega)]
  have hm : maxLen ≤ 9223372036854775807 := by unfold maxLen; decide
  obtain ⟨cur, hblk, hnc, hcm, hsz, htk⟩ : ∃ cur, w.heap[g]? = some (.cells cur 53 (0, 0)) ∧ i + 1 + r ≤ cap ∧ cap ≤ 9223372036854775807 ∧ cur.size = cap * 5 ∧ cur.toList.take ((i + 1 + r) * 5) = rowX L := by
    rcases h.2 with ⟨h0, _⟩ | ⟨g', cap', cur, h0, _, h2, h3, h4, h5, h6⟩
    · cases h0
    · injection h0 with e1 _ e3
      injection e1 with e1
      injection e1 with e1
      subst e1 e3
      exact ⟨cur, h2, h3, Nat.le_trans h4 hm, h5, h6⟩
  have hcell : ∀ o, w.cell? ⟨g, o, none⟩ = cur[o]? := fun o => cell_of hblk o
  have hfree : ∀ o, w.frozen? ⟨g, o, none⟩ = false := fun o => free_of hblk o
  have hread : ∀ t u, news[t]? = some u → w.cell? ⟨g, (i + 1) * 5 + t, none⟩ = some u := fun t u hu => by
    have ht : t < news.length := (List.getElem?_eq_some_iff.1 hu).1
    rw [hcell, ← Array.getElem?_toList]
    have e : (rowX L)[(i + 1) * 5 + t]? = some u := by rw [hfl, List.getElem?_append_right (by omega), hft, Nat.add_sub_cancel_left]; exact hu
    rw [← htk, List.getElem?_take] at e
    split at e
    · exact e
    · cases e
  obtain ⟨A, hA, hsrc⟩ : ∃ A : Addr, (if cap = i + 1 then some (⟨g, 0, none⟩ : Addr) else some ⟨g, (i + 1) * 5, none⟩) = some A ∧ Hid (∀ t u, news[t]? = some u → w.drew.cell? (A.add t) = some u) := by
    by_cases hc : cap = i + 1
    · refine ⟨⟨g, 0, none⟩, by simp [hc], fun t u hu => ?_⟩
      have ht : t < news.length := (List.getElem?_eq_some_iff.1 hu).1
      rw [hlen] at ht
      have : r = 0 := by omega
      subst this
      omega
    · refine ⟨⟨g, (i + 1) * 5, none⟩, by simp [hc], fun t u hu => ?_⟩
      rw [add_none]
      exact hread t u hu
  have s1 : Hid (news.length = r * 5) := hlen
  have s2 : Hid (∀ u ∈ news, u.oneCell' = true) := fun u hu => by
    rw [hnews] at hu
    obtain ⟨l, hl1, hl2⟩ := List.mem_flatten.1 hu
    obtain ⟨x, _, rfl⟩ := List.mem_map.1 hl1
    simp [Ed.cells] at hl2; rcases hl2 with rfl | rfl | rfl | rfl | rfl <;> rfl
  have s3 : Hid (∀ t, t < news.length → (w.drew.cell? ⟨g, 0 + i * 5 + t, none⟩).isSome = true ∧ w.drew.frozen? ⟨g, 0 + i * 5 + t, none⟩ = false) := fun t ht => by
    refine ⟨?_, hfree _⟩
    show (w.cell? _).isSome = true
    rw [hcell]
    have hq : 0 + i * 5 + t < cur.size := by rw [hlen] at ht; rw [hsz]; omega
    rw [Array.getElem?_eq_getElem hq]
    rfl
  obtain ⟨W1, hW1⟩ : ∃ W1, W1 = w.drew.setCells g (0 + i * 5) news := ⟨_, rfl⟩
  have hb1 : W1.heap[g]? = some (.cells (setL cur (0 + i * 5) news) 53 (0, 0)) := by rw [hW1, setCells_put]; exact putL_here news _ w.drew cur hblk
  have hcl : ∀ ty, (Builtin.clear_ #[23] ty #[.slice (some ⟨g, (i + r) * 5, none⟩) (i + 1 + r - (i + r)) (cap - (i + r))]).run Tryz.prog W1 = .ok (.tuple #[]) (W1.setCells g ((i + r) * 5) [.int .i64 0, .int .i64 0, .int .i64 0, .string ⟨#[]⟩, .slice none 0 0]) := fun ty => by
    have e1 : i + 1 + r - (i + r) = 1 := by omega
    rw [e1]
    have hst := run_storeCells_cells (P := Tryz.prog) g ((i + r) * 5) [.int .i64 0, .int .i64 0, .int .i64 0, .string ⟨#[]⟩, .slice none 0 0] 0 W1 (fun j hj => by
      rw [cell_of hb1]
      have hj' : j < 5 := hj
      have hq : (i + r) * 5 + 0 + j < (setL cur (0 + i * 5) news).size := by rw [setL_size, hsz]; omega
      rw [Array.getElem?_eq_getElem hq]
      rfl) (fun j hj => free_of hb1 _) (by simp [Value.oneCell'])
    simp only [Nat.add_zero] at hst
    have hzc : (Builtin.zeroCells (.agg #[.int .i64 0, .int .i64 0, .int .i64 0, .string ⟨#[]⟩, .slice none 0 0] : Value).cells 1).toList = [.int .i64 0, .int .i64 0, .int .i64 0, .string ⟨#[]⟩, .slice none 0 0] := by simp [Builtin.zeroCells, Value.cells, Array.range]
    simp [Builtin.clear_, run_underlying Tryz.underlying23, Tryz.zeroValue53, hzc, hst]
  have X1 := toHid hW1
  have HH := toHid h
  have HN := toHid hn
  have HNEWS := toHid hnews
  have hic : i + 1 ≤ cap := by omega
  have hcne : ¬ (cap = i + r) := by omega
  have hii : i ≤ cap := by omega
  have hp0 : (0 : Int) ≤ (i : Int) + 1 := by omega
  have hb2 : (i : Int) + 1 ≤ (i : Int) + 1 + (r : Int) := by omega
  have hb3 : (i : Int) + (r : Int) ≤ (i : Int) + 1 + (r : Int) := by omega
  have hb4 : i + 1 + r ≤ cap := by omega
  have hne : ((i : Int) == (i : Int) + 1) = false := by simp; omega
  have hroom : i + r ≤ cap := by omega
  obtain ⟨i0, hi0, hiz, his, hib⟩ := info_Edge
  have HI0 := toHid hi0
  have HIS := toHid his
  clear h hn hnews hlen hfl hft hread hcell hfree hblk hb1 hW1 htk hsz hi0 hiz his hib hm
  go_enter Tryz.func105, Tryz.ntmps105
  go_upto_region 5 with fail
  go_region_law (first
    | (refine step_append_room (by rfl) (.tmp 22) (.tmp 25) 23 (by rfl) 53 i0 5 Tryz.underlying23 HI0.out HIS.out g 0 i cap (by simp [Act.eval, Act.put]) A r (cap - (i + 1)) news (by simp [Act.eval, Act.put]) s1.out hsrc.out s2.out hroom s3.out ?_; rw [← X1.out]))
  go_wp2_with fail
  go_ret
  refine ⟨rfl, ?_, ?_⟩
  · have h' : w.drew.ownsRow 0 53 5 (.slice (some ⟨g, 0, none⟩) L.length cap) L.length ((L.map Ed.cells).flatten) := by rw [HN.out]; exact HH.out
    have q := own_erase Ed.cells 5 (fun _ => rfl) L i (by rw [HN.out]; omega) h' [.int .i64 0, .int .i64 0, .int .i64 0, .string ⟨#[]⟩, .slice none 0 0] rfl
    have e : i + 1 + r - 1 = i + r := by omega
    rw [HN.out, ← HNEWS.out, e] at q
    rw [X1.out, Nat.zero_add]
    exact q
  · rw [X1.out, setCells_put, setCells_put]
    have k1 := putL_bel g news (0 + i * 5) w.drew
    have k2 := putL_bel g [.int .i64 0, .int .i64 0, .int .i64 0, .string ⟨#[]⟩, .slice none 0 0] ((i + r) * 5) (putL w.drew g (0 + i * 5) news)
    exact ⟨k2.os.trans k1.os, k2.tape.trans k1.tape, k2.output.trans k1.output, Nat.le_trans k1.size k2.size, fun j _ hj => (putL_other g _ _ _ j hj).trans (putL_other g news _ w.drew j hj)⟩
end Go.Proofs.YtdlmlpddkfnfmaaGreatDoor
