/-
  What is proved here: what the texts SPure, TPure, KrPacked, KoLaw, GLaid prove, in one text.
-/
import Derived.Test.YtldpionmmplncaaDoorRows
import Derived.Test.YtldpionmmplncaaDoorQOAW
import Derived.Test.YtldpionmmplncaaDoorQOAG
import Derived.Test.YtldpionmmplncaaDoorQOAF
import Derived.Test.YtldpionmmplncaaDoorQOAU
import Derived.Test.YtldpionmmplncaaDoorQOAA
import Derived.Test.YtldpionmmplncaaDoorShelf
import Derived.PinnedBridge
import Derived.Lib.LaidU8T
import Derived.Lib.LaidTab
import Derived.Lay
namespace Go.Proofs.YtldpionmmplncaaDoor
open Go.RowKit
set_option linter.unusedVariables false

set_option linter.unusedVariables false

section
variable {α : Type}

/-- D' is D, mixed within a range. -/
def MixS (a b : Nat) (D D' : List α) : Prop := D'.length = D.length ∧ D'.take a = D.take a ∧ D'.drop b = D.drop b ∧ D'.Perm D

theorem MixS.refl (a b : Nat) (D : List α) : MixS a b D D := ⟨rfl, rfl, rfl, List.Perm.refl _⟩

theorem MixS.trans {a b : Nat} {D D' D'' : List α} (h : MixS a b D D') (k : MixS a b D' D'') : MixS a b D D'' := ⟨k.1.trans h.1, k.2.1.trans h.2.1, k.2.2.1.trans h.2.2.1, k.2.2.2.trans h.2.2.2⟩

theorem MixS.wide {a b a' b' : Nat} {D D' : List α} (h : MixS a b D D') (ha : a' ≤ a) (hb : b ≤ b') : MixS a' b' D D' := by
  refine ⟨h.1, ?_, ?_, h.2.2.2⟩
  · have := congrArg (List.take a') h.2.1
    rwa [List.take_take, List.take_take, Nat.min_eq_left ha] at this
  · have := congrArg (List.drop (b' - b)) h.2.2.1
    rw [List.drop_drop, List.drop_drop] at this
    rwa [show b + (b' - b) = b' by omega] at this

theorem MixS.before {a b : Nat} {D D' : List α} (h : MixS a b D D') {i : Nat} (hi : i < a) : D'[i]? = D[i]? := by
  have := congrArg (fun l => l[i]?) h.2.1
  simpa [List.getElem?_take, hi] using this

theorem MixS.behind {a b : Nat} {D D' : List α} (h : MixS a b D D') {i : Nat} (hi : b ≤ i) : D'[i]? = D[i]? := by
  have := congrArg (fun l => l[i - b]?) h.2.2.1
  simp only [List.getElem?_drop] at this
  rwa [show b + (i - b) = i by omega] at this

/-- The part of a list within a range. -/
def segS (D : List α) (a b : Nat) : List α := (D.drop a).take (b - a)

theorem split3 (D : List α) (a b : Nat) (hab : a ≤ b) : D = D.take a ++ (segS D a b ++ D.drop b) := by
  have h1 : D.drop b = (D.drop a).drop (b - a) := by rw [List.drop_drop]; congr 1; omega
  rw [h1, segS, List.take_append_drop, List.take_append_drop]

theorem MixS.segS {a b : Nat} {D D' : List α} (h : MixS a b D D') (hab : a ≤ b) : (segS D' a b).Perm (segS D a b) := by
  have hp := h.2.2.2
  rw [split3 D a b hab, split3 D' a b hab, h.2.1, h.2.2.1] at hp
  exact (List.perm_append_right_iff _).1 ((List.perm_append_left_iff _).1 hp)

theorem seg_get (D : List α) (a b i : Nat) (x : α) (ha : a ≤ i) (hb : i < b) (h : D[i]? = some x) : x ∈ segS D a b := by
  refine List.mem_of_getElem? (i := i - a) ?_
  rw [segS, List.getElem?_take, if_pos (by omega), List.getElem?_drop, show a + (i - a) = i by omega, h]

theorem get_seg (D : List α) (a b : Nat) (x : α) (h : x ∈ segS D a b) : ∃ i, a ≤ i ∧ i < b ∧ D[i]? = some x := by
  obtain ⟨j, hj⟩ := List.getElem?_of_mem h
  rw [segS, List.getElem?_take] at hj
  split at hj
  · rw [List.getElem?_drop] at hj
    exact ⟨a + j, by omega, by omega, hj⟩
  · cases hj

/-- What stands in the range stood in it. -/
theorem MixS.from {a b : Nat} {D D' : List α} (h : MixS a b D D') (hab : a ≤ b) {i : Nat} {x : α} (ha : a ≤ i) (hb : i < b) (hx : D'[i]? = some x) : ∃ j, a ≤ j ∧ j < b ∧ D[j]? = some x :=
  get_seg D a b x ((h.segS hab).mem_iff.1 (seg_get D' a b i x ha hb hx))

variable (key : α → Int)

/-- A part that rises. -/
def Ris (D : List α) (a b : Nat) : Prop := ∀ (i j : Nat) (x y : α), a ≤ i → i < j → j < b → D[i]? = some x → D[j]? = some y → key x ≤ key y

/-- Each of a part is at most each of the next. -/
def Und (D : List α) (a m b : Nat) : Prop := ∀ (i j : Nat) (x y : α), a ≤ i → i < m → m ≤ j → j < b → D[i]? = some x → D[j]? = some y → key x ≤ key y

variable {key}

theorem Ris.sub {D : List α} {a b a' b' : Nat} (h : Ris key D a b) (ha : a ≤ a') (hb : b' ≤ b) : Ris key D a' b' := fun i j x y h1 h2 h3 hx hy => h i j x y (by omega) h2 (by omega) hx hy

theorem Ris.one {D : List α} {a b : Nat} (h : b ≤ a + 1) : Ris key D a b := fun i j x y h1 h2 h3 _ _ => by omega

theorem Ris.join {D : List α} {a m b : Nat} (h1 : Ris key D a m) (h2 : Ris key D m b) (hu : Und key D a m b) : Ris key D a b := fun i j x y ha hij hb hx hy => by
  by_cases hm : j < m
  · exact h1 i j x y ha hij hm hx hy
  · by_cases hi : i < m
    · exact hu i j x y ha hi (by omega) hb hx hy
    · exact h2 i j x y (by omega) hij hb hx hy

theorem Und.mix1 {D D' : List α} {a m b : Nat} (h : Und key D a m b) (ham : a ≤ m) (k : MixS a m D D') : Und key D' a m b := fun i j x y h1 h2 h3 h4 hx hy => by
  obtain ⟨i', g1, g2, g3⟩ := k.from ham h1 h2 hx
  rw [k.behind h3] at hy
  exact h i' j x y g1 g2 h3 h4 g3 hy

theorem Und.mix2 {D D' : List α} {a m b : Nat} (h : Und key D a m b) (hmb : m ≤ b) (k : MixS m b D D') : Und key D' a m b := fun i j x y h1 h2 h3 h4 hx hy => by
  obtain ⟨j', g1, g2, g3⟩ := k.from hmb h3 h4 hy
  rw [k.before h2] at hx
  exact h i j' x y h1 h2 g1 g2 hx g3

theorem Ris.before {D D' : List α} {a b a' b' : Nat} (h : Ris key D a b) (k : MixS a' b' D D') (hb : b ≤ a') : Ris key D' a b := fun i j x y h1 h2 h3 hx hy => by
  rw [k.before (by omega)] at hx hy
  exact h i j x y h1 h2 h3 hx hy

theorem Ris.behind {D D' : List α} {a b a' b' : Nat} (h : Ris key D a b) (k : MixS a' b' D D') (hb : b' ≤ a) : Ris key D' a b := fun i j x y h1 h2 h3 hx hy => by
  rw [k.behind (by omega)] at hx hy
  exact h i j x y h1 h2 h3 hx hy

/-- Two that change places. -/
def swp (D : List α) (i j : Nat) : List α := match D[i]?, D[j]? with
  | some x, some y => (D.set i y).set j x
  | _, _ => D

theorem swp_eq {D : List α} {i j : Nat} {x y : α} (hx : D[i]? = some x) (hy : D[j]? = some y) : swp D i j = (D.set i y).set j x := by simp [swp, hx, hy]

theorem swp_get {D : List α} {i j : Nat} {x y : α} (hx : D[i]? = some x) (hy : D[j]? = some y) (k : Nat) : (swp D i j)[k]? = if k = j then some x else if k = i then some y else D[k]? := by
  have hi := (List.getElem?_eq_some_iff.1 hx).1
  have hj := (List.getElem?_eq_some_iff.1 hy).1
  rw [swp_eq hx hy, List.getElem?_set]
  by_cases h1 : k = j
  · subst h1; simp [hj]
  · rw [if_neg (Ne.symm h1), if_neg h1, List.getElem?_set]
    by_cases h2 : k = i
    · subst h2; simp [hi]
    · rw [if_neg (Ne.symm h2), if_neg h2]

theorem swp_perm {D : List α} {i j : Nat} {x y : α} (hx : D[i]? = some x) (hy : D[j]? = some y) (hij : i < j) : (swp D i j).Perm D := by
  have hi := (List.getElem?_eq_some_iff.1 hx).1
  have hj := (List.getElem?_eq_some_iff.1 hy).1
  have e : D = D.take i ++ (x :: (segS D (i + 1) j ++ (y :: D.drop (j + 1)))) := by
    have h1 := split3 D (i + 1) j (by omega)
    have h2 : D.take (i + 1) = D.take i ++ [x] := by rw [List.take_add_one, hx]; rfl
    have h3 : D.drop j = y :: D.drop (j + 1) := by
      rw [List.drop_eq_getElem_cons hj]
      congr 1
      rw [List.getElem?_eq_getElem hj] at hy
      exact Option.some.inj hy
    rw [h2, h3] at h1
    simpa using h1
  have lt : (D.take i).length = i := by rw [List.length_take]; omega
  have ls : (segS D (i + 1) j).length = j - (i + 1) := by rw [segS, List.length_take, List.length_drop]; omega
  have e2 : swp D i j = D.take i ++ (y :: (segS D (i + 1) j ++ (x :: D.drop (j + 1)))) := by
    apply List.ext_getElem?
    intro k
    rw [swp_get hx hy]
    by_cases h1 : k = j
    · subst h1
      rw [if_pos rfl, List.getElem?_append_right (by omega), lt, List.getElem?_cons, if_neg (by omega), List.getElem?_append_right (by omega), ls]
      rw [show k - i - 1 - (k - (i + 1)) = 0 by omega]
      rfl
    · rw [if_neg h1]
      by_cases h2 : k = i
      · subst h2
        rw [if_pos rfl, List.getElem?_append_right (by omega), lt, Nat.sub_self]
        rfl
      · rw [if_neg h2]
        conv => lhs; rw [e]
        by_cases h3 : k < i
        · rw [List.getElem?_append_left (by omega), List.getElem?_append_left (by omega)]
        · rw [List.getElem?_append_right (by omega), List.getElem?_append_right (by omega), lt]
          rw [List.getElem?_cons, List.getElem?_cons, if_neg (by omega), if_neg (by omega)]
          by_cases h4 : k < j
          · rw [List.getElem?_append_left (by omega), List.getElem?_append_left (by omega)]
          · rw [List.getElem?_append_right (by omega), List.getElem?_append_right (by omega), ls, List.getElem?_cons, List.getElem?_cons, if_neg (by omega), if_neg (by omega)]
  rw [e2]
  conv => rhs; rw [e]
  refine List.Perm.append_left _ ?_
  refine List.Perm.trans (l₂ := y :: x :: (segS D (i + 1) j ++ D.drop (j + 1))) (List.Perm.cons _ List.perm_middle) ?_
  refine List.Perm.trans (List.Perm.swap _ _ _) ?_
  exact List.Perm.cons _ List.perm_middle.symm

theorem swp_mix {D : List α} {i j a b : Nat} {x y : α} (hx : D[i]? = some x) (hy : D[j]? = some y) (hij : i < j) (ha : a ≤ i) (hb : j < b) : MixS a b D (swp D i j) := by
  refine ⟨?_, ?_, ?_, swp_perm hx hy hij⟩
  · rw [swp_eq hx hy]; simp
  · apply List.ext_getElem?
    intro k
    rw [List.getElem?_take, List.getElem?_take]
    split
    · rw [swp_get hx hy, if_neg (by omega), if_neg (by omega)]
    · rfl
  · apply List.ext_getElem?
    intro k
    rw [List.getElem?_drop, List.getElem?_drop, swp_get hx hy, if_neg (by omega), if_neg (by omega)]

end

/-- Where one stands that is meant. -/
theorem idxF_get {α : Type} (s : α → Bool) : ∀ (Y : List α) (i : Nat), Y.any s = true → ∃ (j : Nat) (y : α), idxF s i Y = ((i + j : Nat) : Int) ∧ Y[j]? = some y ∧ s y = true
  | [], i, h => by simp at h
  | y :: ys, i, h => by
    unfold idxF
    by_cases hy : s y = true
    · rw [if_pos hy]
      exact ⟨0, y, rfl, rfl, hy⟩
    · rw [if_neg hy]
      have h2 : ys.any s = true := by
        rw [List.any_cons] at h
        simpa [hy] using h
      obtain ⟨j, z, h3, h4, h5⟩ := idxF_get s ys (i + 1) h2
      refine ⟨j + 1, z, ?_, ?_, h5⟩
      · rw [h3]
        congr 1
        omega
      · simpa using h4

theorem perm_eraseIdx {α : Type} : ∀ (L : List α) (j : Nat) (x : α), L[j]? = some x → L.Perm (x :: L.eraseIdx j)
  | [], j, x, h => by simp at h
  | y :: ys, 0, x, h => by
    simp at h
    subst h
    exact List.Perm.refl _
  | y :: ys, j + 1, x, h => by
    have ih := perm_eraseIdx ys j x (by simpa using h)
    exact (List.Perm.cons y ih).trans (List.Perm.swap x y _)

theorem Pair2.head {α β : Type} {R : α → β → Prop} {p : α} {P : List α} {x : β} {L : List β} (h : Pair2 R (p :: P) (x :: L)) : R p x ∧ Pair2 R P L :=
  ⟨h.2 0 p x rfl rfl, by have := h.1; simpa using this, fun i q y hq hy => h.2 (i + 1) q y (by simpa using hq) (by simpa using hy)⟩

theorem Pair2.cons {α β : Type} {R : α → β → Prop} {p : α} {P : List α} {x : β} {L : List β} (h : R p x) (k : Pair2 R P L) : Pair2 R (p :: P) (x :: L) :=
  ⟨by simp [k.1], fun i q y hq hy => by
    cases i with
    | zero =>
      simp at hq hy
      rw [← hq, ← hy]
      exact h
    | succ i => exact k.2 i q y (by simpa using hq) (by simpa using hy)⟩

/-- Of a list that is mixed, the other one is mixed likewise. -/
theorem pair_perm {α β : Type} {R : α → β → Prop} {P P' : List α} (h : P'.Perm P) : ∀ {L : List β}, Pair2 R P L → ∃ L', L'.Perm L ∧ Pair2 R P' L' := by
  replace h := h.symm
  induction h with
  | nil => exact fun {L} h => ⟨L, List.Perm.refl _, h⟩
  | cons p _ ih =>
    intro L h
    cases L with
    | nil => have := h.1; simp at this
    | cons x L =>
      obtain ⟨h1, h2⟩ := h.head
      obtain ⟨L', h3, h4⟩ := ih h2
      exact ⟨x :: L', h3.cons x, h4.cons h1⟩
  | swap p q l =>
    intro L h
    match L, h with
    | [], h => have := h.1; simp at this
    | [x], h => have := h.1; simp at this
    | x :: y :: L, h =>
      obtain ⟨h1, h2⟩ := h.head
      obtain ⟨h3, h4⟩ := h2.head
      exact ⟨y :: x :: L, List.Perm.swap x y L, (h4.cons h1).cons h3⟩
  | trans _ _ ih1 ih2 =>
    intro L h
    obtain ⟨L1, h1, h2⟩ := ih1 h
    obtain ⟨L2, h3, h4⟩ := ih2 h2
    exact ⟨L2, h3.trans h1, h4⟩

theorem rise_pairs {α : Type} {f : α → Int} {L : List α} (h : Rise (L.map f)) : L.Pairwise (fun x y => f x < f y) := by
  rw [List.pairwise_iff_getElem]
  intro i j hi hj hij
  exact h i j _ _ hij (by rw [List.getElem?_map, List.getElem?_eq_getElem hi]; rfl) (by rw [List.getElem?_map, List.getElem?_eq_getElem hj]; rfl)

theorem any_mem {α : Type} {s : α → α → Bool} (hs : ∀ x y, s x y = true ↔ x = y) (x : α) (B : List α) : B.any (s x) = true ↔ x ∈ B := by
  rw [List.any_eq_true]
  constructor
  · rintro ⟨y, hy, h⟩
    rw [(hs x y).1 h]
    exact hy
  · intro h
    exact ⟨x, h, (hs x x).2 rfl⟩

/-- Those of A that B has, too. -/
def bothL {α : Type} (s : α → α → Bool) (A B : List α) : List α := A.filter fun x => B.any (s x)

theorem both_lack {α : Type} {s : α → α → Bool} (A B : List α) : A.Perm (bothL s A B ++ lackL s A B) := (List.filter_append_perm _ _).symm

theorem lack_not {α : Type} {s : α → α → Bool} (hs : ∀ x y, s x y = true ↔ x = y) {A B : List α} {x : α} (h : x ∈ lackL s A B) : x ∈ A ∧ x ∉ B := by
  obtain ⟨h1, h2⟩ := List.mem_filter.1 h
  refine ⟨h1, fun h3 => ?_⟩
  rw [(any_mem hs x B).2 h3] at h2
  cases h2

theorem both_in {α : Type} {s : α → α → Bool} (hs : ∀ x y, s x y = true ↔ x = y) {A B : List α} {x : α} : x ∈ bothL s A B ↔ x ∈ A ∧ x ∈ B := by
  unfold bothL
  rw [List.mem_filter, any_mem hs]

/-- What is to go is there. -/
theorem gone_there {α : Type} {s : α → α → Bool} (hs : ∀ x y, s x y = true ↔ x = y) {X R G : List α} {x : α} (h : X.Perm (R ++ x :: G)) : X.any (s x) = true := (any_mem hs x X).2 (h.mem_iff.2 (by simp))

theorem gone_step {α : Type} {s : α → α → Bool} (hs : ∀ x y, s x y = true ↔ x = y) {X R G : List α} {x y : α} {j : Nat} (h : X.Perm (R ++ x :: G)) (hj : X[j]? = some y) (hy : s x y = true) : (X.eraseIdx j).Perm (R ++ G) := by
  rw [← (hs x y).1 hy] at hj
  have h1 := (perm_eraseIdx X j x hj).symm.trans (h.trans List.perm_middle)
  exact (List.perm_cons x).1 h1

theorem more_new {α : Type} {s : α → α → Bool} (hs : ∀ x y, s x y = true ↔ x = y) {f : α → Int} {A B X : List α} (hB : Rise (B.map f)) (hX : X.Perm (bothL s A B)) {x y : α} (hx : x ∈ lackL s B A) (hy : y ∈ X) : f x ≠ f y := by
  intro e
  obtain ⟨h1, h2⟩ := lack_not hs hx
  obtain ⟨h3, h4⟩ := (both_in hs).1 (hX.mem_iff.1 hy)
  have hp := rise_pairs hB
  have : x = y := by
    obtain ⟨i, hi, rfl⟩ := List.getElem_of_mem h1
    obtain ⟨j, hj, rfl⟩ := List.getElem_of_mem h4
    rw [List.pairwise_iff_getElem] at hp
    rcases Nat.lt_trichotomy i j with h | h | h
    · have := hp i j hi hj h; omega
    · subst h; rfl
    · have := hp j i hj hi h; omega
  rw [this] at h2
  exact h2 h3

theorem nodup_rise {α : Type} {f : α → Int} {A : List α} (h : Rise (A.map f)) : A.Nodup := by
  have hp := rise_pairs h
  rw [List.nodup_iff_pairwise_ne]
  exact hp.imp fun h e => by rw [e] at h; omega

/-- What is sorted of those that stay and those that come is what was to come about. -/
theorem all_turned {α : Type} {s : α → α → Bool} (hs : ∀ x y, s x y = true ↔ x = y) {f : α → Int} {A B X E : List α} (hA : Rise (A.map f)) (hB : Rise (B.map f)) (hX : X.Perm (bothL s A B)) (hE : E.Perm (X ++ lackL s B A)) (hr : E.Pairwise (fun x y => f x ≤ f y)) : E = B := by
  have p1 : (bothL s A B).Perm (bothL s B A) := by
    refine (List.perm_ext_iff_of_nodup ?_ ?_).2 fun x => ?_
    · exact List.Nodup.sublist List.filter_sublist (nodup_rise hA)
    · exact List.Nodup.sublist List.filter_sublist (nodup_rise hB)
    · rw [both_in hs, both_in hs]; exact And.comm
  have p2 : E.Perm B := (hE.trans ((hX.trans p1).append_right _)).trans (both_lack B A).symm
  have hp := rise_pairs hB
  refine List.Perm.eq_of_pairwise (le := fun x y => f x ≤ f y) (fun x y hx hy h1 h2 => ?_) hr (hp.imp fun h => Int.le_of_lt h) p2
  have hx := p2.mem_iff.1 hx
  obtain ⟨i, hi, rfl⟩ := List.getElem_of_mem hx
  obtain ⟨j, hj, rfl⟩ := List.getElem_of_mem hy
  rw [List.pairwise_iff_getElem] at hp
  rcases Nat.lt_trichotomy i j with h | h | h
  · have := hp i j hi hj h; omega
  · subst h; rfl
  · have := hp j i hj hi h; omega

theorem Pair2.eraseT {α β : Type} {R : α → β → Prop} {P : List α} {L : List β} (h : Pair2 R P L) (i : Nat) : Pair2 R (P.eraseIdx i) (L.eraseIdx i) := by
  refine ⟨by rw [List.length_eraseIdx, List.length_eraseIdx, h.1], fun j p x hp hx => ?_⟩
  rw [List.getElem?_eraseIdx] at hp hx
  split at hp
  · rename_i hj
    rw [if_pos hj] at hx
    exact h.2 j p x hp hx
  · rename_i hj
    rw [if_neg hj] at hx
    exact h.2 (j + 1) p x hp hx

theorem Pair2.appendT {α β : Type} {R : α → β → Prop} {P Q : List α} {L M : List β} (h : Pair2 R P L) (k : Pair2 R Q M) : Pair2 R (P ++ Q) (L ++ M) := by
  refine ⟨by simp [h.1, k.1], fun i p x hp hx => ?_⟩
  by_cases hi : i < P.length
  · rw [List.getElem?_append_left hi] at hp
    rw [List.getElem?_append_left (by rw [← h.1]; exact hi)] at hx
    exact h.2 i p x hp hx
  · rw [List.getElem?_append_right (by omega)] at hp
    rw [List.getElem?_append_right (by rw [← h.1]; omega), ← h.1] at hx
    exact k.2 _ p x hp hx

theorem pairs_of_ris {α : Type} {f : α → Int} {E : List α} (h : Ris f E 0 E.length) : E.Pairwise (fun x y => f x ≤ f y) := by
  rw [List.pairwise_iff_getElem]
  intro i j hi hj hij
  exact h i j _ _ (Nat.zero_le _) hij hj (List.getElem?_eq_getElem hi) (List.getElem?_eq_getElem hj)

theorem pairs_of_pair {α β : Type} {R : α → β → Prop} {f : α → Int} {g : β → Int} {P : List α} {L : List β} (h : Pair2 R P L) (hR : ∀ p x, R p x → f p = g x) (k : P.Pairwise (fun x y => f x ≤ f y)) : L.Pairwise (fun x y => g x ≤ g y) := by
  rw [List.pairwise_iff_getElem] at k ⊢
  intro i j hi hj hij
  have hi' : i < P.length := by rw [h.1]; exact hi
  have hj' : j < P.length := by rw [h.1]; exact hj
  have := k i j hi' hj' hij
  rw [hR _ _ (h.2 i _ _ (List.getElem?_eq_getElem hi') (List.getElem?_eq_getElem hi)), hR _ _ (h.2 j _ _ (List.getElem?_eq_getElem hj') (List.getElem?_eq_getElem hj))] at this
  exact this

theorem rowBaseT {w : World} {B B' n size : Nat} {e : TypeId} {v : Value} {xs : List Value} (h : w.ownsRow B e size v n xs) (hB : B' ≤ B) : w.ownsRow B' e size v n xs := by
  refine ⟨h.1, ?_⟩
  rcases h.2 with h | ⟨g, cap, cur, e1, e2, e3⟩
  · exact .inl h
  · exact .inr ⟨g, cap, cur, e1, by omega, e3⟩

theorem rowUpT {w : World} {B B' n m size g cap : Nat} {e : TypeId} {xs : List Value} (h : w.ownsRow B e size (.slice (some ⟨g, 0, none⟩) m cap) n xs) (hB : B' ≤ g) : w.ownsRow B' e size (.slice (some ⟨g, 0, none⟩) m cap) n xs := by
  refine ⟨h.1, ?_⟩
  rcases h.2 with ⟨h0, _⟩ | ⟨g', cap', cur, e1, e2, e3⟩
  · cases h0
  · injection e1 with q1 q2 q3
    injection q1 with q1
    injection q1 with q1
    subst q1 q2 q3
    exact .inr ⟨g, cap, cur, rfl, hB, e3⟩

mutual
theorem ordT_eq : ∀ t u : T, ordT t u = 0 → t = u
  | .node k n s L, .node k' n' s' L', h => by
    rw [ordT_lex] at h
    obtain ⟨h1, h2⟩ := lex_zero h
    rw [cmpP_lex] at h1
    obtain ⟨h3, h4⟩ := lex_zero h1
    obtain ⟨h5, h6⟩ := lex_zero h4
    rw [cmpI_zero h3, cmpI_zero h5, bytes_ext (cmpB_zero h6), ordL_eq L L' h2]
theorem ordL_eq : ∀ L M : List T, ordL L M = 0 → L = M
  | [], [], _ => rfl
  | [], _ :: _, h => by rw [ordL_nil_cons] at h; cases h
  | _ :: _, [], h => by rw [ordL_cons_nil] at h; cases h
  | t :: ts, u :: us, h => by
    rw [ordL_lex] at h
    obtain ⟨h1, h2⟩ := lex_zero h
    rw [ordT_eq t u h1, ordL_eq ts us h2]
end

theorem eqB_eq {α : Type} {r : α → α → Bool} (hr : ∀ x y, r x y = true → x = y) : ∀ X Y : List α, eqB r X Y = true → X = Y
  | [], [], _ => rfl
  | [], _ :: _, h => by cases h
  | _ :: _, [], h => by cases h
  | x :: X, y :: Y, h => by
    have h' : (r x y && eqB r X Y) = true := h
    rw [Bool.and_eq_true] at h'
    rw [hr x y h'.1, eqB_eq hr X Y h'.2]

theorem sameP_eq (x y : AP) (h : sameP x y = true) : x = y := by
  unfold sameP at h
  rw [Bool.and_eq_true, beq_iff_eq, beq_iff_eq] at h
  cases x
  cases y
  congr 1
  · exact bytes_ext h.1
  · exact ordT_eq _ _ h.2

theorem eqS_eq (L M : List ByteArray) (h : eqS L M = true) : L = M := eqB_eq (fun x y h => bytes_ext (by simpa using h)) L M h

theorem sameN_iff (x y : AN) : sameN x y = true ↔ x = y := by
  refine ⟨fun h => ?_, fun h => by rw [h]; exact sameN_self y⟩
  unfold sameN at h
  rw [Bool.and_eq_true, Bool.and_eq_true, beq_iff_eq] at h
  cases x
  cases y
  congr 1
  · exact h.1
  · exact eqS_eq _ _ h.2.1
  · exact eqB_eq sameP_eq _ _ h.2.2

theorem sameE_iff (x y : AE) : sameE x y = true ↔ x = y := by
  refine ⟨fun h => ?_, fun h => by rw [h]; exact sameE_self y⟩
  unfold sameE at h
  rw [Bool.and_eq_true, Bool.and_eq_true, Bool.and_eq_true, Bool.and_eq_true, beq_iff_eq, beq_iff_eq, beq_iff_eq, beq_iff_eq] at h
  cases x
  cases y
  congr 1
  · exact h.1
  · exact h.2.1
  · exact h.2.2.1
  · exact bytes_ext h.2.2.2.1
  · exact eqB_eq sameP_eq _ _ h.2.2.2.2

theorem knows_ns {w : World} {lb pb nb eb : Nat} (h : KnowsAt w lb pb nb eb) : NsAt w (KN.map FN.an) (some ⟨nb, 0, none⟩) 2 ∧ EsAt w (KE.map FE.ae) (some ⟨eb, 0, none⟩) 1 := by
  refine ⟨⟨ndsK lb pb, h.nodes, rfl, fun i p x hp hx => ?_⟩, ⟨edsK, h.edges, rfl, fun i p x hp hx => ?_⟩⟩
  · match i, hp, hx with
    | 0, hp, hx =>
      cases hp
      cases hx
      exact ⟨rfl, rfl, h.strs, h.props, rfl, fun j q y hq hy => by
        match j, hq, hy with
        | 0, hq, hy =>
          cases hq
          cases hy
          exact ⟨rfl, by decide, by decide, Nat.le_refl _, [], rfl, lieA_nil⟩⟩
    | 1, hp, hx =>
      cases hp
      cases hx
      exact ⟨rfl, rfl, strs_none _ _, props_none _ _, Pair2.nil⟩
  · match i, hp, hx with
    | 0, hp, hx =>
      cases hp
      cases hx
      exact ⟨rfl, rfl, rfl, rfl, by decide, props_none _ _, Pair2.nil⟩

theorem KN_ok : ∀ x ∈ KN.map FN.an, x.ok := by
  intro x hx
  obtain ⟨y, hy, rfl⟩ := List.mem_map.1 hx
  have h := KN_small.2 y hy
  refine ⟨by have := h.2.1.1; show y.labs.length ≤ _; omega, by have := h.2.2.1; show (y.props.map flatP).length ≤ _; rw [List.length_map]; omega, fun p hp => ?_⟩
  obtain ⟨q, hq, rfl⟩ := List.mem_map.1 hp
  show wtT (.node 2 q.2 ⟨#[]⟩ []) ≤ _
  simp [wtT, wtL]

theorem KE_ok : ∀ x ∈ KE.map FE.ae, x.ok := by
  intro x hx
  obtain ⟨y, hy, rfl⟩ := List.mem_map.1 hx
  exact ⟨by show (0 : Nat) ≤ _; omega, fun p hp => by cases hp⟩

theorem same_KK {w : World} {na : Option Addr} {nc : Nat} {ea : Option Addr} {ec : Nat} {ma : Option Addr} {mc : Nat} {fa : Option Addr} {fc : Nat} (h1 : NsAt w (KN.map FN.an) na 2) (h2 : EsAt w (KE.map FE.ae) ea 1) (h3 : NsAt w (KN.map FN.an) ma 2) (h4 : EsAt w (KE.map FE.ae) fa 1) :
    Calls Tryd.prog 17 #[.agg #[.slice na 2 nc, .slice ea 1 ec, .int .i64 4], .agg #[.slice ma 2 mc, .slice fa 1 fc, .int .i64 4]] w fun e w' => e = .returned (.bool true) ∧ Below w.heap.size w w' := by
  have := sameGraph_ref (KN.map FN.an) (KN.map FN.an) (KE.map FE.ae) (KE.map FE.ae) na 2 nc ea 1 ec 4 ma 2 mc fa 1 fc 4 w h1 h2 h3 h4 KN_ok KE_ok KN_ok KE_ok
  rw [eqB_self _ sameN_self, eqB_self _ sameE_self] at this
  exact this

set_option maxHeartbeats 4000000 in
set_option maxRecDepth 100000 in
theorem packed_true (w : World) : Calls Tryd.prog 6 #[] w fun e w' => e = .returned (.bool true) ∧ Below w.heap.size w w' := by
  obtain ⟨s, hs⟩ : ∃ s : ByteArray, s = ⟨KB.toArray⟩ := ⟨_, rfl⟩
  have HS := toHid hs
  have hne : s.toList.isEmpty = false := by
    rw [hs, ByteArray.toList_eq]
    exact List.isEmpty_eq_false_iff.2 (gB_some 4 (KN.map FN.an) (KE.map FE.ae))
  clear hs
  go_enter Tryd.func6, Tryd.ntmps6
  go_wp2_with fail
  refine (knows_any w).mono ?_
  rintro e u1 ⟨⟨lb, pb, nb, eb, rfl, hk⟩, k1⟩
  have HPG : Hid (Calls Tryd.prog 14 #[.agg #[.slice (some ⟨nb, 0, none⟩) 2 2, .slice (some ⟨eb, 0, none⟩) 1 1, .int .i64 4]] u1 fun e w' => e = .returned (.tuple #[.string s, .int .i64 0]) ∧ Below u1.heap.size u1 w') := by
    have h := knows_ns hk
    have := pack_good u1 (some ⟨nb, 0, none⟩) 2 2 (some ⟨eb, 0, none⟩) 1 1 4 (KN.map FN.an) (KE.map FE.ae) (fun W kW => check_K (hk.below kW)) h.1 h.2 KN_w KE_w (by decide) (by have := KB_len; show KB.length ≤ _; omega)
    rw [HS.out]
    exact this
  clear hk
  go_wp2_with fail
  refine HPG.out.mono ?_
  rintro e u2 ⟨rfl, k2⟩
  have HK2 := toHid (below2 k1 k2)
  have HOF : Hid (Calls Tryd.prog 16 #[.string s] u2 fun e w' => (∃ na nc ea ec, e = .returned (.tuple #[.agg #[.slice na 2 nc, .slice ea 1 ec, .int .i64 4], .int .i64 0]) ∧ NsAt w' (KN.map FN.an) na 2 ∧ EsAt w' (KE.map FE.ae) ea 1) ∧ Below u2.heap.size u2 w') := by
    rw [HS.out]
    exact ofGraph_K u2
  clear k1 k2 HPG
  go_wp2_with fail
  refine HOF.out.mono ?_
  rintro e u3 ⟨⟨na, nc, ea, ec, rfl, hN, hE⟩, k3⟩
  have HK3 := toHid (below2 HK2.out k3)
  have kX : Below u3.heap.size u3 (u3.alloc (.cells #[.slice na 2 nc, .slice ea 1 ec, .int .i64 4] 56)) := (Below.refl _ _).alloc (Nat.le_refl _) _
  have HX := toHid (alloc_new u3 (.cells #[.slice na 2 nc, .slice ea 1 ec, .int .i64 4] 56))
  have HN := toHid (hN.below kX)
  have HE := toHid (hE.below kX)
  have HKX := toHid (below2 HK3.out kX)
  clear hN hE k3 HOF
  go_upto_region 3 with fail
  generalize u3.alloc (.cells #[.slice na 2 nc, .slice ea 1 ec, .int .i64 4] 56) = WX at kX HX HN HE HKX ⊢
  have hlX : u3.heap.size < WX.heap.size := (Array.getElem?_eq_some_iff.1 HX.out).1
  have HS3 : Hid (∀ W', Below WX.heap.size WX W' → (W'.cell? ⟨u3.heap.size, 0, none⟩ = some (.slice na 2 nc) ∧ W'.cell? ⟨u3.heap.size, 1, none⟩ = some (.slice ea 1 ec) ∧ W'.cell? ⟨u3.heap.size, 2, none⟩ = some (.int .i64 4))) := fun W' kk => by
    have q := (kk.block _ hlX).trans HX.out
    exact ⟨cell_of q 0, cell_of q 1, cell_of q 2⟩
  have D0 : Below WX.heap.size WX WX.drew := (Below.refl _ _).drew
  obtain ⟨s0, s1, s2⟩ := HS3.out WX (Below.refl _ _)
  have HSG : Hid (∀ (W : World) (lb pb nb eb : Nat), Below WX.heap.size WX W → KnowsAt W lb pb nb eb → Calls Tryd.prog 17 #[.agg #[.slice na 2 nc, .slice ea 1 ec, .int .i64 4], .agg #[.slice (some ⟨nb, 0, none⟩) 2 2, .slice (some ⟨eb, 0, none⟩) 1 1, .int .i64 4]] W fun e w' => e = .returned (.bool true) ∧ Below W.heap.size W w') := fun W lb pb nb eb k hk => same_KK (HN.out.below k) (HE.out.below k) (knows_ns hk).1 (knows_ns hk).2
  go_region_held3 (fun W' => (W'.cell? ⟨u3.heap.size, 0, none⟩ = some (.slice na 2 nc) ∧ W'.cell? ⟨u3.heap.size, 1, none⟩ = some (.slice ea 1 ec) ∧ W'.cell? ⟨u3.heap.size, 2, none⟩ = some (.int .i64 4)))
    (first
      | with_reducible exact HS3.out _ k5
      | with_reducible exact HS3.out _ k4
      | with_reducible exact HS3.out _ D0
      | exact ⟨s0, s1, s2⟩
      | go_keep)
    (first
      | (go_at_call 17; go_fit (HSG.out u4 _ _ _ _ k4 hk4); rintro e u5 ⟨rfl, h5⟩; have k5 : Below WX.heap.size WX u5 := below2 k4 h5)
      | (go_at_call 15; go_fit (knows_any WX.drew); rintro e u4 ⟨⟨lb4, pb4, nb4, eb4, rfl, hk4⟩, h4⟩; have k4 : Below WX.heap.size WX u4 := D0.trans h4))
  all_goals
    go_wp2_with fail
    go_ret
    exact ⟨rfl, below2 HKX.out k5⟩

/-- What the bytes of right operations are read as. -/
def BackEndO (a : Option Addr) (n c : Nat) (W w' : World) (e : Ending) : Prop :=
  ∃ a' n' c', e = .returned (.tuple #[.slice a' n' c', .int .i64 0]) ∧ Below W.heap.size W w' ∧ Calls Tryd.prog 8 #[.slice a' n' c', .slice a n c] w' fun e w3 => e = .returned (.bool true) ∧ Below w'.heap.size w' w3

theorem opL_ok {x : AO} {M : Nat} (hM : M ≤ 1099511627776) (h : OpL M x) : x.ok := ⟨by unfold AP.ok; have := h.1; omega, fun q hq => by unfold AP.ok; have := h.2 q hq; omega⟩

theorem osB_one {X Y : List AO} (h1 : OkOs X) (h2 : OkOs Y) (h : osB X = osB Y) : X = Y := by
  have e1 := osP_os h1
  rw [h, osP_os h2] at e1
  simp only [Option.some.injEq, Prod.mk.injEq] at e1
  exact e1.1.symm

theorem saysO_back (B : Nat) {w : World} (hB : B ≤ w.heap.size) (hT : Tabs B w) {P : List Oq} {a : Option Addr} {n : Nat} (hP : OpsAt w P a n) (hok : ∀ p ∈ P, OOkU w 1048576 p) (c : Nat) :
    ∃ s : ByteArray, (∀ W, Below w.heap.size w W → Calls Tryd.prog 4 #[.slice a n c] W fun e w' => e = .returned (.tuple #[.string s, .int .i64 (opsE P)]) ∧ Below W.heap.size W w') ∧ (opsE P = 0 → ∀ W, Below w.heap.size w W → Calls Tryd.prog 5 #[.string s] W fun e w' => BackEndO a n c W w' e) ∧ (opsE P ≠ 0 → s = ⟨#[]⟩) := by
  by_cases h0 : opsE P = 0
  · obtain ⟨X, a1, a2, a3⟩ := ops_right hP hok h0
    have hl := osB_len a2 (fun x hx => ⟨by have := (a3 x hx).1; omega, fun q hq => by have := (a3 x hx).2 q hq; omega⟩)
    refine ⟨⟨(osB X).toArray⟩, fun W kW => ?_, fun _ W kW => ?_, fun h => absurd h0 h⟩
    · rw [h0]
      exact ops_own B (Nat.le_trans hB kW.size) (hT.below (kW.mono hB)) (a1.below kW) a2 hl
    · refine (ofOps_gen B W (Nat.le_trans hB kW.size) (hT.below (kW.mono hB)) (osB X) hl (osLow_own a2 (fun x hx => ⟨by have := (a3 x hx).1; omega, fun q hq => by have := (a3 x hx).2 q hq; omega⟩))).mono ?_
      rintro e w' ⟨⟨a', n', c', Y, rfl, b1, b2, b3⟩ | ⟨_, hno⟩, k⟩
      · obtain rfl := osB_one b2 a2 b3
        exact ⟨a', n', c', rfl, k, sameOps_self Y a' n' c' a n c w' b1 ((a1.below kW).below k) (fun x hx => opL_ok (by omega) (a3 x hx))⟩
      · exact absurd rfl (hno X a2)
  · exact ⟨⟨#[]⟩, fun W kW => ops_any P [] a n c W ⟨#[]⟩ (hP.below kW) (fun p hp => ((hok p hp).1).below kW) (fun h => absurd h h0) (fun _ => rfl), fun h => absurd h h0, fun _ => rfl⟩

set_option maxHeartbeats 4000000 in
set_option maxRecDepth 100000 in
theorem law_packOps (B : Nat) (P : List Oq) (a : Option Addr) (n c : Nat) (L : List UInt8) (hlen : L.length ≤ 1048576) (w : World) (hB : B ≤ w.heap.size) (hT : Tabs B w) (hP : OpsAt w P a n) (hok : ∀ p ∈ P, OOkU w 1048576 p) :
    Calls Tryd.prog 3 #[.slice a n c, .string ⟨L.toArray⟩] w fun e w' => e = .returned (.bool true) ∧ Below w.heap.size w w' := by
  obtain ⟨s, hp, ho, he⟩ := saysO_back B hB hT hP hok c
  have HC : Hid (∀ W, Below w.heap.size w W → Calls Tryd.prog 7 #[.slice a n c] W fun e w' => e = .returned (.int .i64 (opsE P)) ∧ Below W.heap.size W w') := fun W k => badOps_any P a n c W (hP.below k) (fun p hp => ((hok p hp).1).below k)
  have HPK := toHid hp
  have HO := toHid ho
  have HE := toHid he
  clear hp ho he hP hok
  generalize opsE P = er at HPK HO HE HC
  have HY : Hid (∀ W, Below w.heap.size w W → Calls Tryd.prog 5 #[.string ⟨L.toArray⟩] W fun e w' => OfEndO w' L e ∧ Below W.heap.size W w') := fun W k => ofOps_gen B W (Nat.le_trans hB k.size) (hT.below (k.mono hB)) L (by omega) (osLow_short hlen)
  have HW : Hid (∀ {W W' : World} {a : Option Addr} {n c : Nat} {X : List AO}, Below w.heap.size w W → Below W.heap.size W W' → OsAt W X a n → OkOs X → osB X = L → Calls Tryd.prog 4 #[.slice a n c] W' fun e w' => e = .returned (.tuple #[.string ⟨L.toArray⟩, .int .i64 0]) ∧ Below W'.heap.size W' w') := fun k k' a1 a2 hl => by
    have kk := below2 k k'
    rw [← hl]
    exact ops_own B (Nat.le_trans hB kk.size) (hT.below (kk.mono hB)) (a1.below k') a2 (by rw [hl]; omega)
  clear hB hT hlen
  generalize (⟨L.toArray⟩ : ByteArray) = b at HY HW ⊢
  go_enter Tryd.func3, Tryd.ntmps3
  go_wp2_with fail
  refine (HPK.out w (Below.refl _ _)).mono ?_
  rintro e w1 ⟨rfl, k1⟩
  have HK1 := toHid k1
  clear k1
  go_wp2_with fail
  refine (HY.out w1 HK1.out).mono ?_
  rintro e w2 ⟨⟨ma, ml, mc, X, rfl, b1, b2, b3⟩ | ⟨rfl, _⟩, k2⟩
  · have HK2 := toHid (below2 HK1.out k2)
    have HG2 : Hid (∀ W', Below w2.heap.size w2 W' → Calls Tryd.prog 4 #[.slice ma ml mc] W' fun e w' => e = .returned (.tuple #[.string b, .int .i64 0]) ∧ Below W'.heap.size W' w') := fun W' k' => HW.out HK2.out k' b1 b2 b3
    clear b1 b2 b3 k2
    go_wp2_with fail
    refine (packed_true w2).mono ?_
    rintro e w4 ⟨rfl, k4⟩
    have HK4 := toHid (below2 HK2.out k4)
    have HGG := toHid (HG2.out w4 k4)
    clear k4
    go_wp2_with fail
    refine HGG.out.mono ?_
    rintro e w5 ⟨rfl, k5⟩
    have HK5 := toHid (below2 HK4.out k5)
    clear k5 HGG
    have HCK := toHid (HC.out w5 HK5.out)
    go_wp2_with fail
    refine HCK.out.mono ?_
    rintro e v1 ⟨rfl, j1⟩
    have HKv := toHid (below2 HK5.out j1)
    clear j1 HCK
    by_cases h0 : er = 0
    · have e0 : (er != 0) = false := by simp [h0]
      have HB := toHid (HO.out h0 v1 HKv.out)
      go_wp2_with fail
      refine HB.out.mono ?_
      rintro e v2 ⟨qa, ql, qc, rfl, j2, hsm⟩
      have HKw := toHid (below2 HKv.out j2)
      have HSM := toHid hsm
      clear hsm j2 HB
      go_wp2_with fail
      refine HSM.out.mono ?_
      rintro e v4 ⟨rfl, j4⟩
      have HKy := toHid (below2 HKw.out j4)
      clear j4
      go_wp2_with fail
      go_ret
      exact ⟨rfl, HKy.out⟩
    · have e0 : (er != 0) = true := by simp [h0]
      have es := HE.out h0
      go_wp2_with fail
      go_ret
      exact ⟨rfl, HKv.out⟩
  · have HK2 := toHid (below2 HK1.out k2)
    clear k2
    go_wp2_with fail
    refine (packed_true w2).mono ?_
    rintro e w4 ⟨rfl, k4⟩
    have HK4 := toHid (below2 HK2.out k4)
    clear k4
    have HCK := toHid (HC.out w4 HK4.out)
    go_wp2_with fail
    refine HCK.out.mono ?_
    rintro e v1 ⟨rfl, j1⟩
    have HKv := toHid (below2 HK4.out j1)
    clear j1 HCK
    by_cases h0 : er = 0
    · have e0 : (er != 0) = false := by simp [h0]
      have HB := toHid (HO.out h0 v1 HKv.out)
      go_wp2_with fail
      refine HB.out.mono ?_
      rintro e v2 ⟨qa, ql, qc, rfl, j2, hsm⟩
      have HKw := toHid (below2 HKv.out j2)
      have HSM := toHid hsm
      clear hsm j2 HB
      go_wp2_with fail
      refine HSM.out.mono ?_
      rintro e v4 ⟨rfl, j4⟩
      have HKy := toHid (below2 HKw.out j4)
      clear j4
      go_wp2_with fail
      go_ret
      exact ⟨rfl, HKy.out⟩
    · have e0 : (er != 0) = true := by simp [h0]
      have es := HE.out h0
      go_wp2_with fail
      go_ret
      exact ⟨rfl, HKv.out⟩

open Go.RowKit Go.Lib
set_option linter.unusedVariables false

theorem accept_eq : (Rows.laid_unicode_utf8_acceptRanges : DataW Unit) = acceptData := by kernel_rfl
theorem first_eq : (Rows.laid_unicode_utf8_first : DataW Unit) = firstData := Pinned.utf8First_eq

theorem u8extra : U8Extra Tryd.prog Tryd.lays196_ren := ⟨by kernel_rfl, by kernel_rfl, by kernel_rfl, by kernel_rfl, by kernel_rfl, by kernel_rfl, by kernel_rfl⟩

theorem tabs_of {l : List (String × DataW Unit)} (hf : ("unicode/utf8.first", Rows.laid_unicode_utf8_first) ∈ l) (ha : ("unicode/utf8.acceptRanges", Rows.laid_unicode_utf8_acceptRanges) ∈ l) {W : World} (h : laidMet Tryd.prog l W) : Tabs W.heap.size W := by
  have h0 : Lib.Utf8Tabs 0 1 W := utf8Tabs_of_readsT (U8Types.of196 Tryd.lays196) u8extra
    (first_eq ▸ Lib.laidMet.reads h hf)
    (accept_eq ▸ Lib.laidMet.reads h ha)
  have b0 : 0 < W.heap.size := World.block_lt_of_cell? W _ (h0.1 0 (by decide))
  have b1 : 1 < W.heap.size := World.block_lt_of_cell? W _ (h0.2 0 (by decide)).1
  intro w' hb
  refine ⟨fun c hc => ?_, fun i hi => ⟨?_, ?_⟩⟩
  · rw [hb.cell (p := ⟨0, c, none⟩) b0]; exact h0.1 c hc
  · rw [hb.cell (p := ⟨1, 2 * i, none⟩) b1]; exact (h0.2 i hi).1
  · rw [hb.cell (p := ⟨1, 2 * i + 1, none⟩) b1]; exact (h0.2 i hi).2
end Go.Proofs.YtldpionmmplncaaDoor
