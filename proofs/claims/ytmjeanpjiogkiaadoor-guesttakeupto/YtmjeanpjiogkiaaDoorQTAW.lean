/-
  What is proved here: what the texts SPure, SMerge, SRot, SIns, SUpDn, FSt, FIns, FSym1 prove, in one text.
-/
import Derived.Test.YtmjeanpjiogkiaaDoorRows
import Derived.Test.YtmjeanpjiogkiaaDoorQTAA
import Derived.Deep.CutBlock
import Derived.Deep.RegionHeld3
import Derived.BigQuiet
namespace Go.Proofs.YtmjeanpjiogkiaaDoor
open Go.RowKit
set_option linter.unusedVariables false

set_option linter.unusedVariables false

section
variable {α : Type}

/-- D' is D, mixed within a range. -/
def MixS (a b : Nat) (D D' : List α) : Prop := D'.length = D.length ∧ D'.take a = D.take a ∧ D'.drop b = D.drop b ∧ D'.Perm D

theorem MixS.refl (a b : Nat) (D : List α) : MixS a b D D := ⟨rfl, rfl, rfl, List.Perm.refl _⟩

theorem MixS.trans {a b : Nat} {D D' D'' : List α} (h : MixS a b D D') (k : MixS a b D' D'') : MixS a b D D'' := ⟨k.1.trans h.1, k.2.1.trans h.2.1, k.2.2.1.trans h.2.2.1, k.2.2.2.trans h.2.2.2⟩

theorem MixS.wide {a b a' b' : Nat} {D D' : List α} (h : MixS a b D D') (ha : a' ≤ a) (hb : b ≤ b') : MixS a' b' D D' := by
  refine ⟨h.1, ?_, ?_, h.2.2.2⟩
  · have := congrArg (List.take a') h.2.1
    rwa [List.take_take, List.take_take, Nat.min_eq_left ha] at this
  · have := congrArg (List.drop (b' - b)) h.2.2.1
    rw [List.drop_drop, List.drop_drop] at this
    rwa [show b + (b' - b) = b' by omega] at this

theorem MixS.before {a b : Nat} {D D' : List α} (h : MixS a b D D') {i : Nat} (hi : i < a) : D'[i]? = D[i]? := by
  have := congrArg (fun l => l[i]?) h.2.1
  simpa [List.getElem?_take, hi] using this

theorem MixS.behind {a b : Nat} {D D' : List α} (h : MixS a b D D') {i : Nat} (hi : b ≤ i) : D'[i]? = D[i]? := by
  have := congrArg (fun l => l[i - b]?) h.2.2.1
  simp only [List.getElem?_drop] at this
  rwa [show b + (i - b) = i by omega] at this

/-- The part of a list within a range. -/
def segS (D : List α) (a b : Nat) : List α := (D.drop a).take (b - a)

theorem split3 (D : List α) (a b : Nat) (hab : a ≤ b) : D = D.take a ++ (segS D a b ++ D.drop b) := by
  have h1 : D.drop b = (D.drop a).drop (b - a) := by rw [List.drop_drop]; congr 1; omega
  rw [h1, segS, List.take_append_drop, List.take_append_drop]

theorem MixS.segS {a b : Nat} {D D' : List α} (h : MixS a b D D') (hab : a ≤ b) : (segS D' a b).Perm (segS D a b) := by
  have hp := h.2.2.2
  rw [split3 D a b hab, split3 D' a b hab, h.2.1, h.2.2.1] at hp
  exact (List.perm_append_right_iff _).1 ((List.perm_append_left_iff _).1 hp)

theorem seg_get (D : List α) (a b i : Nat) (x : α) (ha : a ≤ i) (hb : i < b) (h : D[i]? = some x) : x ∈ segS D a b := by
  refine List.mem_of_getElem? (i := i - a) ?_
  rw [segS, List.getElem?_take, if_pos (by omega), List.getElem?_drop, show a + (i - a) = i by omega, h]

theorem get_seg (D : List α) (a b : Nat) (x : α) (h : x ∈ segS D a b) : ∃ i, a ≤ i ∧ i < b ∧ D[i]? = some x := by
  obtain ⟨j, hj⟩ := List.getElem?_of_mem h
  rw [segS, List.getElem?_take] at hj
  split at hj
  · rw [List.getElem?_drop] at hj
    exact ⟨a + j, by omega, by omega, hj⟩
  · cases hj

/-- What stands in the range stood in it. -/
theorem MixS.from {a b : Nat} {D D' : List α} (h : MixS a b D D') (hab : a ≤ b) {i : Nat} {x : α} (ha : a ≤ i) (hb : i < b) (hx : D'[i]? = some x) : ∃ j, a ≤ j ∧ j < b ∧ D[j]? = some x :=
  get_seg D a b x ((h.segS hab).mem_iff.1 (seg_get D' a b i x ha hb hx))

variable (key : α → Int)

/-- A part that rises. -/
def Ris (D : List α) (a b : Nat) : Prop := ∀ (i j : Nat) (x y : α), a ≤ i → i < j → j < b → D[i]? = some x → D[j]? = some y → key x ≤ key y

/-- Each of a part is at most each of the next. -/
def Und (D : List α) (a m b : Nat) : Prop := ∀ (i j : Nat) (x y : α), a ≤ i → i < m → m ≤ j → j < b → D[i]? = some x → D[j]? = some y → key x ≤ key y

variable {key}

theorem Ris.sub {D : List α} {a b a' b' : Nat} (h : Ris key D a b) (ha : a ≤ a') (hb : b' ≤ b) : Ris key D a' b' := fun i j x y h1 h2 h3 hx hy => h i j x y (by omega) h2 (by omega) hx hy

theorem Ris.one {D : List α} {a b : Nat} (h : b ≤ a + 1) : Ris key D a b := fun i j x y h1 h2 h3 _ _ => by omega

theorem Ris.join {D : List α} {a m b : Nat} (h1 : Ris key D a m) (h2 : Ris key D m b) (hu : Und key D a m b) : Ris key D a b := fun i j x y ha hij hb hx hy => by
  by_cases hm : j < m
  · exact h1 i j x y ha hij hm hx hy
  · by_cases hi : i < m
    · exact hu i j x y ha hi (by omega) hb hx hy
    · exact h2 i j x y (by omega) hij hb hx hy

theorem Und.mix1 {D D' : List α} {a m b : Nat} (h : Und key D a m b) (ham : a ≤ m) (k : MixS a m D D') : Und key D' a m b := fun i j x y h1 h2 h3 h4 hx hy => by
  obtain ⟨i', g1, g2, g3⟩ := k.from ham h1 h2 hx
  rw [k.behind h3] at hy
  exact h i' j x y g1 g2 h3 h4 g3 hy

theorem Und.mix2 {D D' : List α} {a m b : Nat} (h : Und key D a m b) (hmb : m ≤ b) (k : MixS m b D D') : Und key D' a m b := fun i j x y h1 h2 h3 h4 hx hy => by
  obtain ⟨j', g1, g2, g3⟩ := k.from hmb h3 h4 hy
  rw [k.before h2] at hx
  exact h i j' x y h1 h2 g1 g2 hx g3

theorem Ris.before {D D' : List α} {a b a' b' : Nat} (h : Ris key D a b) (k : MixS a' b' D D') (hb : b ≤ a') : Ris key D' a b := fun i j x y h1 h2 h3 hx hy => by
  rw [k.before (by omega)] at hx hy
  exact h i j x y h1 h2 h3 hx hy

theorem Ris.behind {D D' : List α} {a b a' b' : Nat} (h : Ris key D a b) (k : MixS a' b' D D') (hb : b' ≤ a) : Ris key D' a b := fun i j x y h1 h2 h3 hx hy => by
  rw [k.behind (by omega)] at hx hy
  exact h i j x y h1 h2 h3 hx hy

/-- Two that change places. -/
def swp (D : List α) (i j : Nat) : List α := match D[i]?, D[j]? with
  | some x, some y => (D.set i y).set j x
  | _, _ => D

theorem swp_eq {D : List α} {i j : Nat} {x y : α} (hx : D[i]? = some x) (hy : D[j]? = some y) : swp D i j = (D.set i y).set j x := by simp [swp, hx, hy]

theorem swp_get {D : List α} {i j : Nat} {x y : α} (hx : D[i]? = some x) (hy : D[j]? = some y) (k : Nat) : (swp D i j)[k]? = if k = j then some x else if k = i then some y else D[k]? := by
  have hi := (List.getElem?_eq_some_iff.1 hx).1
  have hj := (List.getElem?_eq_some_iff.1 hy).1
  rw [swp_eq hx hy, List.getElem?_set]
  by_cases h1 : k = j
  · subst h1; simp [hj]
  · rw [if_neg (Ne.symm h1), if_neg h1, List.getElem?_set]
    by_cases h2 : k = i
    · subst h2; simp [hi]
    · rw [if_neg (Ne.symm h2), if_neg h2]

theorem swp_perm {D : List α} {i j : Nat} {x y : α} (hx : D[i]? = some x) (hy : D[j]? = some y) (hij : i < j) : (swp D i j).Perm D := by
  have hi := (List.getElem?_eq_some_iff.1 hx).1
  have hj := (List.getElem?_eq_some_iff.1 hy).1
  have e : D = D.take i ++ (x :: (segS D (i + 1) j ++ (y :: D.drop (j + 1)))) := by
    have h1 := split3 D (i + 1) j (by omega)
    have h2 : D.take (i + 1) = D.take i ++ [x] := by rw [List.take_add_one, hx]; rfl
    have h3 : D.drop j = y :: D.drop (j + 1) := by
      rw [List.drop_eq_getElem_cons hj]
      congr 1
      rw [List.getElem?_eq_getElem hj] at hy
      exact Option.some.inj hy
    rw [h2, h3] at h1
    simpa using h1
  have lt : (D.take i).length = i := by rw [List.length_take]; omega
  have ls : (segS D (i + 1) j).length = j - (i + 1) := by rw [segS, List.length_take, List.length_drop]; omega
  have e2 : swp D i j = D.take i ++ (y :: (segS D (i + 1) j ++ (x :: D.drop (j + 1)))) := by
    apply List.ext_getElem?
    intro k
    rw [swp_get hx hy]
    by_cases h1 : k = j
    · subst h1
      rw [if_pos rfl, List.getElem?_append_right (by omega), lt, List.getElem?_cons, if_neg (by omega), List.getElem?_append_right (by omega), ls]
      rw [show k - i - 1 - (k - (i + 1)) = 0 by omega]
      rfl
    · rw [if_neg h1]
      by_cases h2 : k = i
      · subst h2
        rw [if_pos rfl, List.getElem?_append_right (by omega), lt, Nat.sub_self]
        rfl
      · rw [if_neg h2]
        conv => lhs; rw [e]
        by_cases h3 : k < i
        · rw [List.getElem?_append_left (by omega), List.getElem?_append_left (by omega)]
        · rw [List.getElem?_append_right (by omega), List.getElem?_append_right (by omega), lt]
          rw [List.getElem?_cons, List.getElem?_cons, if_neg (by omega), if_neg (by omega)]
          by_cases h4 : k < j
          · rw [List.getElem?_append_left (by omega), List.getElem?_append_left (by omega)]
          · rw [List.getElem?_append_right (by omega), List.getElem?_append_right (by omega), ls, List.getElem?_cons, List.getElem?_cons, if_neg (by omega), if_neg (by omega)]
  rw [e2]
  conv => rhs; rw [e]
  refine List.Perm.append_left _ ?_
  refine List.Perm.trans (l₂ := y :: x :: (segS D (i + 1) j ++ D.drop (j + 1))) (List.Perm.cons _ List.perm_middle) ?_
  refine List.Perm.trans (List.Perm.swap _ _ _) ?_
  exact List.Perm.cons _ List.perm_middle.symm

theorem swp_mix {D : List α} {i j a b : Nat} {x y : α} (hx : D[i]? = some x) (hy : D[j]? = some y) (hij : i < j) (ha : a ≤ i) (hb : j < b) : MixS a b D (swp D i j) := by
  refine ⟨?_, ?_, ?_, swp_perm hx hy hij⟩
  · rw [swp_eq hx hy]; simp
  · apply List.ext_getElem?
    intro k
    rw [List.getElem?_take, List.getElem?_take]
    split
    · rw [swp_get hx hy, if_neg (by omega), if_neg (by omega)]
    · rfl
  · apply List.ext_getElem?
    intro k
    rw [List.getElem?_drop, List.getElem?_drop, swp_get hx hy, if_neg (by omega), if_neg (by omega)]

end

set_option linter.unusedVariables false

section
variable {α : Type}

/-- D' is D, the parts from a to m and from m to b in each other's places. -/
structure RotR (D D' : List α) (a m b : Nat) : Prop where
  len : D'.length = D.length
  lo : ∀ k, k < a → D'[k]? = D[k]?
  hi : ∀ k, b ≤ k → D'[k]? = D[k]?
  up : ∀ t, t < b - m → D'[a + t]? = D[m + t]?
  down : ∀ t, t < m - a → D'[a + (b - m) + t]? = D[a + t]?

theorem seg_len (D : List α) (a b : Nat) (hb : b ≤ D.length) : (segS D a b).length = b - a := by
  rw [segS, List.length_take, List.length_drop]
  omega

theorem seg_at (D : List α) (a b i : Nat) (h : i < b - a) : (segS D a b)[i]? = D[a + i]? := by
  rw [segS, List.getElem?_take, if_pos h, List.getElem?_drop]

theorem RotR.eq {D D' : List α} {a m b : Nat} (h : RotR D D' a m b) (ham : a ≤ m) (hmb : m ≤ b) (hb : b ≤ D.length) : D' = D.take a ++ (segS D m b ++ (segS D a m ++ D.drop b)) := by
  have l1 : (D.take a).length = a := by rw [List.length_take]; omega
  have l2 := seg_len D m b hb
  have l3 := seg_len D a m (by omega)
  apply List.ext_getElem?
  intro k
  by_cases h1 : k < a
  · rw [h.lo k h1, List.getElem?_append_left (by omega), List.getElem?_take, if_pos h1]
  · rw [List.getElem?_append_right (by omega), l1]
    by_cases h2 : k - a < b - m
    · rw [List.getElem?_append_left (by omega), seg_at D m b _ h2, ← h.up _ h2]
      congr 1
      omega
    · rw [List.getElem?_append_right (by omega), l2]
      by_cases h3 : k - a - (b - m) < m - a
      · rw [List.getElem?_append_left (by omega), seg_at D a m _ h3, ← h.down _ h3]
        congr 1
        omega
      · rw [List.getElem?_append_right (by omega), l3, List.getElem?_drop, h.hi k (by omega)]
        congr 1
        omega

theorem RotR.mix {D D' : List α} {a m b : Nat} (h : RotR D D' a m b) (ham : a ≤ m) (hmb : m ≤ b) (hb : b ≤ D.length) : MixS a b D D' := by
  refine ⟨h.len, ?_, ?_, ?_⟩
  · apply List.ext_getElem?
    intro k
    rw [List.getElem?_take, List.getElem?_take]
    split
    · rename_i hk; exact h.lo k hk
    · rfl
  · apply List.ext_getElem?
    intro k
    rw [List.getElem?_drop, List.getElem?_drop]
    exact h.hi _ (by omega)
  · have e := h.eq ham hmb hb
    rw [e]
    have e2 : D = D.take a ++ (segS D a m ++ (segS D m b ++ D.drop b)) := by
      have h1 := split3 D a b (by omega)
      have h2 : segS D a b = segS D a m ++ segS D m b := by
        apply List.ext_getElem?
        intro k
        have l1 := seg_len D a m (by omega)
        have l2 := seg_len D a b hb
        have l3 := seg_len D m b hb
        by_cases hk : k < m - a
        · rw [List.getElem?_append_left (by omega), seg_at D a m k hk, seg_at D a b k (by omega)]
        · rw [List.getElem?_append_right (by omega), l1]
          by_cases hk2 : k < b - a
          · rw [seg_at D a b k hk2, seg_at D m b _ (by omega)]
            congr 1
            omega
          · rw [List.getElem?_eq_none (by omega), List.getElem?_eq_none (by omega)]
      rw [h2, List.append_assoc] at h1
      exact h1
    conv => rhs; rw [e2]
    refine List.Perm.append_left _ ?_
    rw [← List.append_assoc, ← List.append_assoc]
    exact List.Perm.append_right _ List.perm_append_comm

variable {key : α → Int}

/-- What the search gives, and what stands behind the change of places. -/
theorem merge_mid {D D1 : List α} {a m b mid n s e : Nat} (ham : a < m) (hmb : m < b) (hb : b ≤ D.length) (h1 : Ris key D a m) (h2 : Ris key D m b) (hmid : mid = (a + b) / 2) (hn : n = mid + m) (he : e = n - s)
    (hlo : (if mid < m then n - b else a) ≤ s) (hhi : s ≤ (if mid < m then mid else m))
    (hbel : ∀ c x y, (if mid < m then n - b else a) ≤ c → c < s → D[c]? = some x → D[n - 1 - c]? = some y → key x ≤ key y)
    (habv : ∀ c x y, s ≤ c → c < (if mid < m then mid else m) → D[c]? = some x → D[n - 1 - c]? = some y → key y < key x)
    (hr : RotR D D1 s m e) : a ≤ s ∧ s ≤ m ∧ m ≤ e ∧ e ≤ b ∧ s ≤ mid ∧ mid ≤ e ∧ Ris key D1 a s ∧ Ris key D1 s mid ∧ Ris key D1 mid e ∧ Ris key D1 e b ∧ Und key D1 a mid b := by
  have hm2 : 2 * mid ≤ a + b ∧ a + b ≤ 2 * mid + 1 := by omega
  have hb1 : a ≤ s ∧ s ≤ m ∧ m ≤ e ∧ e ≤ b ∧ s ≤ mid ∧ mid ≤ e := by
    split at hlo <;> split at hhi <;> omega
  obtain ⟨g1, g2, g3, g4, g5, g6⟩ := hb1
  have hme : s + (e - m) = mid := by omega
  have inx : ∀ k, k < b → ∃ x, D[k]? = some x := fun k hk => ⟨_, List.getElem?_eq_getElem (by omega)⟩
  -- what stands where
  have w1 : ∀ k, k < s → D1[k]? = D[k]? := hr.lo
  have w2 : ∀ k, s ≤ k → k < mid → D1[k]? = D[m + (k - s)]? := fun k hk hk2 => by
    have := hr.up (k - s) (by omega)
    rwa [show s + (k - s) = k by omega] at this
  have w3 : ∀ k, mid ≤ k → k < e → D1[k]? = D[s + (k - mid)]? := fun k hk hk2 => by
    have := hr.down (k - mid) (by omega)
    rwa [show s + (e - m) + (k - mid) = k by omega] at this
  have w4 : ∀ k, e ≤ k → D1[k]? = D[k]? := hr.hi
  have lele : ∀ (i j : Nat) (x y : α), a ≤ i → i ≤ j → j < m → D[i]? = some x → D[j]? = some y → key x ≤ key y := fun i j x y c1 c2 c3 hx hy => by
    rcases Nat.lt_or_ge i j with h | h
    · exact h1 i j x y c1 h c3 hx hy
    · have : i = j := by omega
      subst this
      rw [hx] at hy
      injection hy with hy
      rw [hy]
      exact Int.le_refl _
  have rele : ∀ (i j : Nat) (x y : α), m ≤ i → i ≤ j → j < b → D[i]? = some x → D[j]? = some y → key x ≤ key y := fun i j x y c1 c2 c3 hx hy => by
    rcases Nat.lt_or_ge i j with h | h
    · exact h2 i j x y c1 h c3 hx hy
    · have : i = j := by omega
      subst this
      rw [hx] at hy
      injection hy with hy
      rw [hy]
      exact Int.le_refl _
  refine ⟨g1, g2, g3, g4, g5, g6, ?_, ?_, ?_, ?_, ?_⟩
  · intro i j x y c1 c2 c3 hx hy
    rw [w1 i (by omega)] at hx
    rw [w1 j c3] at hy
    exact h1 i j x y c1 c2 (by omega) hx hy
  · intro i j x y c1 c2 c3 hx hy
    rw [w2 i c1 (by omega)] at hx
    rw [w2 j (by omega) c3] at hy
    exact h2 _ _ x y (by omega) (by omega) (by omega) hx hy
  · intro i j x y c1 c2 c3 hx hy
    rw [w3 i c1 (by omega)] at hx
    rw [w3 j (by omega) c3] at hy
    exact h1 _ _ x y (by omega) (by omega) (by omega) hx hy
  · intro i j x y c1 c2 c3 hx hy
    rw [w4 i c1] at hx
    rw [w4 j (by omega)] at hy
    exact h2 i j x y (by omega) c2 c3 hx hy
  · intro i j x y c1 c2 c3 c4 hx hy
    by_cases hi : i < s
    · rw [w1 i hi] at hx
      by_cases hj : j < e
      · rw [w3 j c3 hj] at hy
        exact h1 i _ x y c1 (by omega) (by omega) hx hy
      · rw [w4 j (by omega)] at hy
        have hs : (if mid < m then n - b else a) < s := by
          by_cases hq : mid < m
          · rw [if_pos hq] at hlo ⊢; omega
          · rw [if_neg hq] at hlo ⊢; omega
        obtain ⟨u, hu⟩ := inx (s - 1) (by omega)
        obtain ⟨v, hv⟩ := inx e (by omega)
        have h3 := hbel (s - 1) u v (by omega) (by omega) hu (by rw [show n - 1 - (s - 1) = e by omega]; exact hv)
        have h4 := lele i (s - 1) x u c1 (by omega) (by omega) hx hu
        have h5 := rele e j v y g3 (by omega) c4 hv hy
        omega
    · rw [w2 i (by omega) c2] at hx
      by_cases hj : j < e
      · rw [w3 j c3 hj] at hy
        have hs : s < (if mid < m then mid else m) := by
          by_cases hq : mid < m
          · rw [if_pos hq] at hhi ⊢; omega
          · rw [if_neg hq] at hhi ⊢; omega
        obtain ⟨u, hu⟩ := inx s (by omega)
        obtain ⟨v, hv⟩ := inx (e - 1) (by omega)
        have h3 := habv s u v (Nat.le_refl _) hs hu (by rw [show n - 1 - s = e - 1 by omega]; exact hv)
        have h4 := rele (m + (i - s)) (e - 1) x v (by omega) (by omega) (by omega) hx hv
        have h5 := lele s (s + (j - mid)) u y g1 (by omega) (by omega) hu hy
        omega
      · rw [w4 j (by omega)] at hy
        exact h2 _ j x y (by omega) (by omega) c4 hx hy

/-- Behind the two calls that merge the halves, all rises. -/
theorem merge_end {D1 D2 D3 : List α} {a s mid e b : Nat} (g1 : a ≤ s) (g2 : s ≤ mid) (g3 : mid ≤ e) (g4 : e ≤ b) (hu : Und key D1 a mid b) (k1 : MixS a mid D1 D2) (r1 : Ris key D2 a mid) (k2 : MixS mid b D2 D3) (r2 : Ris key D3 mid b) : Ris key D3 a b ∧ MixS a b D1 D3 :=
  ⟨(r1.before k2 (Nat.le_refl _)).join r2 ((hu.mix1 (by omega) k1).mix2 (by omega) k2), (k1.wide (Nat.le_refl _) (by omega)).trans (k2.wide (by omega) (Nat.le_refl _))⟩

/-- One of a part that doesn't stand where it should, moved step by step. -/
def Slid (D D' : List α) (i j : Nat) : Prop := D'.length = D.length ∧ (∀ k, k < i → D'[k]? = D[k]?) ∧ (∀ k, j < k → D'[k]? = D[k]?) ∧ (D'[i]? = D[j]?) ∧ ∀ k, i ≤ k → k < j → D'[k + 1]? = D[k]?

end

set_option linter.unusedVariables false

section
variable {α : Type}

/-- Two ranges of n, swapped. -/
structure SwapR (D D' : List α) (a b n : Nat) : Prop where
  len : D'.length = D.length
  fst : ∀ t, t < n → D'[a + t]? = D[b + t]?
  snd : ∀ t, t < n → D'[b + t]? = D[a + t]?
  oth : ∀ k, (k < a ∨ a + n ≤ k) → (k < b ∨ b + n ≤ k) → D'[k]? = D[k]?

theorem SwapR.zero (D : List α) (a b : Nat) : SwapR D D a b 0 := ⟨rfl, fun t h => by omega, fun t h => by omega, fun _ _ _ => rfl⟩

theorem SwapR.step {D D' : List α} {a b n : Nat} (h : SwapR D D' a b n) (hab : a + n < b) (hb : b + n < D.length) : SwapR D (swp D' (a + n) (b + n)) a b (n + 1) := by
  have hl := h.len
  obtain ⟨x, hx⟩ : ∃ x, D'[a + n]? = some x := ⟨_, List.getElem?_eq_getElem (by omega)⟩
  obtain ⟨y, hy⟩ : ∃ y, D'[b + n]? = some y := ⟨_, List.getElem?_eq_getElem (by omega)⟩
  have ox := h.oth (a + n) (.inr (Nat.le_refl _)) (.inl (by omega))
  have oy := h.oth (b + n) (.inr (by omega)) (.inr (Nat.le_refl _))
  have g := swp_get hx hy
  refine ⟨by rw [swp_eq hx hy]; simp [hl], fun t ht => ?_, fun t ht => ?_, fun k h1 h2 => ?_⟩
  · rw [g]
    by_cases e : t = n
    · subst e
      rw [if_neg (by omega), if_pos rfl, ← oy, hy]
    · rw [if_neg (by omega), if_neg (by omega)]
      exact h.fst t (by omega)
  · rw [g]
    by_cases e : t = n
    · subst e
      rw [if_pos rfl, ← ox, hx]
    · rw [if_neg (by omega), if_neg (by omega)]
      exact h.snd t (by omega)
  · rw [g, if_neg (by omega), if_neg (by omega)]
    exact h.oth k (by omega) (by omega)

/-- Where each is to stand. -/
def tgt (D : List α) (a m b k : Nat) : Option α := if k < a + (b - m) then D[m + (k - a)]? else D[a + (k - a - (b - m))]?

/-- Rotate's loop: i and j are left to be brought to their places on either side of m. -/
structure RotI (D E : List α) (a m b i j : Nat) : Prop where
  len : E.length = D.length
  out : ∀ k, (k < a ∨ b ≤ k) → E[k]? = D[k]?
  left : ∀ k, a ≤ k → k < m - i → E[k]? = tgt D a m b k
  right : ∀ k, m + j ≤ k → k < b → E[k]? = tgt D a m b k
  up : ∀ t, t < j → tgt D a m b (m - i + t) = E[m + t]?
  down : ∀ t, t < i → tgt D a m b (m - i + j + t) = E[m - i + t]?

theorem RotI.start (D : List α) (a m b : Nat) (ham : a ≤ m) (hmb : m ≤ b) : RotI D D a m b (m - a) (b - m) := by
  refine ⟨rfl, fun _ _ => rfl, fun k h1 h2 => by omega, fun k h1 h2 => by omega, fun t ht => ?_, fun t ht => ?_⟩
  · rw [tgt, if_pos (by omega)]
    congr 1
    omega
  · rw [tgt, if_neg (by omega)]
    congr 1
    omega

theorem RotI.more {D E E' : List α} {a m b i j : Nat} (h : RotI D E a m b i j) (hi : i ≤ m - a) (hj : j ≤ b - m) (ham : a ≤ m) (hmb : m ≤ b) (hij : j < i) (s : SwapR E E' (m - i) m j) : RotI D E' a m b (i - j) j := by
  refine ⟨s.len.trans h.len, fun k hk => ?_, fun k h1 h2 => ?_, fun k h1 h2 => ?_, fun t ht => ?_, fun t ht => ?_⟩
  · rw [s.oth k (by omega) (by omega)]
    exact h.out k hk
  · by_cases hk : k < m - i
    · rw [s.oth k (by omega) (by omega)]
      exact h.left k h1 hk
    · have := s.fst (k - (m - i)) (by omega)
      rw [show m - i + (k - (m - i)) = k by omega] at this
      rw [this, ← h.up _ (by omega)]
      congr 1
      omega
  · rw [s.oth k (by omega) (by omega)]
    exact h.right k h1 h2
  · rw [s.snd t ht, ← h.down t (by omega)]
    congr 1
    omega
  · rw [s.oth (m - (i - j) + t) (by omega) (by omega)]
    have := h.down (j + t) (by omega)
    rw [show m - i + (j + t) = m - (i - j) + t by omega] at this
    rw [← this]
    congr 1
    omega

theorem RotI.less {D E E' : List α} {a m b i j : Nat} (h : RotI D E a m b i j) (hi : i ≤ m - a) (hj : j ≤ b - m) (ham : a ≤ m) (hmb : m ≤ b) (hij : i < j) (s : SwapR E E' (m - i) (m + j - i) i) : RotI D E' a m b i (j - i) := by
  refine ⟨s.len.trans h.len, fun k hk => ?_, fun k h1 h2 => ?_, fun k h1 h2 => ?_, fun t ht => ?_, fun t ht => ?_⟩
  · rw [s.oth k (by omega) (by omega)]
    exact h.out k hk
  · rw [s.oth k (by omega) (by omega)]
    exact h.left k h1 h2
  · by_cases hk : m + j ≤ k
    · rw [s.oth k (by omega) (by omega)]
      exact h.right k hk h2
    · have := s.snd (k - (m + j - i)) (by omega)
      rw [show m + j - i + (k - (m + j - i)) = k by omega] at this
      rw [this, ← h.down _ (by omega)]
      congr 1
      omega
  · rw [s.oth (m + t) (by omega) (by omega)]
    exact h.up t (by omega)
  · rw [s.fst t ht, show m + j - i + t = m + (j - i + t) by omega, ← h.up _ (by omega)]
    congr 1
    omega

theorem RotI.last {D E E' : List α} {a m b i : Nat} (h : RotI D E a m b i i) (hi : i ≤ m - a) (hj : i ≤ b - m) (ham : a ≤ m) (hmb : m ≤ b) (s : SwapR E E' (m - i) m i) : RotR D E' a m b := by
  have all : ∀ k, a ≤ k → k < b → E'[k]? = tgt D a m b k := fun k h1 h2 => by
    by_cases c1 : k < m - i
    · rw [s.oth k (by omega) (by omega)]
      exact h.left k h1 c1
    · by_cases c2 : k < m
      · have := s.fst (k - (m - i)) (by omega)
        rw [show m - i + (k - (m - i)) = k by omega] at this
        rw [this, ← h.up _ (by omega)]
        congr 1
        omega
      · by_cases c3 : k < m + i
        · have := s.snd (k - m) (by omega)
          rw [show m + (k - m) = k by omega] at this
          rw [this, ← h.down _ (by omega)]
          congr 1
          omega
        · rw [s.oth k (by omega) (by omega)]
          exact h.right k (by omega) h2
  refine ⟨s.len.trans h.len, fun k hk => ?_, fun k hk => ?_, fun t ht => ?_, fun t ht => ?_⟩
  · rw [s.oth k (by omega) (by omega)]
    exact h.out k (.inl hk)
  · rw [s.oth k (by omega) (by omega)]
    exact h.out k (.inr hk)
  · rw [all _ (by omega) (by omega), tgt, if_pos (by omega)]
    congr 1
    omega
  · rw [all _ (by omega) (by omega), tgt, if_neg (by omega)]
    congr 1
    omega

end

set_option linter.unusedVariables false

section
variable {α : Type} (key : α → Int)

/-- All from a to i rises but the one at j, which is below all behind it. -/
def InsI (D : List α) (a i j : Nat) : Prop :=
  (∀ (p q : Nat) (x y : α), a ≤ p → p < q → q ≤ i → p ≠ j → q ≠ j → D[p]? = some x → D[q]? = some y → key x ≤ key y) ∧
  (∀ (q : Nat) (x y : α), j < q → q ≤ i → D[j]? = some x → D[q]? = some y → key x < key y)

variable {key}

theorem InsI.start {D : List α} {a i : Nat} (h : Ris key D a i) : InsI key D a i i :=
  ⟨fun p q x y h1 h2 h3 h4 h5 hx hy => h p q x y h1 h2 (by omega) hx hy, fun q x y h1 h2 _ _ => by omega⟩

theorem InsI.step {D : List α} {a i j : Nat} {x y : α} (h : InsI key D a i j) (hj : a < j) (hji : j ≤ i) (hx : D[j - 1]? = some x) (hy : D[j]? = some y) (hlt : key y < key x) : InsI key (swp D (j - 1) j) a i (j - 1) := by
  have g := swp_get hx hy
  refine ⟨fun p q u v h1 h2 h3 h4 h5 hu hv => ?_, fun q u v h1 h2 hu hv => ?_⟩
  · rw [g] at hu hv
    by_cases c1 : p = j
    · rw [if_pos c1] at hu
      rw [if_neg (by omega), if_neg (by omega)] at hv
      injection hu with hu
      subst hu
      exact h.1 (j - 1) q x v (by omega) (by omega) h3 (by omega) (by omega) hx hv
    · rw [if_neg c1, if_neg h4] at hu
      by_cases c2 : q = j
      · rw [if_pos c2] at hv
        injection hv with hv
        subst hv
        exact h.1 p (j - 1) u x h1 (by omega) (by omega) c1 (by omega) hu hx
      · rw [if_neg c2, if_neg h5] at hv
        exact h.1 p q u v h1 h2 h3 c1 c2 hu hv
  · rw [g] at hu hv
    rw [if_neg (by omega), if_pos rfl] at hu
    injection hu with hu
    subst hu
    by_cases c2 : q = j
    · rw [if_pos c2] at hv
      injection hv with hv
      subst hv
      exact hlt
    · rw [if_neg c2, if_neg (by omega)] at hv
      exact h.2 q y v (by omega) h2 hy hv

theorem InsI.done {D : List α} {a i j : Nat} (h : InsI key D a i j) (hja : a ≤ j) (hji : j ≤ i) (hi : i < D.length) (he : j = a ∨ ∀ x y, D[j - 1]? = some x → D[j]? = some y → key x ≤ key y) : Ris key D a (i + 1) := by
  intro p q x y h1 h2 h3 hx hy
  by_cases c1 : p = j
  · subst c1
    exact Int.le_of_lt (h.2 q x y h2 (by omega) hx hy)
  · by_cases c2 : q = j
    · subst c2
      rcases he with e | e
      · omega
      · obtain ⟨z, hz⟩ : ∃ z, D[q - 1]? = some z := ⟨_, List.getElem?_eq_getElem (by omega)⟩
        have h5 := e z y hz hy
        by_cases c3 : p = q - 1
        · subst c3
          rw [hx] at hz
          injection hz with hz
          rw [hz]
          exact h5
        · have := h.1 p (q - 1) x z h1 (by omega) (by omega) c1 (by omega) hx hz
          omega
    · exact h.1 p q x y h1 h2 (by omega) c1 c2 hx hy

end

set_option linter.unusedVariables false

section
variable {α : Type} (key : α → Int)

/-- All from a to b rises but the one at k; it isn't below those ahead of it, nor below those up to i, nor above those from i on. -/
structure UpI (E : List α) (a b i k : Nat) : Prop where
  all : ∀ (p q : Nat) (x y : α), a ≤ p → p < q → q < b → p ≠ k → q ≠ k → E[p]? = some x → E[q]? = some y → key x ≤ key y
  bef : ∀ (p : Nat) (x y : α), a ≤ p → p < k → E[p]? = some x → E[k]? = some y → key x ≤ key y
  aft : ∀ (q : Nat) (x y : α), i ≤ q → q < b → E[k]? = some x → E[q]? = some y → key x ≤ key y
  mid : ∀ (q : Nat) (x y : α), k < q → q < i → E[q]? = some x → E[k]? = some y → key x ≤ key y

/-- The same from the other side. -/
structure DnI (E : List α) (a b i k : Nat) : Prop where
  all : ∀ (p q : Nat) (x y : α), a ≤ p → p < q → q < b → p ≠ k → q ≠ k → E[p]? = some x → E[q]? = some y → key x ≤ key y
  bef : ∀ (p : Nat) (x y : α), a ≤ p → p < i → E[p]? = some x → E[k]? = some y → key x ≤ key y
  aft : ∀ (q : Nat) (x y : α), k < q → q < b → E[k]? = some x → E[q]? = some y → key x ≤ key y
  mid : ∀ (p : Nat) (x y : α), i ≤ p → p < k → E[k]? = some x → E[p]? = some y → key x ≤ key y

variable {key}

theorem UpI.step {E : List α} {a b i k : Nat} {x y : α} (h : UpI key E a b i k) (hk : k + 1 < i) (ha : a ≤ k) (hib : i ≤ b) (hx : E[k]? = some x) (hy : E[k + 1]? = some y) : UpI key (swp E k (k + 1)) a b i (k + 1) := by
  have g := swp_get hx hy
  have gk : (swp E k (k + 1))[k + 1]? = some x := by rw [g, if_pos rfl]
  have gk0 : (swp E k (k + 1))[k]? = some y := by rw [g, if_neg (by omega), if_pos rfl]
  have go : ∀ p, p ≠ k → p ≠ k + 1 → (swp E k (k + 1))[p]? = E[p]? := fun p h1 h2 => by rw [g, if_neg h2, if_neg h1]
  refine ⟨fun p q u v h1 h2 h3 h4 h5 hu hv => ?_, fun p u v h1 h2 hu hv => ?_, fun q u v h1 h2 hu hv => ?_, fun q u v h1 h2 hu hv => ?_⟩
  · by_cases c1 : p = k
    · subst c1
      rw [gk0] at hu
      injection hu with hu
      subst hu
      rw [go q (by omega) h5] at hv
      exact h.all (p + 1) q y v (by omega) (by omega) h3 (by omega) (by omega) hy hv
    · rw [go p c1 h4] at hu
      by_cases c2 : q = k
      · subst c2
        rw [gk0] at hv
        injection hv with hv
        subst hv
        exact h.all p (q + 1) u y h1 (by omega) (by omega) (by omega) (by omega) hu hy
      · rw [go q c2 h5] at hv
        exact h.all p q u v h1 h2 h3 c1 c2 hu hv
  · rw [gk] at hv
    injection hv with hv
    subst hv
    by_cases c1 : p = k
    · subst c1
      rw [gk0] at hu
      injection hu with hu
      subst hu
      exact h.mid (p + 1) y x (by omega) hk hy hx
    · rw [go p c1 (by omega)] at hu
      exact h.bef p u x h1 (by omega) hu hx
  · rw [gk] at hu
    injection hu with hu
    subst hu
    rw [go q (by omega) (by omega)] at hv
    exact h.aft q x v h1 h2 hx hv
  · rw [gk] at hv
    injection hv with hv
    subst hv
    rw [go q (by omega) (by omega)] at hu
    exact h.mid q u x (by omega) h2 hu hx

theorem UpI.done {E : List α} {a b i k : Nat} (h : UpI key E a b i k) (hk : i ≤ k + 1) : Ris key E a b := fun p q x y h1 h2 h3 hx hy => by
  by_cases c1 : p = k
  · subst c1
    exact h.aft q x y (by omega) h3 hx hy
  · by_cases c2 : q = k
    · subst c2
      exact h.bef p x y h1 h2 hx hy
    · exact h.all p q x y h1 h2 h3 c1 c2 hx hy

theorem DnI.step {E : List α} {a b i k : Nat} {x y : α} (h : DnI key E a b i (k + 1)) (hk : i < k + 1) (ha : a ≤ i) (hkb : k + 1 < b) (hx : E[k]? = some x) (hy : E[k + 1]? = some y) : DnI key (swp E k (k + 1)) a b i k := by
  have g := swp_get hx hy
  have gk : (swp E k (k + 1))[k + 1]? = some x := by rw [g, if_pos rfl]
  have gk0 : (swp E k (k + 1))[k]? = some y := by rw [g, if_neg (by omega), if_pos rfl]
  have go : ∀ p, p ≠ k → p ≠ k + 1 → (swp E k (k + 1))[p]? = E[p]? := fun p h1 h2 => by rw [g, if_neg h2, if_neg h1]
  refine ⟨fun p q u v h1 h2 h3 h4 h5 hu hv => ?_, fun p u v h1 h2 hu hv => ?_, fun q u v h1 h2 hu hv => ?_, fun q u v h1 h2 hu hv => ?_⟩
  · by_cases c1 : p = k + 1
    · subst c1
      rw [gk] at hu
      injection hu with hu
      subst hu
      rw [go q (by omega) (by omega)] at hv
      exact h.all k q x v (by omega) (by omega) h3 (by omega) (by omega) hx hv
    · rw [go p h4 c1] at hu
      by_cases c2 : q = k + 1
      · subst c2
        rw [gk] at hv
        injection hv with hv
        subst hv
        exact h.all p k u x h1 (by omega) (by omega) (by omega) (by omega) hu hx
      · rw [go q h5 c2] at hv
        exact h.all p q u v h1 h2 h3 c1 c2 hu hv
  · rw [gk0] at hv
    injection hv with hv
    subst hv
    rw [go p (by omega) (by omega)] at hu
    exact h.bef p u y h1 h2 hu hy
  · rw [gk0] at hu
    injection hu with hu
    subst hu
    by_cases c1 : q = k + 1
    · subst c1
      rw [gk] at hv
      injection hv with hv
      subst hv
      exact h.mid k y x (by omega) (by omega) hy hx
    · rw [go q (by omega) c1] at hv
      exact h.aft q y v (by omega) h2 hy hv
  · rw [gk0] at hu
    injection hu with hu
    subst hu
    rw [go q (by omega) (by omega)] at hv
    exact h.mid q y v h1 (by omega) hy hv

theorem DnI.done {E : List α} {a b i k : Nat} (h : DnI key E a b i k) (hk : k ≤ i) : Ris key E a b := fun p q x y h1 h2 h3 hx hy => by
  by_cases c1 : p = k
  · subst c1
    exact h.aft q x y h2 h3 hx hy
  · by_cases c2 : q = k
    · subst c2
      exact h.bef p x y h1 (by omega) hx hy
    · exact h.all p q x y h1 h2 h3 c1 c2 hx hy

end

set_option linter.unusedSimpArgs false

/-- All blocks but one are as they were. -/
structure Rg (g : Nat) (w w' : World) : Prop where
  os : w'.os = w.os
  tape : w'.tape = w.tape
  output : w'.output = w.output
  size : w.heap.size ≤ w'.heap.size
  block : ∀ j, j < w.heap.size → j ≠ g → w'.heap[j]? = w.heap[j]?

theorem Rg.refl (g : Nat) (w : World) : Rg g w w := ⟨rfl, rfl, rfl, Nat.le_refl _, fun _ _ _ => rfl⟩

theorem Rg.trans {g : Nat} {w w1 w2 : World} (h : Rg g w w1) (k : Rg g w1 w2) : Rg g w w2 :=
  ⟨k.os.trans h.os, k.tape.trans h.tape, k.output.trans h.output, Nat.le_trans h.size k.size, fun j hj hn => (k.block j (Nat.lt_of_lt_of_le hj h.size) hn).trans (h.block j hj hn)⟩

theorem Rg.of_below {g : Nat} {w w' : World} (k : Below w.heap.size w w') : Rg g w w' := ⟨k.os, k.tape, k.output, k.size, fun j hj _ => k.block j hj⟩

theorem blkF_lt {w : World} {b : Nat} {o : Obj} (h : w.heap[b]? = some o) : b < w.heap.size := (Array.getElem?_eq_some_iff.1 h).1

/-- The function that says which is ahead; the swap. -/
abbrev lessV (bl : Nat) : Value := .func (.func 29) #[] #[.pointer (some ⟨bl, 0, none⟩)]
abbrev swapV (s0 s1 : Value) : Value := .func (.func 64) #[] #[s0, s1]
abbrev dataV (bl : Nat) (s0 s1 : Value) : Value := .agg #[lessV bl, swapV s0 s1]
abbrev dataO (bl : Nat) (s0 s1 : Value) : Obj := .cells #[lessV bl, swapV s0 s1] 85

/-- What is asked of both, where the row holds D. -/
structure SrtOk {α : Type} (key : α → Int) (g bl : Nat) (s0 s1 : Value) (St : List α → World → Prop) : Prop where
  grow : ∀ D W W', St D W → Below W.heap.size W W' → St D W'
  lt : ∀ D W, St D W → g < W.heap.size
  less : ∀ D W (i j : Nat) x y, St D W → D[i]? = some x → D[j]? = some y → Calls Tryd.prog 29 #[.int .i64 i, .int .i64 j, .pointer (some ⟨bl, 0, none⟩)] W fun e w' => e = .returned (.bool (decide (key x < key y))) ∧ Below W.heap.size W w'
  swap : ∀ D W (i j : Nat) x y, St D W → D[i]? = some x → D[j]? = some y → ∃ W', (callFunc 64 #[.int .i64 i, .int .i64 j, s0, s1]).run Tryd.prog W = .ok (.value (.tuple #[])) W' ∧ St (swp D i j) W' ∧ Rg g W W'

/-- The box of both, while the row is being sorted. -/
theorem box_kept {g bl : Nat} {s0 s1 : Value} {w wr : World} (hg : g < w.heap.size) (k : Rg g (w.alloc (dataO bl s0 s1)) wr) : wr.heap[w.heap.size]? = some (dataO bl s0 s1) :=
  (k.block w.heap.size (by simp) (by omega)).trans (alloc_new w _)

theorem box_rg {g bl : Nat} {s0 s1 : Value} {w wr : World} (k : Rg g (w.alloc (dataO bl s0 s1)) wr) : Rg g w wr := (Rg.of_below ((Below.refl _ _).alloc (Nat.le_refl _) _)).trans k

section
variable {α : Type} {key : α → Int} {g bl : Nat} {s0 s1 : Value} {St : List α → World → Prop}

set_option maxHeartbeats 4000000 in
set_option maxRecDepth 100000 in
theorem swapRangeF (O : SrtOk key g bl s0 s1 St) (a b n : Nat) (D : List α) (w : World) (h : St D w) (hab : a + n ≤ b) (hb : b + n ≤ D.length) (hD : D.length ≤ 1000000) :
    Calls Tryd.prog 93 #[dataV bl s0 s1, .int .i64 a, .int .i64 b, .int .i64 n] w fun e w' => e = .returned (.tuple #[]) ∧ ∃ E, SwapR D E a b n ∧ St E w' ∧ Rg g w w' := by
  have HO := toHid O
  have hg := O.lt D w h
  have H := toHid (O.grow D w (w.alloc (dataO bl s0 s1)) h ((Below.refl _ _).alloc (Nat.le_refl _) _))
  clear h O
  go_enter Tryd.func93, Tryd.ntmps93
  go_wp2_with fail
  go_loopg [8] n (fun m x8 wr => ∃ (i : Nat) (E : List α), i ≤ n ∧ n - i ≤ m ∧ x8 = .int .i64 i ∧ SwapR D E a b i ∧ St E wr ∧ Rg g (w.alloc (dataO bl s0 s1)) wr)
  case atStart => exact ⟨0, D, Nat.zero_le _, by omega, rfl, SwapR.zero D a b, H.out, Rg.refl _ _⟩
  case round =>
    obtain ⟨i, E, hi, hm, rfl, hS, hR, hk⟩ := hrel
    have hEl : E.length = D.length := hS.len
    by_cases hlt : i < n
    · have hil : (i : Int) < (n : Int) := by omega
      obtain ⟨x, hx⟩ : ∃ x, E[a + i]? = some x := ⟨_, List.getElem?_eq_getElem (by omega)⟩
      obtain ⟨y, hy⟩ : ∃ y, E[b + i]? = some y := ⟨_, List.getElem?_eq_getElem (by omega)⟩
      obtain ⟨W', hrun, hst, hrg⟩ := HO.out.swap E wr (a + i) (b + i) x y hR hx hy
      have ea : ((a + i : Nat) : Int) = (a : Int) + (i : Int) := by omega
      have eb : ((b + i : Nat) : Int) = (b : Int) + (i : Int) := by omega
      rw [ea, eb] at hrun
      have hbx := box_kept hg hk
      have x1 := cell_of hbx 1
      simp at x1
      have hbl := blkF_lt hbx
      have HS := toHid (hS.step (by omega) (by omega))
      have HST := toHid hst
      have HK := toHid (hk.trans hrg)
      clear hS hR hk hx hy hEl hst hrg hbx ea eb
      go_wp2_with fail
      go_roundg (n - (i + 1))
      case measure => omega
      case rel => exact ⟨i + 1, _, by omega, by omega, by go_num, HS.out, HST.out, HK.out⟩
    · have hil : i = n := by omega
      subst hil
      have HS := toHid hS
      have HR := toHid hR
      have HK := toHid (box_rg hk)
      clear hS hR hk hEl
      go_wp2_with fail
      go_end0
      exact ⟨rfl, E, HS.out, HR.out, HK.out⟩

set_option maxHeartbeats 4000000 in
set_option maxRecDepth 100000 in
theorem rotateF (O : SrtOk key g bl s0 s1 St) (a m b : Nat) (D : List α) (w : World) (h : St D w) (ham : a < m) (hmb : m < b) (hb : b ≤ D.length) (hD : D.length ≤ 1000000) :
    Calls Tryd.prog 75 #[dataV bl s0 s1, .int .i64 a, .int .i64 m, .int .i64 b] w fun e w' => e = .returned (.tuple #[]) ∧ ∃ E, RotR D E a m b ∧ St E w' ∧ Rg g w w' := by
  have HO := toHid O
  have hg := O.lt D w h
  have H := toHid (O.grow D w (w.alloc (dataO bl s0 s1)) h ((Below.refl _ _).alloc (Nat.le_refl _) _))
  have ei : (m : Int) - (a : Int) = ((m - a : Nat) : Int) := by omega
  have ej : (b : Int) - (m : Int) = ((b - m : Nat) : Int) := by omega
  have HEI := toHid ei
  have HEJ := toHid ej
  clear h ei ej O
  go_enter Tryd.func75, Tryd.ntmps75
  go_wp2_with fail
  go_loopg [8, 9] (b - a) (fun q x8 x9 wr => ∃ (i j : Nat) (E : List α), 0 < i ∧ 0 < j ∧ i ≤ m - a ∧ j ≤ b - m ∧ i + j ≤ q ∧ x8 = .int .i64 i ∧ x9 = .int .i64 j ∧ RotI D E a m b i j ∧ St E wr ∧ Rg g (w.alloc (dataO bl s0 s1)) wr)
  case atStart => exact ⟨m - a, b - m, D, by omega, by omega, Nat.le_refl _, Nat.le_refl _, by omega, by rw [← HEI.out], by rw [← HEJ.out], RotI.start D a m b (by omega) (by omega), H.out, Rg.refl _ _⟩
  case round =>
    obtain ⟨i, j, E, hi0, hj0, hi, hj, hq, rfl, rfl, hI, hR, hk⟩ := hrel
    have hEl : E.length = D.length := hI.len
    have e1 : (m : Int) - (i : Int) = ((m - i : Nat) : Int) := by omega
    have HS : Hid (∀ (n p q' : Nat), p + n ≤ q' → q' + n ≤ E.length → Calls Tryd.prog 93 #[dataV bl s0 s1, .int .i64 p, .int .i64 q', .int .i64 n] wr fun e w' => e = .returned (.tuple #[]) ∧ ∃ E', SwapR E E' p q' n ∧ St E' w' ∧ Rg g wr w') := fun n p q' c1 c2 => swapRangeF HO.out p q' n E wr hR c1 c2 (by omega)
    have hbx := box_kept hg hk
    have x0 := cell_of hbx 0
    have x1 := cell_of hbx 1
    simp at x0 x1
    have hbl := blkF_lt hbx
    have HI := toHid hI
    have HK := toHid hk
    have HE1 := toHid e1
    clear hI hR hk e1 hbx
    by_cases hij : i = j
    · subst hij
      have hne : ((i : Int) != (i : Int)) = false := by simp
      go_wp2_with fail
      rw [HE1.out]
      refine (HS.out i (m - i) m (by omega) (by omega)).mono ?_
      rintro e w1 ⟨rfl, E', hE, hR1, k1⟩
      have HX := toHid (HI.out.last hi hj (by omega) (by omega) hE)
      have HR1 := toHid hR1
      have HK1 := toHid (box_rg (HK.out.trans k1))
      clear hE hR1 k1 x0 x1
      go_wp2_with fail
      go_end0
      exact ⟨rfl, E', HX.out, HR1.out, HK1.out⟩
    · have hne : ((i : Int) != (j : Int)) = true := by simp; omega
      by_cases hlt : j < i
      · have hltI : (j : Int) < (i : Int) := by omega
        have e2 : (i : Int) - (j : Int) = ((i - j : Nat) : Int) := by omega
        have HE2 := toHid e2
        clear e2
        go_wp2_with fail
        rw [HE1.out]
        refine (HS.out j (m - i) m (by omega) (by omega)).mono ?_
        rintro e w1 ⟨rfl, E', hE, hR1, k1⟩
        have HX := toHid (HI.out.more hi hj (by omega) (by omega) hlt hE)
        have HR1 := toHid hR1
        have HK1 := toHid (HK.out.trans k1)
        clear hE hR1 k1 x0 x1
        go_wp2_with fail
        go_roundg (i - j + j)
        case measure => omega
        case rel => exact ⟨i - j, j, E', by omega, hj0, by omega, hj, Nat.le_refl _, by rw [← HE2.out], rfl, HX.out, HR1.out, HK1.out⟩
      · have hltI : ¬ (j : Int) < (i : Int) := by omega
        have e2 : (j : Int) - (i : Int) = ((j - i : Nat) : Int) := by omega
        have e3 : (m : Int) + (j : Int) - (i : Int) = ((m + j - i : Nat) : Int) := by omega
        have HE2 := toHid e2
        have HE3 := toHid e3
        clear e2 e3
        go_wp2_with fail
        rw [HE1.out, HE3.out]
        refine (HS.out i (m - i) (m + j - i) (by omega) (by omega)).mono ?_
        rintro e w1 ⟨rfl, E', hE, hR1, k1⟩
        have HX := toHid (HI.out.less hi hj (by omega) (by omega) (by omega) hE)
        have HR1 := toHid hR1
        have HK1 := toHid (HK.out.trans k1)
        clear hE hR1 k1 x0 x1
        go_wp2_with fail
        go_roundg (i + (j - i))
        case measure => omega
        case rel => exact ⟨i, j - i, E', hi0, by omega, hi, by omega, Nat.le_refl _, rfl, by rw [← HE2.out], HX.out, HR1.out, HK1.out⟩
end

set_option linter.unusedSimpArgs false

theorem swpF_comm {α : Type} {D : List α} {i j : Nat} {x y : α} (hx : D[i]? = some x) (hy : D[j]? = some y) (hij : i ≠ j) : swp D j i = swp D i j := by
  apply List.ext_getElem?
  intro k
  rw [swp_get hx hy, swp_get hy hx]
  by_cases h1 : k = i
  · subst h1; rw [if_pos rfl, if_neg hij, if_pos rfl]
  · rw [if_neg h1, if_neg h1]

section
variable {α : Type} {key : α → Int} {g bl : Nat} {s0 s1 : Value} {St : List α → World → Prop}

set_option maxHeartbeats 8000000 in
set_option maxRecDepth 100000 in
theorem insertionF (O : SrtOk key g bl s0 s1 St) (a b : Nat) (D : List α) (w : World) (h : St D w) (hab : a ≤ b) (hb : b ≤ D.length) (hD : D.length ≤ 1000000) :
    Calls Tryd.prog 65 #[dataV bl s0 s1, .int .i64 a, .int .i64 b] w fun e w' => e = .returned (.tuple #[]) ∧ ∃ E, MixS a b D E ∧ Ris key E a b ∧ St E w' ∧ Rg g w w' := by
  have HO := toHid O
  have hg := O.lt D w h
  have H := toHid (O.grow D w (w.alloc (dataO bl s0 s1)) h ((Below.refl _ _).alloc (Nat.le_refl _) _))
  clear h O
  go_enter Tryd.func65, Tryd.ntmps65
  go_wp2_with fail
  go_loopg [6, 7] (b - a) (fun q x6 x7 wr => ∃ (i : Nat) (E : List α), a + 1 ≤ i ∧ (i ≤ b ∨ i = a + 1) ∧ b - i ≤ q ∧ x6 = .int .i64 i ∧ MixS a b D E ∧ Ris key E a i ∧ St E wr ∧ Rg g (w.alloc (dataO bl s0 s1)) wr)
  case atStart => exact ⟨a + 1, D, Nat.le_refl _, .inr rfl, by omega, by go_num, MixS.refl _ _ _, Ris.one (Nat.le_refl _), H.out, Rg.refl _ _⟩
  case round =>
    obtain ⟨i, E, hai, hib, hq, rfl, hM, hS, hR, hk⟩ := hrel
    by_cases hlt : i < b
    · have hltI : (i : Int) < (b : Int) := by omega
      have HM := toHid hM
      have HS := toHid hS
      have HR := toHid hR
      have HK := toHid hk
      clear hM hS hR hk
      obtain ⟨w9, hw9⟩ : ∃ z, z = wr := ⟨_, rfl⟩
      subst hw9
      go_wp2_with fail
      go_loopg [7] (i - a) (fun q x7 wr => ∃ (j : Nat) (E : List α), a ≤ j ∧ j ≤ i ∧ j - a ≤ q ∧ x7 = .int .i64 j ∧ MixS a b D E ∧ InsI key E a i j ∧ St E wr ∧ Rg g (w.alloc (dataO bl s0 s1)) wr)
      case atStart => exact ⟨i, E, by omega, Nat.le_refl _, Nat.le_refl _, rfl, HM.out, InsI.start HS.out, HR.out, HK.out⟩
      case round =>
        clear HM HS HR HK
        obtain ⟨j, E, haj, hji, hq2, rfl, hM, hI, hR, hk⟩ := hrel
        have hEl : E.length = D.length := hM.1
        have hbx := box_kept hg hk
        have x0 := cell_of hbx 0
        have x1 := cell_of hbx 1
        simp at x0 x1
        have hbl := blkF_lt hbx
        by_cases hja : a < j
        · have hjaI : (a : Int) < (j : Int) := by omega
          obtain ⟨k, hkj⟩ : ∃ k, k = j - 1 := ⟨_, rfl⟩
          obtain ⟨x, hx⟩ : ∃ x, E[k]? = some x := ⟨_, List.getElem?_eq_getElem (by omega)⟩
          obtain ⟨y, hy⟩ : ∃ y, E[j]? = some y := ⟨_, List.getElem?_eq_getElem (by omega)⟩
          have ek : ((k : Nat) : Int) = (j : Int) - 1 := by omega
          have hl := HO.out.less E wr j k y x hR hy hx
          rw [ek] at hl
          have HL := toHid hl
          have HM := toHid hM
          have HI := toHid hI
          have HR := toHid hR
          have HK := toHid hk
          have HX := toHid hx
          have HY := toHid hy
          have HKJ := toHid hkj
          have HEK := toHid ek
          have HBX := toHid hbx
          clear hM hI hR hk hx hy hl hkj ek hbx hEl
          go_wp2_with fail
          refine HL.out.mono ?_
          rintro e u1 ⟨rfl, k1⟩
          have HR1 := toHid (HO.out.grow E wr u1 HR.out k1)
          have HK1 := toHid (HK.out.trans (Rg.of_below k1))
          have hbx1 := (k1.block _ hbl).trans HBX.out
          clear x0 x1 hbl k1
          have x1 := cell_of hbx1 1
          simp at x1
          have hbl := blkF_lt hbx1
          clear hbx1
          by_cases hlt2 : key y < key x
          · rw [decide_eq_true hlt2]
            obtain ⟨W', hrun, hst, hrg⟩ := HO.out.swap E u1 j k y x HR1.out HY.out HX.out
            rw [HEK.out] at hrun
            have hkj := HKJ.out
            have hx0 : E[j - 1]? = some x := by rw [← hkj]; exact HX.out
            have HI2 := toHid (HI.out.step hja hji hx0 HY.out hlt2)
            have HM2 := toHid (HM.out.trans (swp_mix (a := a) (b := b) hx0 HY.out (by omega) (by omega) (by omega)))
            have HST : Hid (St (swp E (j - 1) j) W') := by
              rw [← hkj, ← swpF_comm HX.out HY.out (by omega)]
              exact hst
            have HK2 := toHid (HK1.out.trans hrg)
            clear hst hrg hx0 hkj hlt2
            go_wp2_with fail
            go_roundg (j - 1 - a)
            case measure => omega
            case rel => exact ⟨j - 1, _, by omega, by omega, Nat.le_refl _, by have := HEK.out; go_num, HM2.out, HI2.out, HST.out, HK2.out⟩
          · rw [decide_eq_false hlt2]
            have HD := toHid (HI.out.done (by omega) hji (by have := HM.out.1; omega) (.inr fun x' y' hx' hy' => by
              have hkj := HKJ.out
              rw [← hkj, HX.out] at hx'
              rw [HY.out] at hy'
              injection hx' with hx'
              injection hy' with hy'
              subst hx' hy'
              omega))
            clear hlt2
            go_wp2_with fail
            go_roundg (b - (i + 1))
            case measure => omega
            case rel => exact ⟨i + 1, E, by omega, .inl (by omega), Nat.le_refl _, by go_num, HM.out, HD.out, HR1.out, HK1.out⟩
        · have hjaI : ¬ (a : Int) < (j : Int) := by omega
          have HD := toHid (hI.done (by omega) hji (by omega) (.inl (by omega)))
          have HM := toHid hM
          have HR := toHid hR
          have HK := toHid hk
          clear hM hI hR hk hEl hbx
          go_wp2_with fail
          go_roundg (b - (i + 1))
          case measure => omega
          case rel => exact ⟨i + 1, E, by omega, .inl (by omega), Nat.le_refl _, by go_num, HM.out, HD.out, HR.out, HK.out⟩
    · have HS : Hid (Ris key E a b) := by
        rcases hib with h | h
        · have : i = b := by omega
          subst this
          exact hS
        · exact Ris.one (by omega)
      have hltI : ¬ (i : Int) < (b : Int) := by omega
      have HM := toHid hM
      have HR := toHid hR
      have HK := toHid (box_rg hk)
      clear hM hS hR hk
      go_wp2_with fail
      go_end0
      exact ⟨rfl, E, HM.out, HS.out, HR.out, HK.out⟩
end

set_option linter.unusedSimpArgs false

section
variable {α : Type} {key : α → Int} {g bl : Nat} {s0 s1 : Value} {St : List α → World → Prop}

set_option maxHeartbeats 8000000 in
set_option maxRecDepth 100000 in
theorem sym1F (O : SrtOk key g bl s0 s1 St) (a m b : Nat) (D : List α) (w : World) (h : St D w) (hma : m = a + 1) (hmb : m < b) (hb : b ≤ D.length) (hD : D.length ≤ 1000000) (hS2 : Ris key D m b) :
    Calls Tryd.prog 66 #[dataV bl s0 s1, .int .i64 a, .int .i64 m, .int .i64 b] w fun e w' => e = .returned (.tuple #[]) ∧ ∃ E, MixS a b D E ∧ Ris key E a b ∧ St E w' ∧ Rg g w w' := by
  have HO := toHid O
  have hg := O.lt D w h
  have H := toHid (O.grow D w (w.alloc (dataO bl s0 s1)) h ((Below.refl _ _).alloc (Nat.le_refl _) _))
  have e1 : (m : Int) - (a : Int) = 1 := by omega
  have HMA := toHid hma
  have HS2 := toHid hS2
  obtain ⟨x, hx⟩ : ∃ x, D[a]? = some x := ⟨_, List.getElem?_eq_getElem (by omega)⟩
  have Hx := toHid hx
  clear h hma hS2 hx O
  go_enter Tryd.func66, Tryd.ntmps66
  go_wp2_with fail
  go_loopg [8, 9, 10] (b - m) (fun q x8 x9 x10 wr => ∃ (i j : Nat), m ≤ i ∧ i ≤ j ∧ j ≤ b ∧ j - i ≤ q ∧ x8 = .int .i64 i ∧ x9 = .int .i64 j ∧ (∀ k y, m ≤ k → k < i → D[k]? = some y → key y ≤ key x) ∧ (∀ k y, j ≤ k → k < b → D[k]? = some y → key x ≤ key y) ∧ St D wr ∧ Rg g (w.alloc (dataO bl s0 s1)) wr)
  case atStart => exact ⟨m, b, Nat.le_refl _, by omega, Nat.le_refl _, Nat.le_refl _, rfl, rfl, fun k y h1 h2 => by omega, fun k y h1 h2 => by omega, H.out, Rg.refl _ _⟩
  case round =>
    obtain ⟨i, j, hmi, hij, hjb, hq, rfl, rfl, hlo, hhi, hR, hk⟩ := hrel
    have HLO := toHid hlo
    have HHI := toHid hhi
    have HR := toHid hR
    have HK := toHid hk
    have hbx := box_kept hg hk
    have x0 := cell_of hbx 0
    simp at x0
    have hbl := blkF_lt hbx
    clear hlo hhi hR hk hbx
    by_cases hlt : i < j
    · obtain ⟨c, hcm⟩ : ∃ c, c = (i + j) / 2 := ⟨_, rfl⟩
      have hmid : ((i : Int) + (j : Int)) / 2 = (c : Int) := by omega
      have hic : i ≤ c := by omega
      have hcj : c < j := by omega
      clear hcm
      have hltI : (i : Int) < (j : Int) := by omega
      obtain ⟨y, hy⟩ : ∃ y, D[c]? = some y := ⟨_, List.getElem?_eq_getElem (by omega)⟩
      have Hy := toHid hy
      have HL := toHid (HO.out.less D wr c a y x HR.out hy Hx.out)
      clear hy
      go_wp2_with fail
      refine HL.out.mono ?_
      rintro e u1 ⟨rfl, k1⟩
      have HR2 := toHid (HO.out.grow D wr u1 HR.out k1)
      have HK2 := toHid (HK.out.trans (Rg.of_below k1))
      clear k1 x0 hbl
      by_cases hyx : key y < key x
      · rw [decide_eq_true hyx]
        have HYX := toHid hyx
        clear hyx
        go_wp2_with fail
        go_roundg (j - (c + 1))
        case measure => omega
        case rel =>
          refine ⟨c + 1, j, by omega, by omega, hjb, Nat.le_refl _, by go_num, rfl, fun k z h1 h2 hz => ?_, HHI.out, HR2.out, HK2.out⟩
          have h3 := HYX.out
          by_cases hkc : k = c
          · subst hkc
            rw [Hy.out] at hz
            injection hz with hz
            subst hz
            omega
          · have := HS2.out k c z y h1 (by omega) (by omega) hz Hy.out
            omega
      · rw [decide_eq_false hyx]
        have HYX := toHid hyx
        clear hyx
        go_wp2_with fail
        go_roundg (c - i)
        case measure => omega
        case rel =>
          refine ⟨i, c, hmi, hic, by omega, Nat.le_refl _, rfl, rfl, HLO.out, fun k z h1 h2 hz => ?_, HR2.out, HK2.out⟩
          have h3 := HYX.out
          by_cases hkc : k = c
          · subst hkc
            rw [Hy.out] at hz
            injection hz with hz
            subst hz
            omega
          · have := HS2.out c k y z (by omega) (by omega) h2 Hy.out hz
            omega
    · have hij' : j = i := by omega
      subst hij'
      have hltI : ¬ (j : Int) < (j : Int) := by omega
      have hU : UpI key D a b j a := by
        have hma := HMA.out
        refine ⟨fun p q u v h1 h2 h3 h4 h5 hu hv => HS2.out p q u v (by omega) h2 h3 hu hv, fun p u v h1 h2 => by omega, fun q u v h1 h2 hu hv => ?_, fun q u v h1 h2 hu hv => ?_⟩
        · rw [Hx.out] at hu
          injection hu with hu
          subst hu
          exact HHI.out q v h1 h2 hv
        · rw [Hx.out] at hv
          injection hv with hv
          subst hv
          exact HLO.out q u (by omega) h2 hu
      have HU := toHid hU
      have haj : a + 1 ≤ j := by have := HMA.out; omega
      have hj1 : wrap64 ((j : Int) - 1) = (((j - 1 : Nat)) : Int) := (IntWalk.wrap64_in _ ⟨by omega, by omega⟩).trans (by omega)
      clear hU hltI x0 hbl
      go_wp2_with fail
      obtain ⟨wo, hwo⟩ : ∃ z, z = wr := ⟨_, rfl⟩
      subst hwo
      go_loopg [11] (j - a) (fun q x11 wr => ∃ (k : Nat) (E : List α), a ≤ k ∧ k + 1 ≤ j ∧ j - k ≤ q ∧ x11 = .int .i64 k ∧ MixS a b D E ∧ UpI key E a b j k ∧ St E wr ∧ Rg g (w.alloc (dataO bl s0 s1)) wr)
      case atStart => exact ⟨a, D, Nat.le_refl _, haj, Nat.le_refl _, rfl, MixS.refl _ _ _, HU.out, HR.out, HK.out⟩
      case round =>
        clear HR HK HU
        obtain ⟨k, E, hak, hkj, hq2, rfl, hM, hI, hR, hk⟩ := hrel
        have hEl : E.length = D.length := hM.1
        by_cases hlt2 : k + 1 < j
        · have hl2 : (k : Int) < (j : Int) - 1 := by omega
          obtain ⟨u, hu⟩ : ∃ u, E[k]? = some u := ⟨_, List.getElem?_eq_getElem (by omega)⟩
          obtain ⟨v, hv⟩ : ∃ v, E[k + 1]? = some v := ⟨_, List.getElem?_eq_getElem (by omega)⟩
          obtain ⟨W', hrun, hst, hrg⟩ := HO.out.swap E wr k (k + 1) u v hR hu hv
          have ek : ((k + 1 : Nat) : Int) = (k : Int) + 1 := by omega
          rw [ek] at hrun
          have HI2 := toHid (hI.step hlt2 hak hjb hu hv)
          have HM2 := toHid (hM.trans (swp_mix (a := a) (b := b) hu hv (by omega) (by omega) (by omega)))
          have HST := toHid hst
          have HK := toHid (hk.trans hrg)
          have hbx := box_kept hg hk
          have x1 := cell_of hbx 1
          simp at x1
          have hbl := blkF_lt hbx
          clear hM hI hR hk hu hv hEl hst hrg hbx ek
          go_wp2_with fail
          go_roundg (j - (k + 1))
          case measure => omega
          case rel => exact ⟨k + 1, _, by omega, by omega, Nat.le_refl _, by go_num, HM2.out, HI2.out, HST.out, HK.out⟩
        · have hl2 : ¬ (k : Int) < (j : Int) - 1 := by omega
          have HD := toHid (hI.done (by omega))
          have HM := toHid hM
          have HR := toHid hR
          have HK := toHid (box_rg hk)
          clear hM hI hR hk hEl
          go_wp2_with fail
          first | go_end0 | (simp only [Exit.inBlock, Exit.then]; refine bodyPost_ret (results_none rfl _ _ _) rfl ?_) | refine bodyPost_ret (results_none rfl _ _ _) rfl ?_
          exact ⟨rfl, E, HM.out, HD.out, HR.out, HK.out⟩

set_option maxHeartbeats 8000000 in
set_option maxRecDepth 100000 in
theorem sym2F (O : SrtOk key g bl s0 s1 St) (a m b : Nat) (D : List α) (w : World) (h : St D w) (ham : a + 2 ≤ m) (hbm : b = m + 1) (hb : b ≤ D.length) (hD : D.length ≤ 1000000) (hS1 : Ris key D a m) :
    Calls Tryd.prog 66 #[dataV bl s0 s1, .int .i64 a, .int .i64 m, .int .i64 b] w fun e w' => e = .returned (.tuple #[]) ∧ ∃ E, MixS a b D E ∧ Ris key E a b ∧ St E w' ∧ Rg g w w' := by
  have HO := toHid O
  have hg := O.lt D w h
  have H := toHid (O.grow D w (w.alloc (dataO bl s0 s1)) h ((Below.refl _ _).alloc (Nat.le_refl _) _))
  have e1 : ((m : Int) - (a : Int) == 1) = false := beq_eq_false_iff_ne.2 (by omega)
  have e2 : (b : Int) - (m : Int) = 1 := by omega
  have HBM := toHid hbm
  have HS1 := toHid hS1
  obtain ⟨x, hx⟩ : ∃ x, D[m]? = some x := ⟨_, List.getElem?_eq_getElem (by omega)⟩
  have Hx := toHid hx
  have hbl2 : b ≤ 1000000 := by omega
  clear h hbm hS1 hx O
  go_enter Tryd.func66, Tryd.ntmps66
  go_wp2_with fail
  go_loopg [12, 13, 14] (m - a) (fun q x12 x13 x14 wr => ∃ (i j : Nat), a ≤ i ∧ i ≤ j ∧ j ≤ m ∧ j - i ≤ q ∧ x12 = .int .i64 i ∧ x13 = .int .i64 j ∧ (∀ k y, a ≤ k → k < i → D[k]? = some y → key y ≤ key x) ∧ (∀ k y, j ≤ k → k < m → D[k]? = some y → key x ≤ key y) ∧ St D wr ∧ Rg g (w.alloc (dataO bl s0 s1)) wr)
  case atStart => exact ⟨a, m, Nat.le_refl _, by omega, Nat.le_refl _, Nat.le_refl _, rfl, rfl, fun k y h1 h2 => by omega, fun k y h1 h2 => by omega, H.out, Rg.refl _ _⟩
  case round =>
    obtain ⟨i, j, hai, hij, hjm, hq, rfl, rfl, hlo, hhi, hR, hk⟩ := hrel
    have HLO := toHid hlo
    have HHI := toHid hhi
    have HR := toHid hR
    have HK := toHid hk
    have hbx := box_kept hg hk
    have x0 := cell_of hbx 0
    simp at x0
    have hbl := blkF_lt hbx
    clear hlo hhi hR hk hbx
    by_cases hlt : i < j
    · obtain ⟨c, hcm⟩ : ∃ c, c = (i + j) / 2 := ⟨_, rfl⟩
      have hmid : ((i : Int) + (j : Int)) / 2 = (c : Int) := by omega
      have hic : i ≤ c := by omega
      have hcj : c < j := by omega
      clear hcm
      have hltI : (i : Int) < (j : Int) := by omega
      obtain ⟨y, hy⟩ : ∃ y, D[c]? = some y := ⟨_, List.getElem?_eq_getElem (by omega)⟩
      have Hy := toHid hy
      have HL := toHid (HO.out.less D wr m c x y HR.out Hx.out hy)
      clear hy
      go_wp2_with fail
      refine HL.out.mono ?_
      rintro e u1 ⟨rfl, k1⟩
      have HR2 := toHid (HO.out.grow D wr u1 HR.out k1)
      have HK2 := toHid (HK.out.trans (Rg.of_below k1))
      clear k1 x0 hbl
      by_cases hyx : key x < key y
      · rw [decide_eq_true hyx]
        have HYX := toHid hyx
        clear hyx
        go_wp2_with fail
        go_roundg (c - i)
        case measure => omega
        case rel =>
          refine ⟨i, c, hai, hic, by omega, Nat.le_refl _, rfl, rfl, HLO.out, fun k z h1 h2 hz => ?_, HR2.out, HK2.out⟩
          have h3 := HYX.out
          by_cases hkc : k = c
          · subst hkc
            rw [Hy.out] at hz
            injection hz with hz
            subst hz
            omega
          · have := HS1.out c k y z (by omega) (by omega) h2 Hy.out hz
            omega
      · rw [decide_eq_false hyx]
        have HYX := toHid hyx
        clear hyx
        go_wp2_with fail
        go_roundg (j - (c + 1))
        case measure => omega
        case rel =>
          refine ⟨c + 1, j, by omega, by omega, hjm, Nat.le_refl _, by go_num, rfl, fun k z h1 h2 hz => ?_, HHI.out, HR2.out, HK2.out⟩
          have h3 := HYX.out
          by_cases hkc : k = c
          · subst hkc
            rw [Hy.out] at hz
            injection hz with hz
            subst hz
            omega
          · have := HS1.out k c z y h1 (by omega) (by omega) hz Hy.out
            omega
    · have hij' : j = i := by omega
      subst hij'
      have hltI : ¬ (j : Int) < (j : Int) := by omega
      have hU : DnI key D a b j m := by
        have hbm := HBM.out
        refine ⟨fun p q u v h1 h2 h3 h4 h5 hu hv => HS1.out p q u v h1 h2 (by omega) hu hv, fun p u v h1 h2 hu hv => ?_, fun q u v h1 h2 => by omega, fun q u v h1 h2 hu hv => ?_⟩
        · rw [Hx.out] at hv
          injection hv with hv
          subst hv
          exact HLO.out p u h1 h2 hu
        · rw [Hx.out] at hu
          injection hu with hu
          subst hu
          exact HHI.out q v h1 h2 hv
      have HU := toHid hU
      clear hU hltI x0 hbl
      go_wp2_with fail
      obtain ⟨wo, hwo⟩ : ∃ z, z = wr := ⟨_, rfl⟩
      subst hwo
      go_loopg [15] (m - j) (fun q x15 wr => ∃ (k : Nat) (E : List α), j ≤ k ∧ k ≤ m ∧ k - j ≤ q ∧ x15 = .int .i64 k ∧ MixS a b D E ∧ DnI key E a b j k ∧ St E wr ∧ Rg g (w.alloc (dataO bl s0 s1)) wr)
      case atStart => exact ⟨m, D, hjm, Nat.le_refl _, Nat.le_refl _, rfl, MixS.refl _ _ _, HU.out, HR.out, HK.out⟩
      case round =>
        clear HR HK HU
        obtain ⟨k, E, hjk, hkm, hq2, rfl, hM, hI, hR, hk⟩ := hrel
        have hEl : E.length = D.length := hM.1
        have hbm := HBM.out
        by_cases hlt2 : j < k
        · have hl2 : (j : Int) < (k : Int) := by omega
          obtain ⟨l, hlk⟩ : ∃ l, k = l + 1 := ⟨k - 1, by omega⟩
          obtain ⟨u, hu⟩ : ∃ u, E[k]? = some u := ⟨_, List.getElem?_eq_getElem (by omega)⟩
          obtain ⟨v, hv⟩ : ∃ v, E[l]? = some v := ⟨_, List.getElem?_eq_getElem (by omega)⟩
          obtain ⟨W', hrun, hst, hrg⟩ := HO.out.swap E wr k l u v hR hu hv
          have el : ((l : Nat) : Int) = (k : Int) - 1 := by omega
          rw [el] at hrun
          have hu' : E[l + 1]? = some u := by rw [← hlk]; exact hu
          rw [hlk] at hI
          have HI2 := toHid (hI.step (by omega) hai (by omega) hv hu')
          have HM2 := toHid (hM.trans (swp_mix (a := a) (b := b) hv hu' (by omega) (by omega) (by omega)))
          have HST : Hid (St (swp E l (l + 1)) W') := by
            rw [← swpF_comm hv hu' (by omega), ← hlk]
            exact hst
          have HK := toHid (hk.trans hrg)
          have hbx := box_kept hg hk
          have x1 := cell_of hbx 1
          simp at x1
          have hbl := blkF_lt hbx
          have HLK := toHid hlk
          have HEL := toHid el
          clear hM hI hR hk hu hu' hv hEl hlk hbm hst hrg hbx el
          go_wp2_with fail
          go_roundg (l - j)
          case measure => have := HLK.out; omega
          case rel => exact ⟨l, _, by have := HLK.out; omega, by have := HLK.out; omega, Nat.le_refl _, by have := HEL.out; go_num, HM2.out, HI2.out, HST.out, HK.out⟩
        · have hl2 : ¬ (j : Int) < (k : Int) := by omega
          have HD := toHid (hI.done (by omega))
          have HM := toHid hM
          have HR := toHid hR
          have HK := toHid (box_rg hk)
          clear hM hI hR hk hEl hbm
          go_wp2_with fail
          first | go_end0 | (simp only [Exit.inBlock, Exit.then]; refine bodyPost_ret (results_none rfl _ _ _) rfl ?_) | refine bodyPost_ret (results_none rfl _ _ _) rfl ?_
          exact ⟨rfl, E, HM.out, HD.out, HR.out, HK.out⟩
end
end Go.Proofs.YtmjeanpjiogkiaaDoor
