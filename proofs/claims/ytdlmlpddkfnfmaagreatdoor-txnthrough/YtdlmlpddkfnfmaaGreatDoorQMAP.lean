/-
  What is proved here: what the texts SMerge, SRot, SIns, SRowN, SRotN, SCmpN, TApp prove, in one text.
-/
import Derived.Test.YtdlmlpddkfnfmaaGreatDoorQMAO
import Derived.Deep.CutBlock
import Derived.BigRegion
import Derived.Test.YtdlmlpddkfnfmaaGreatDoorQMAC
import Derived.Deep.RegionHeld3
import Derived.Test.YtdlmlpddkfnfmaaGreatDoorQMAE
import Derived.Deep.AppendLies
import Derived.Laws.OwnMore
namespace Go.Proofs.YtdlmlpddkfnfmaaGreatDoor
open Go.RowKit
set_option linter.unusedVariables false

set_option linter.unusedVariables false

section
variable {α : Type}

/-- D' is D, the parts from a to m and from m to b in each other's places. -/
structure RotR (D D' : List α) (a m b : Nat) : Prop where
  len : D'.length = D.length
  lo : ∀ k, k < a → D'[k]? = D[k]?
  hi : ∀ k, b ≤ k → D'[k]? = D[k]?
  up : ∀ t, t < b - m → D'[a + t]? = D[m + t]?
  down : ∀ t, t < m - a → D'[a + (b - m) + t]? = D[a + t]?

theorem seg_len (D : List α) (a b : Nat) (hb : b ≤ D.length) : (segS D a b).length = b - a := by
  rw [segS, List.length_take, List.length_drop]
  omega

theorem seg_at (D : List α) (a b i : Nat) (h : i < b - a) : (segS D a b)[i]? = D[a + i]? := by
  rw [segS, List.getElem?_take, if_pos h, List.getElem?_drop]

theorem RotR.eq {D D' : List α} {a m b : Nat} (h : RotR D D' a m b) (ham : a ≤ m) (hmb : m ≤ b) (hb : b ≤ D.length) : D' = D.take a ++ (segS D m b ++ (segS D a m ++ D.drop b)) := by
  have l1 : (D.take a).length = a := by rw [List.length_take]; omega
  have l2 := seg_len D m b hb
  have l3 := seg_len D a m (by omega)
  apply List.ext_getElem?
  intro k
  by_cases h1 : k < a
  · rw [h.lo k h1, List.getElem?_append_left (by omega), List.getElem?_take, if_pos h1]
  · rw [List.getElem?_append_right (by omega), l1]
    by_cases h2 : k - a < b - m
    · rw [List.getElem?_append_left (by omega), seg_at D m b _ h2, ← h.up _ h2]
      congr 1
      omega
    · rw [List.getElem?_append_right (by omega), l2]
      by_cases h3 : k - a - (b - m) < m - a
      · rw [List.getElem?_append_left (by omega), seg_at D a m _ h3, ← h.down _ h3]
        congr 1
        omega
      · rw [List.getElem?_append_right (by omega), l3, List.getElem?_drop, h.hi k (by omega)]
        congr 1
        omega

theorem RotR.mix {D D' : List α} {a m b : Nat} (h : RotR D D' a m b) (ham : a ≤ m) (hmb : m ≤ b) (hb : b ≤ D.length) : MixS a b D D' := by
  refine ⟨h.len, ?_, ?_, ?_⟩
  · apply List.ext_getElem?
    intro k
    rw [List.getElem?_take, List.getElem?_take]
    split
    · rename_i hk; exact h.lo k hk
    · rfl
  · apply List.ext_getElem?
    intro k
    rw [List.getElem?_drop, List.getElem?_drop]
    exact h.hi _ (by omega)
  · have e := h.eq ham hmb hb
    rw [e]
    have e2 : D = D.take a ++ (segS D a m ++ (segS D m b ++ D.drop b)) := by
      have h1 := split3 D a b (by omega)
      have h2 : segS D a b = segS D a m ++ segS D m b := by
        apply List.ext_getElem?
        intro k
        have l1 := seg_len D a m (by omega)
        have l2 := seg_len D a b hb
        have l3 := seg_len D m b hb
        by_cases hk : k < m - a
        · rw [List.getElem?_append_left (by omega), seg_at D a m k hk, seg_at D a b k (by omega)]
        · rw [List.getElem?_append_right (by omega), l1]
          by_cases hk2 : k < b - a
          · rw [seg_at D a b k hk2, seg_at D m b _ (by omega)]
            congr 1
            omega
          · rw [List.getElem?_eq_none (by omega), List.getElem?_eq_none (by omega)]
      rw [h2, List.append_assoc] at h1
      exact h1
    conv => rhs; rw [e2]
    refine List.Perm.append_left _ ?_
    rw [← List.append_assoc, ← List.append_assoc]
    exact List.Perm.append_right _ List.perm_append_comm

variable {key : α → Int}

/-- What the search gives, and what stands behind the change of places. -/
theorem merge_mid {D D1 : List α} {a m b mid n s e : Nat} (ham : a < m) (hmb : m < b) (hb : b ≤ D.length) (h1 : Ris key D a m) (h2 : Ris key D m b) (hmid : mid = (a + b) / 2) (hn : n = mid + m) (he : e = n - s)
    (hlo : (if mid < m then n - b else a) ≤ s) (hhi : s ≤ (if mid < m then mid else m))
    (hbel : ∀ c x y, (if mid < m then n - b else a) ≤ c → c < s → D[c]? = some x → D[n - 1 - c]? = some y → key x ≤ key y)
    (habv : ∀ c x y, s ≤ c → c < (if mid < m then mid else m) → D[c]? = some x → D[n - 1 - c]? = some y → key y < key x)
    (hr : RotR D D1 s m e) : a ≤ s ∧ s ≤ m ∧ m ≤ e ∧ e ≤ b ∧ s ≤ mid ∧ mid ≤ e ∧ Ris key D1 a s ∧ Ris key D1 s mid ∧ Ris key D1 mid e ∧ Ris key D1 e b ∧ Und key D1 a mid b := by
  have hm2 : 2 * mid ≤ a + b ∧ a + b ≤ 2 * mid + 1 := by omega
  have hb1 : a ≤ s ∧ s ≤ m ∧ m ≤ e ∧ e ≤ b ∧ s ≤ mid ∧ mid ≤ e := by
    split at hlo <;> split at hhi <;> omega
  obtain ⟨g1, g2, g3, g4, g5, g6⟩ := hb1
  have hme : s + (e - m) = mid := by omega
  have inx : ∀ k, k < b → ∃ x, D[k]? = some x := fun k hk => ⟨_, List.getElem?_eq_getElem (by omega)⟩
  -- what stands where
  have w1 : ∀ k, k < s → D1[k]? = D[k]? := hr.lo
  have w2 : ∀ k, s ≤ k → k < mid → D1[k]? = D[m + (k - s)]? := fun k hk hk2 => by
    have := hr.up (k - s) (by omega)
    rwa [show s + (k - s) = k by omega] at this
  have w3 : ∀ k, mid ≤ k → k < e → D1[k]? = D[s + (k - mid)]? := fun k hk hk2 => by
    have := hr.down (k - mid) (by omega)
    rwa [show s + (e - m) + (k - mid) = k by omega] at this
  have w4 : ∀ k, e ≤ k → D1[k]? = D[k]? := hr.hi
  have lele : ∀ (i j : Nat) (x y : α), a ≤ i → i ≤ j → j < m → D[i]? = some x → D[j]? = some y → key x ≤ key y := fun i j x y c1 c2 c3 hx hy => by
    rcases Nat.lt_or_ge i j with h | h
    · exact h1 i j x y c1 h c3 hx hy
    · have : i = j := by omega
      subst this
      rw [hx] at hy
      injection hy with hy
      rw [hy]
      exact Int.le_refl _
  have rele : ∀ (i j : Nat) (x y : α), m ≤ i → i ≤ j → j < b → D[i]? = some x → D[j]? = some y → key x ≤ key y := fun i j x y c1 c2 c3 hx hy => by
    rcases Nat.lt_or_ge i j with h | h
    · exact h2 i j x y c1 h c3 hx hy
    · have : i = j := by omega
      subst this
      rw [hx] at hy
      injection hy with hy
      rw [hy]
      exact Int.le_refl _
  refine ⟨g1, g2, g3, g4, g5, g6, ?_, ?_, ?_, ?_, ?_⟩
  · intro i j x y c1 c2 c3 hx hy
    rw [w1 i (by omega)] at hx
    rw [w1 j c3] at hy
    exact h1 i j x y c1 c2 (by omega) hx hy
  · intro i j x y c1 c2 c3 hx hy
    rw [w2 i c1 (by omega)] at hx
    rw [w2 j (by omega) c3] at hy
    exact h2 _ _ x y (by omega) (by omega) (by omega) hx hy
  · intro i j x y c1 c2 c3 hx hy
    rw [w3 i c1 (by omega)] at hx
    rw [w3 j (by omega) c3] at hy
    exact h1 _ _ x y (by omega) (by omega) (by omega) hx hy
  · intro i j x y c1 c2 c3 hx hy
    rw [w4 i c1] at hx
    rw [w4 j (by omega)] at hy
    exact h2 i j x y (by omega) c2 c3 hx hy
  · intro i j x y c1 c2 c3 c4 hx hy
    by_cases hi : i < s
    · rw [w1 i hi] at hx
      by_cases hj : j < e
      · rw [w3 j c3 hj] at hy
        exact h1 i _ x y c1 (by omega) (by omega) hx hy
      · rw [w4 j (by omega)] at hy
        have hs : (if mid < m then n - b else a) < s := by
          by_cases hq : mid < m
          · rw [if_pos hq] at hlo ⊢; omega
          · rw [if_neg hq] at hlo ⊢; omega
        obtain ⟨u, hu⟩ := inx (s - 1) (by omega)
        obtain ⟨v, hv⟩ := inx e (by omega)
        have h3 := hbel (s - 1) u v (by omega) (by omega) hu (by rw [show n - 1 - (s - 1) = e by omega]; exact hv)
        have h4 := lele i (s - 1) x u c1 (by omega) (by omega) hx hu
        have h5 := rele e j v y g3 (by omega) c4 hv hy
        omega
    · rw [w2 i (by omega) c2] at hx
      by_cases hj : j < e
      · rw [w3 j c3 hj] at hy
        have hs : s < (if mid < m then mid else m) := by
          by_cases hq : mid < m
          · rw [if_pos hq] at hhi ⊢; omega
          · rw [if_neg hq] at hhi ⊢; omega
        obtain ⟨u, hu⟩ := inx s (by omega)
        obtain ⟨v, hv⟩ := inx (e - 1) (by omega)
        have h3 := habv s u v (Nat.le_refl _) hs hu (by rw [show n - 1 - s = e - 1 by omega]; exact hv)
        have h4 := rele (m + (i - s)) (e - 1) x v (by omega) (by omega) (by omega) hx hv
        have h5 := lele s (s + (j - mid)) u y g1 (by omega) (by omega) hu hy
        omega
      · rw [w4 j (by omega)] at hy
        exact h2 _ j x y (by omega) (by omega) c4 hx hy

/-- Behind the two calls that merge the halves, all rises. -/
theorem merge_end {D1 D2 D3 : List α} {a s mid e b : Nat} (g1 : a ≤ s) (g2 : s ≤ mid) (g3 : mid ≤ e) (g4 : e ≤ b) (hu : Und key D1 a mid b) (k1 : MixS a mid D1 D2) (r1 : Ris key D2 a mid) (k2 : MixS mid b D2 D3) (r2 : Ris key D3 mid b) : Ris key D3 a b ∧ MixS a b D1 D3 :=
  ⟨(r1.before k2 (Nat.le_refl _)).join r2 ((hu.mix1 (by omega) k1).mix2 (by omega) k2), (k1.wide (Nat.le_refl _) (by omega)).trans (k2.wide (by omega) (Nat.le_refl _))⟩

/-- One of a part that doesn't stand where it should, moved step by step. -/
def Slid (D D' : List α) (i j : Nat) : Prop := D'.length = D.length ∧ (∀ k, k < i → D'[k]? = D[k]?) ∧ (∀ k, j < k → D'[k]? = D[k]?) ∧ (D'[i]? = D[j]?) ∧ ∀ k, i ≤ k → k < j → D'[k + 1]? = D[k]?

end

set_option linter.unusedVariables false

section
variable {α : Type}

/-- Two ranges of n, swapped. -/
structure SwapR (D D' : List α) (a b n : Nat) : Prop where
  len : D'.length = D.length
  fst : ∀ t, t < n → D'[a + t]? = D[b + t]?
  snd : ∀ t, t < n → D'[b + t]? = D[a + t]?
  oth : ∀ k, (k < a ∨ a + n ≤ k) → (k < b ∨ b + n ≤ k) → D'[k]? = D[k]?

theorem SwapR.zero (D : List α) (a b : Nat) : SwapR D D a b 0 := ⟨rfl, fun t h => by omega, fun t h => by omega, fun _ _ _ => rfl⟩

theorem SwapR.step {D D' : List α} {a b n : Nat} (h : SwapR D D' a b n) (hab : a + n < b) (hb : b + n < D.length) : SwapR D (swp D' (a + n) (b + n)) a b (n + 1) := by
  have hl := h.len
  obtain ⟨x, hx⟩ : ∃ x, D'[a + n]? = some x := ⟨_, List.getElem?_eq_getElem (by omega)⟩
  obtain ⟨y, hy⟩ : ∃ y, D'[b + n]? = some y := ⟨_, List.getElem?_eq_getElem (by omega)⟩
  have ox := h.oth (a + n) (.inr (Nat.le_refl _)) (.inl (by omega))
  have oy := h.oth (b + n) (.inr (by omega)) (.inr (Nat.le_refl _))
  have g := swp_get hx hy
  refine ⟨by rw [swp_eq hx hy]; simp [hl], fun t ht => ?_, fun t ht => ?_, fun k h1 h2 => ?_⟩
  · rw [g]
    by_cases e : t = n
    · subst e
      rw [if_neg (by omega), if_pos rfl, ← oy, hy]
    · rw [if_neg (by omega), if_neg (by omega)]
      exact h.fst t (by omega)
  · rw [g]
    by_cases e : t = n
    · subst e
      rw [if_pos rfl, ← ox, hx]
    · rw [if_neg (by omega), if_neg (by omega)]
      exact h.snd t (by omega)
  · rw [g, if_neg (by omega), if_neg (by omega)]
    exact h.oth k (by omega) (by omega)

/-- Where each is to stand. -/
def tgt (D : List α) (a m b k : Nat) : Option α := if k < a + (b - m) then D[m + (k - a)]? else D[a + (k - a - (b - m))]?

/-- Rotate's loop: i and j are left to be brought to their places on either side of m. -/
structure RotI (D E : List α) (a m b i j : Nat) : Prop where
  len : E.length = D.length
  out : ∀ k, (k < a ∨ b ≤ k) → E[k]? = D[k]?
  left : ∀ k, a ≤ k → k < m - i → E[k]? = tgt D a m b k
  right : ∀ k, m + j ≤ k → k < b → E[k]? = tgt D a m b k
  up : ∀ t, t < j → tgt D a m b (m - i + t) = E[m + t]?
  down : ∀ t, t < i → tgt D a m b (m - i + j + t) = E[m - i + t]?

theorem RotI.start (D : List α) (a m b : Nat) (ham : a ≤ m) (hmb : m ≤ b) : RotI D D a m b (m - a) (b - m) := by
  refine ⟨rfl, fun _ _ => rfl, fun k h1 h2 => by omega, fun k h1 h2 => by omega, fun t ht => ?_, fun t ht => ?_⟩
  · rw [tgt, if_pos (by omega)]
    congr 1
    omega
  · rw [tgt, if_neg (by omega)]
    congr 1
    omega

theorem RotI.more {D E E' : List α} {a m b i j : Nat} (h : RotI D E a m b i j) (hi : i ≤ m - a) (hj : j ≤ b - m) (ham : a ≤ m) (hmb : m ≤ b) (hij : j < i) (s : SwapR E E' (m - i) m j) : RotI D E' a m b (i - j) j := by
  refine ⟨s.len.trans h.len, fun k hk => ?_, fun k h1 h2 => ?_, fun k h1 h2 => ?_, fun t ht => ?_, fun t ht => ?_⟩
  · rw [s.oth k (by omega) (by omega)]
    exact h.out k hk
  · by_cases hk : k < m - i
    · rw [s.oth k (by omega) (by omega)]
      exact h.left k h1 hk
    · have := s.fst (k - (m - i)) (by omega)
      rw [show m - i + (k - (m - i)) = k by omega] at this
      rw [this, ← h.up _ (by omega)]
      congr 1
      omega
  · rw [s.oth k (by omega) (by omega)]
    exact h.right k h1 h2
  · rw [s.snd t ht, ← h.down t (by omega)]
    congr 1
    omega
  · rw [s.oth (m - (i - j) + t) (by omega) (by omega)]
    have := h.down (j + t) (by omega)
    rw [show m - i + (j + t) = m - (i - j) + t by omega] at this
    rw [← this]
    congr 1
    omega

theorem RotI.less {D E E' : List α} {a m b i j : Nat} (h : RotI D E a m b i j) (hi : i ≤ m - a) (hj : j ≤ b - m) (ham : a ≤ m) (hmb : m ≤ b) (hij : i < j) (s : SwapR E E' (m - i) (m + j - i) i) : RotI D E' a m b i (j - i) := by
  refine ⟨s.len.trans h.len, fun k hk => ?_, fun k h1 h2 => ?_, fun k h1 h2 => ?_, fun t ht => ?_, fun t ht => ?_⟩
  · rw [s.oth k (by omega) (by omega)]
    exact h.out k hk
  · rw [s.oth k (by omega) (by omega)]
    exact h.left k h1 h2
  · by_cases hk : m + j ≤ k
    · rw [s.oth k (by omega) (by omega)]
      exact h.right k hk h2
    · have := s.snd (k - (m + j - i)) (by omega)
      rw [show m + j - i + (k - (m + j - i)) = k by omega] at this
      rw [this, ← h.down _ (by omega)]
      congr 1
      omega
  · rw [s.oth (m + t) (by omega) (by omega)]
    exact h.up t (by omega)
  · rw [s.fst t ht, show m + j - i + t = m + (j - i + t) by omega, ← h.up _ (by omega)]
    congr 1
    omega

theorem RotI.last {D E E' : List α} {a m b i : Nat} (h : RotI D E a m b i i) (hi : i ≤ m - a) (hj : i ≤ b - m) (ham : a ≤ m) (hmb : m ≤ b) (s : SwapR E E' (m - i) m i) : RotR D E' a m b := by
  have all : ∀ k, a ≤ k → k < b → E'[k]? = tgt D a m b k := fun k h1 h2 => by
    by_cases c1 : k < m - i
    · rw [s.oth k (by omega) (by omega)]
      exact h.left k h1 c1
    · by_cases c2 : k < m
      · have := s.fst (k - (m - i)) (by omega)
        rw [show m - i + (k - (m - i)) = k by omega] at this
        rw [this, ← h.up _ (by omega)]
        congr 1
        omega
      · by_cases c3 : k < m + i
        · have := s.snd (k - m) (by omega)
          rw [show m + (k - m) = k by omega] at this
          rw [this, ← h.down _ (by omega)]
          congr 1
          omega
        · rw [s.oth k (by omega) (by omega)]
          exact h.right k (by omega) h2
  refine ⟨s.len.trans h.len, fun k hk => ?_, fun k hk => ?_, fun t ht => ?_, fun t ht => ?_⟩
  · rw [s.oth k (by omega) (by omega)]
    exact h.out k (.inl hk)
  · rw [s.oth k (by omega) (by omega)]
    exact h.out k (.inr hk)
  · rw [all _ (by omega) (by omega), tgt, if_pos (by omega)]
    congr 1
    omega
  · rw [all _ (by omega) (by omega), tgt, if_neg (by omega)]
    congr 1
    omega

end

set_option linter.unusedVariables false

section
variable {α : Type} (key : α → Int)

/-- All from a to i rises but the one at j, which is below all behind it. -/
def InsI (D : List α) (a i j : Nat) : Prop :=
  (∀ (p q : Nat) (x y : α), a ≤ p → p < q → q ≤ i → p ≠ j → q ≠ j → D[p]? = some x → D[q]? = some y → key x ≤ key y) ∧
  (∀ (q : Nat) (x y : α), j < q → q ≤ i → D[j]? = some x → D[q]? = some y → key x < key y)

variable {key}

theorem InsI.start {D : List α} {a i : Nat} (h : Ris key D a i) : InsI key D a i i :=
  ⟨fun p q x y h1 h2 h3 h4 h5 hx hy => h p q x y h1 h2 (by omega) hx hy, fun q x y h1 h2 _ _ => by omega⟩

theorem InsI.step {D : List α} {a i j : Nat} {x y : α} (h : InsI key D a i j) (hj : a < j) (hji : j ≤ i) (hx : D[j - 1]? = some x) (hy : D[j]? = some y) (hlt : key y < key x) : InsI key (swp D (j - 1) j) a i (j - 1) := by
  have g := swp_get hx hy
  refine ⟨fun p q u v h1 h2 h3 h4 h5 hu hv => ?_, fun q u v h1 h2 hu hv => ?_⟩
  · rw [g] at hu hv
    by_cases c1 : p = j
    · rw [if_pos c1] at hu
      rw [if_neg (by omega), if_neg (by omega)] at hv
      injection hu with hu
      subst hu
      exact h.1 (j - 1) q x v (by omega) (by omega) h3 (by omega) (by omega) hx hv
    · rw [if_neg c1, if_neg h4] at hu
      by_cases c2 : q = j
      · rw [if_pos c2] at hv
        injection hv with hv
        subst hv
        exact h.1 p (j - 1) u x h1 (by omega) (by omega) c1 (by omega) hu hx
      · rw [if_neg c2, if_neg h5] at hv
        exact h.1 p q u v h1 h2 h3 c1 c2 hu hv
  · rw [g] at hu hv
    rw [if_neg (by omega), if_pos rfl] at hu
    injection hu with hu
    subst hu
    by_cases c2 : q = j
    · rw [if_pos c2] at hv
      injection hv with hv
      subst hv
      exact hlt
    · rw [if_neg c2, if_neg (by omega)] at hv
      exact h.2 q y v (by omega) h2 hy hv

theorem InsI.done {D : List α} {a i j : Nat} (h : InsI key D a i j) (hja : a ≤ j) (hji : j ≤ i) (hi : i < D.length) (he : j = a ∨ ∀ x y, D[j - 1]? = some x → D[j]? = some y → key x ≤ key y) : Ris key D a (i + 1) := by
  intro p q x y h1 h2 h3 hx hy
  by_cases c1 : p = j
  · subst c1
    exact Int.le_of_lt (h.2 q x y h2 (by omega) hx hy)
  · by_cases c2 : q = j
    · subst c2
      rcases he with e | e
      · omega
      · obtain ⟨z, hz⟩ : ∃ z, D[q - 1]? = some z := ⟨_, List.getElem?_eq_getElem (by omega)⟩
        have h5 := e z y hz hy
        by_cases c3 : p = q - 1
        · subst c3
          rw [hx] at hz
          injection hz with hz
          rw [hz]
          exact h5
        · have := h.1 p (q - 1) x z h1 (by omega) (by omega) c1 (by omega) hx hz
          omega
    · exact h.1 p q x y h1 h2 (by omega) c1 c2 hx hy

end

theorem own_setS {α : Type} (f : α → List Value) (k : Nat) (hk : ∀ x, (f x).length = k) {w w' : World} {e : TypeId} {g cap : Nat} (L : List α) (i : Nat) (x : α) (hi : i < L.length) (h : w.ownsRow 0 e k (.slice (some ⟨g, 0, none⟩) L.length cap) L.length ((L.map f).flatten))
    (hb : ∀ cur, w.heap[g]? = some (.cells cur e (0, 0)) → w'.heap[g]? = some (.cells (setL cur (i * k) (f x)) e (0, 0))) : w'.ownsRow 0 e k (.slice (some ⟨g, 0, none⟩) L.length cap) L.length (((L.set i x).map f).flatten) := by
  rcases h.2 with ⟨h0, _⟩ | ⟨g', cap', cur, h0, h1, h2, h3, h4, h5, h6⟩
  · cases h0
  · injection h0 with e1 _ e3
    injection e1 with e1
    injection e1 with e1
    subst e1 e3
    have hle : L.length * k ≤ cap * k := Nat.mul_le_mul_right k h3
    have hik : (i + 1) * k ≤ L.length * k := Nat.mul_le_mul_right k hi
    have e2 : (i + 1) * k = i * k + k := Nat.succ_mul i k
    refine ⟨by rw [flat_len f k hk, List.length_set], .inr ⟨g, cap, _, rfl, h1, hb cur h2, h3, h4, by rw [setL_size]; exact h5, ?_⟩⟩
    rw [setL_list (f x) (i * k) cur (by rw [hk x, h5]; omega)]
    have c1 : cur.toList.take (i * k) = ((L.take i).map f).flatten := by
      rw [show cur.toList.take (i * k) = (cur.toList.take (L.length * k)).take (i * k) by rw [List.take_take, Nat.min_eq_left (by omega)], h6, flat_take f k hk L i (by omega)]
    have l1 : ((L.take i).map f).flatten.length = i * k := by rw [flat_len f k hk, List.length_take, Nat.min_eq_left (by omega)]
    have c2 : (cur.toList.take (L.length * k)).drop (i * k + k) = ((L.drop (i + 1)).map f).flatten := by
      rw [h6, ← e2]
      have := flat_take f k hk L (i + 1) (by omega)
      have e4 : (L.map f).flatten = ((L.take (i + 1)).map f).flatten ++ ((L.drop (i + 1)).map f).flatten := by
        rw [← List.flatten_append, ← List.map_append, List.take_append_drop]
      have l2 : ((L.take (i + 1)).map f).flatten.length = (i + 1) * k := by rw [flat_len f k hk, List.length_take, Nat.min_eq_left (by omega)]
      rw [e4, ← l2, List.drop_left]
    have e5 : ((L.set i x).map f).flatten = ((L.take i).map f).flatten ++ f x ++ ((L.drop (i + 1)).map f).flatten := by
      rw [List.set_eq_take_append_cons_drop, if_pos hi]
      simp
    rw [e5, c1, ← c2]
    have l3 : (((L.take i).map f).flatten ++ f x).length = i * k + k := by rw [List.length_append, l1, hk x]
    rw [List.take_append, List.take_of_length_le (by rw [l3]; omega), l3, hk x, List.drop_take]

theorem row_cellsS {α : Type} (f : α → List Value) (k : Nat) (hk : ∀ x, (f x).length = k) {w : World} {e : TypeId} {g n cap : Nat} {L : List α} (h : w.ownsRow 0 e k (.slice (some ⟨g, 0, none⟩) n cap) n ((L.map f).flatten)) {cur : Array Value} (hc : w.heap[g]? = some (.cells cur e (0, 0))) {i : Nat} {x : α} (hx : L[i]? = some x) : ∀ j u, (f x)[j]? = some u → cur[i * k + j]? = some u := by
  intro j u hu
  rcases h.2 with ⟨h0, _⟩ | ⟨g', cap', cur', h0, h1, h2, h3, h4, h5, h6⟩
  · cases h0
  · injection h0 with e1 _ e3
    injection e1 with e1
    injection e1 with e1
    subst e1
    rw [hc] at h2
    injection h2 with h2
    injection h2 with h2
    subst h2
    have := flat_get f k hk L i j x u hx hu
    rw [← h6, List.getElem?_take] at this
    split at this
    · simpa using this
    · cases this

theorem cells3 (x : Nd) : x.cells.length = 3 := rfl

/-- A row of nodes. -/
def RowN (w : World) (g cap : Nat) (D : List Nd) : Prop := w.ownsRow 0 49 3 (.slice (some ⟨g, 0, none⟩) D.length cap) D.length (rowN D)

theorem RowN.blk {w : World} {g cap : Nat} {D : List Nd} (h : RowN w g cap D) : ∃ cur, w.heap[g]? = some (.cells cur 49 (0, 0)) ∧ D.length ≤ cap := by
  rcases h.2 with ⟨h0, _⟩ | ⟨g', cap', cur, h0, h1, h2, h3, _⟩
  · cases h0
  · injection h0 with e1 _ e3
    injection e1 with e1
    injection e1 with e1
    subst e1 e3
    exact ⟨cur, h2, h3⟩

theorem RowN.get {w : World} {g cap : Nat} {D : List Nd} (h : RowN w g cap D) {i : Nat} {x : Nd} (hx : D[i]? = some x) :
    w.cell? ⟨g, i * 3, none⟩ = some (.int .i64 x.id) ∧ w.cell? ⟨g, i * 3 + 1, none⟩ = some (.slice x.la x.ll x.lc) ∧ w.cell? ⟨g, i * 3 + 2, none⟩ = some (.slice x.pa x.pl x.pc) ∧ w.frozen? ⟨g, i * 3, none⟩ = false ∧ w.frozen? ⟨g, i * 3 + 1, none⟩ = false ∧ w.frozen? ⟨g, i * 3 + 2, none⟩ = false := by
  obtain ⟨cur, hc, _⟩ := h.blk
  have c := row_cellsS Nd.cells 3 cells3 h hc hx
  exact ⟨(cell_of hc _).trans (c 0 _ rfl), (cell_of hc _).trans (c 1 _ rfl), (cell_of hc _).trans (c 2 _ rfl), free_of hc _, free_of hc _, free_of hc _⟩

theorem RowN.set {w : World} {g cap : Nat} {D : List Nd} (h : RowN w g cap D) {i : Nat} (hi : i < D.length) (x : Nd) : RowN (putL w g (i * 3) x.cells) g cap (D.set i x) := by
  have := own_setS Nd.cells 3 cells3 (w' := putL w g (i * 3) x.cells) D i x hi h (fun cur hc => putL_here _ _ _ _ hc)
  unfold RowN
  rw [List.length_set]
  exact this

theorem RowN.swap {w : World} {g cap : Nat} {D : List Nd} (h : RowN w g cap D) {i j : Nat} {x y : Nd} (hx : D[i]? = some x) (hy : D[j]? = some y) : RowN (putL (putL w g (i * 3) y.cells) g (j * 3) x.cells) g cap (swp D i j) := by
  rw [swp_eq hx hy]
  exact (h.set (List.getElem?_eq_some_iff.1 hx).1 y).set (by rw [List.length_set]; exact (List.getElem?_eq_some_iff.1 hy).1) x

theorem RowN.drew {w : World} {g cap : Nat} {D : List Nd} (h : RowN w g cap D) : RowN w.drew g cap D := h

theorem Rest.put {w u : World} {g : Nat} (h : Rest (fun j => j = g) w u) (o : Nat) (vs : List Value) : Rest (fun j => j = g) w (putL u g o vs) :=
  ⟨(putL_bel g vs o u).os.trans h.os, (putL_bel g vs o u).tape.trans h.tape, (putL_bel g vs o u).output.trans h.output, by rw [putL_size]; exact h.size, fun i hi hn => (putL_other g vs o u i hn).trans (h.block i hi hn)⟩

theorem Rest.drewS {O : Nat → Prop} {w u : World} (h : Rest O w u) : Rest O w u.drew := ⟨h.os, h.tape, h.output, h.size, h.block⟩

set_option maxHeartbeats 4000000 in
set_option maxRecDepth 100000 in
theorem swapRangeN (g cap a b n : Nat) (fv : Value) (D : List Nd) (w : World) (h : RowN w g cap D) (hab : a + n ≤ b) (hb : b + n ≤ D.length) (hD : D.length ≤ 1000) :
    Calls Tryz.prog 239 #[.slice (some ⟨g, 0, none⟩) D.length cap, .int .i64 a, .int .i64 b, .int .i64 n, fv] w fun e w' => e = .returned (.tuple #[]) ∧ ∃ E, SwapR D E a b n ∧ RowN w' g cap E ∧ Rest (fun j => j = g) w w' := by
  have H := toHid h
  clear h
  go_enter Tryz.func239, Tryz.ntmps239
  go_wp2_with fail
  go_loopg [10] n (fun m x10 wr => ∃ (i : Nat) (E : List Nd), i ≤ n ∧ n - i ≤ m ∧ x10 = .int .i64 i ∧ SwapR D E a b i ∧ RowN wr g cap E ∧ Rest (fun j => j = g) w wr)
  case atStart => exact ⟨0, D, Nat.zero_le _, by omega, rfl, SwapR.zero D a b, H.out, Rest.refl _ _⟩
  case round =>
    obtain ⟨i, E, hi, hm, rfl, hS, hR, hk⟩ := hrel
    have hEl : E.length = D.length := hS.len
    by_cases hlt : i < n
    · have hil : (i : Int) < (n : Int) := by omega
      obtain ⟨x, hx⟩ : ∃ x, E[a + i]? = some x := ⟨_, List.getElem?_eq_getElem (by omega)⟩
      obtain ⟨y, hy⟩ : ∃ y, E[b + i]? = some y := ⟨_, List.getElem?_eq_getElem (by omega)⟩
      obtain ⟨x0, x1, x2, fx0, fx1, fx2⟩ := hR.get hx
      obtain ⟨y0, y1, y2, fy0, fy1, fy2⟩ := hR.get hy
      have HW := toHid (hR.swap hx hy).drew
      have HS := toHid (hS.step (by omega) (by omega))
      have HK := toHid hk
      have ha1 : ((a : Int) + (i : Int)) < (D.length : Int) := by omega
      have hb1 : ((b : Int) + (i : Int)) < (D.length : Int) := by omega
      have hne : a + i ≠ b + i := by omega
      clear hS hR hk hx hy hEl
      go_upto_block 1 with fail
      go_cut [] (fun wz => RowN wz g cap (swp E (a + i) (b + i)) ∧ Rest (fun j => j = g) w wz)
      case first =>
        go_wp2_with fail
        go_region
        all_goals
          go_wp2_with fail
          go_meet
          exact ⟨HW.out, ((HK.out.put ((a + i) * 3) y.cells).put ((b + i) * 3) x.cells).drewS⟩
      case rest =>
        obtain ⟨hz, kz⟩ := hcut
        have HZ := toHid hz
        have HKZ := toHid kz
        clear hz kz
        go_wp2_with fail
        go_roundg (n - (i + 1))
        case measure => omega
        case rel => exact ⟨i + 1, _, by omega, by omega, by go_num, HS.out, HZ.out, HKZ.out⟩
    · have hil : i = n := by omega
      subst hil
      have HS := toHid hS
      have HR := toHid hR
      have HK := toHid hk
      clear hS hR hk hEl
      go_wp2_with fail
      go_end0
      exact ⟨rfl, E, HS.out, HR.out, HK.out⟩

set_option maxHeartbeats 4000000 in
set_option maxRecDepth 100000 in
theorem rotateN (g cap a m b : Nat) (fv : Value) (D : List Nd) (w : World) (h : RowN w g cap D) (ham : a < m) (hmb : m < b) (hb : b ≤ D.length) (hD : D.length ≤ 1000) :
    Calls Tryz.prog 224 #[.slice (some ⟨g, 0, none⟩) D.length cap, .int .i64 a, .int .i64 m, .int .i64 b, fv] w fun e w' => e = .returned (.tuple #[]) ∧ ∃ E, RotR D E a m b ∧ RowN w' g cap E ∧ Rest (fun j => j = g) w w' := by
  have H := toHid h
  have ei : (m : Int) - (a : Int) = ((m - a : Nat) : Int) := by omega
  have ej : (b : Int) - (m : Int) = ((b - m : Nat) : Int) := by omega
  have HEI := toHid ei
  have HEJ := toHid ej
  clear h ei ej
  go_enter Tryz.func224, Tryz.ntmps224
  go_wp2_with fail
  go_loopg [10, 11] (b - a) (fun q x10 x11 wr => ∃ (i j : Nat) (E : List Nd), 0 < i ∧ 0 < j ∧ i ≤ m - a ∧ j ≤ b - m ∧ i + j ≤ q ∧ x10 = .int .i64 i ∧ x11 = .int .i64 j ∧ RotI D E a m b i j ∧ RowN wr g cap E ∧ Rest (fun j => j = g) w wr)
  case atStart => exact ⟨m - a, b - m, D, by omega, by omega, Nat.le_refl _, Nat.le_refl _, by omega, by rw [← HEI.out], by rw [← HEJ.out], RotI.start D a m b (by omega) (by omega), H.out, Rest.refl _ _⟩
  case round =>
    obtain ⟨i, j, E, hi0, hj0, hi, hj, hq, rfl, rfl, hI, hR, hk⟩ := hrel
    have hEl : E.length = D.length := hI.len
    have e1 : (m : Int) - (i : Int) = ((m - i : Nat) : Int) := by omega
    have hR' : ∀ (n p q' : Nat), p + n ≤ q' → q' + n ≤ E.length → Calls Tryz.prog 239 #[.slice (some ⟨g, 0, none⟩) D.length cap, .int .i64 p, .int .i64 q', .int .i64 n, fv] wr fun e w' => e = .returned (.tuple #[]) ∧ ∃ E', SwapR E E' p q' n ∧ RowN w' g cap E' ∧ Rest (fun j => j = g) wr w' := fun n p q' c1 c2 => by
      have := swapRangeN g cap p q' n fv E wr hR c1 c2 (by omega)
      rw [hEl] at this
      exact this
    have HS := toHid hR'
    have HI := toHid hI
    have HR := toHid hR
    have HK := toHid hk
    have HE1 := toHid e1
    clear hR' hI hR hk e1
    by_cases hij : i = j
    · subst hij
      have hne : ((i : Int) != (i : Int)) = false := by simp
      go_wp2_with fail
      rw [HE1.out]
      refine (HS.out i (m - i) m (by omega) (by omega)).mono ?_
      rintro e w1 ⟨rfl, E', hE, hR1, k1⟩
      have HX := toHid (HI.out.last hi hj (by omega) (by omega) hE)
      have HR1 := toHid hR1
      have HK1 := toHid (HK.out.trans k1 fun _ _ h => h)
      clear hE hR1 k1
      go_wp2_with fail
      go_end0
      exact ⟨rfl, E', HX.out, HR1.out, HK1.out⟩
    · have hne : ((i : Int) != (j : Int)) = true := by simp; omega
      by_cases hlt : j < i
      · have hltI : (j : Int) < (i : Int) := by omega
        have e2 : (i : Int) - (j : Int) = ((i - j : Nat) : Int) := by omega
        have HE2 := toHid e2
        clear e2
        go_wp2_with fail
        rw [HE1.out]
        refine (HS.out j (m - i) m (by omega) (by omega)).mono ?_
        rintro e w1 ⟨rfl, E', hE, hR1, k1⟩
        have HX := toHid (HI.out.more hi hj (by omega) (by omega) hlt hE)
        have HR1 := toHid hR1
        have HK1 := toHid (HK.out.trans k1 fun _ _ h => h)
        clear hE hR1 k1
        go_wp2_with fail
        go_roundg (i - j + j)
        case measure => omega
        case rel => exact ⟨i - j, j, E', by omega, hj0, by omega, hj, Nat.le_refl _, by rw [← HE2.out], rfl, HX.out, HR1.out, HK1.out⟩
      · have hltI : ¬ (j : Int) < (i : Int) := by omega
        have e2 : (j : Int) - (i : Int) = ((j - i : Nat) : Int) := by omega
        have e3 : (m : Int) + (j : Int) - (i : Int) = ((m + j - i : Nat) : Int) := by omega
        have HE2 := toHid e2
        have HE3 := toHid e3
        clear e2 e3
        go_wp2_with fail
        rw [HE1.out, HE3.out]
        refine (HS.out i (m - i) (m + j - i) (by omega) (by omega)).mono ?_
        rintro e w1 ⟨rfl, E', hE, hR1, k1⟩
        have HX := toHid (HI.out.less hi hj (by omega) (by omega) (by omega) hE)
        have HR1 := toHid hR1
        have HK1 := toHid (HK.out.trans k1 fun _ _ h => h)
        clear hE hR1 k1
        go_wp2_with fail
        go_roundg (i + (j - i))
        case measure => omega
        case rel => exact ⟨i, j - i, E', hi0, by omega, hi, by omega, Nat.le_refl _, rfl, by rw [← HE2.out], HX.out, HR1.out, HK1.out⟩

/-- The function that the sort is handed. -/
abbrev fvN (nb : Nat) : Value := .func (.func 101) #[] #[.pointer (some ⟨nb, 0, none⟩)]

/-- What it has caught. -/
def CmpOkN (w : World) (nb : Nat) : Prop := nb < w.heap.size ∧ w.cell? ⟨nb, 0, none⟩ = some (.func (.func 57) #[] #[])

theorem CmpOkN.below {w w' : World} {nb : Nat} (h : CmpOkN w nb) (k : Below w.heap.size w w') : CmpOkN w' nb := ⟨Nat.lt_of_lt_of_le h.1 k.size, (k.cell (p := ⟨nb, 0, none⟩) h.1).trans h.2⟩

theorem CmpOkN.rest {w w' : World} {nb g : Nat} (h : CmpOkN w nb) (hg : nb ≠ g) (k : Rest (fun j => j = g) w w') : CmpOkN w' nb := ⟨Nat.lt_of_lt_of_le h.1 k.size, (World.cell?_of_block (k.block nb h.1 hg)).trans h.2⟩

set_option maxHeartbeats 2000000 in
set_option maxRecDepth 100000 in
theorem nodeID_any (x : Nd) (w : World) : Calls Tryz.prog 57 #[.agg #[.int .i64 x.id, .slice x.la x.ll x.lc, .slice x.pa x.pl x.pc]] w fun e w' => e = .returned (.int .i64 x.id) ∧ Below w.heap.size w w' := by
  have b0 : Below w.heap.size w (w.alloc (.cells #[.int .i64 x.id, .slice x.la x.ll x.lc, .slice x.pa x.pl x.pc] 49)) := (Below.refl _ _).alloc (Nat.le_refl _) _
  go_enter Tryz.func57, Tryz.ntmps57
  go_wp2_with fail
  go_ret
  exact ⟨rfl, b0⟩

set_option maxHeartbeats 4000000 in
set_option maxRecDepth 100000 in
theorem cmpN_any (nb : Nat) (x y : Nd) (w : World) (h : CmpOkN w nb) :
    Calls Tryz.prog 101 #[.agg #[.int .i64 x.id, .slice x.la x.ll x.lc, .slice x.pa x.pl x.pc], .agg #[.int .i64 y.id, .slice y.la y.ll y.lc, .slice y.pa y.pl y.pc], .pointer (some ⟨nb, 0, none⟩)] w fun e w' => e = .returned (.int .i64 (cmpN x.id y.id)) ∧ Below w.heap.size w w' := by
  have b0 : Below w.heap.size w ((w.alloc (.cells #[.int .i64 x.id, .slice x.la x.ll x.lc, .slice x.pa x.pl x.pc] 49)).alloc (.cells #[.int .i64 y.id, .slice y.la y.ll y.lc, .slice y.pa y.pl y.pc] 49)) := ((Below.refl _ _).alloc (Nat.le_refl _) _).alloc (by simp) _
  have hx1 : ((w.alloc (.cells #[.int .i64 x.id, .slice x.la x.ll x.lc, .slice x.pa x.pl x.pc] 49)).alloc (.cells #[.int .i64 y.id, .slice y.la y.ll y.lc, .slice y.pa y.pl y.pc] 49)).heap[w.heap.size]? = _ := (Below.heap_alloc _ _ _ (by simp)).trans (alloc_new w (.cells #[.int .i64 x.id, .slice x.la x.ll x.lc, .slice x.pa x.pl x.pc] 49))
  have hx2 : ((w.alloc (.cells #[.int .i64 x.id, .slice x.la x.ll x.lc, .slice x.pa x.pl x.pc] 49)).alloc (.cells #[.int .i64 y.id, .slice y.la y.ll y.lc, .slice y.pa y.pl y.pc] 49)).heap[w.heap.size + 1]? = some (.cells #[.int .i64 y.id, .slice y.la y.ll y.lc, .slice y.pa y.pl y.pc] 49 (0, 0)) := by
    have := alloc_new (w.alloc (.cells #[.int .i64 x.id, .slice x.la x.ll x.lc, .slice x.pa x.pl x.pc] 49)) (.cells #[.int .i64 y.id, .slice y.la y.ll y.lc, .slice y.pa y.pl y.pc] 49)
    simpa using this
  have hz : ((w.alloc (.cells #[.int .i64 x.id, .slice x.la x.ll x.lc, .slice x.pa x.pl x.pc] 49)).alloc (.cells #[.int .i64 y.id, .slice y.la y.ll y.lc, .slice y.pa y.pl y.pc] 49)).heap.size = w.heap.size + 2 := by simp
  have HC := toHid (h.below b0)
  have HB := toHid b0
  have HX1 := toHid hx1
  have HX2 := toHid hx2
  have HZ := toHid hz
  have NI := toHid nodeID_any
  have hlt := h.1
  clear h b0 hx1 hx2 hz
  go_enter Tryz.func101, Tryz.ntmps101
  go_upto_region 1 with fail
  generalize (w.alloc (.cells #[.int .i64 x.id, .slice x.la x.ll x.lc, .slice x.pa x.pl x.pc] 49)).alloc (.cells #[.int .i64 y.id, .slice y.la y.ll y.lc, .slice y.pa y.pl y.pc] 49) = W at HC HB HX1 HX2 HZ ⊢
  have HS : Hid (∀ W', Below W.heap.size W W' → (W'.cell? ⟨w.heap.size, 0, none⟩ = some (.int .i64 x.id) ∧ W'.cell? ⟨w.heap.size, 1, none⟩ = some (.slice x.la x.ll x.lc) ∧ W'.cell? ⟨w.heap.size, 2, none⟩ = some (.slice x.pa x.pl x.pc)) ∧ (W'.cell? ⟨w.heap.size + 1, 0, none⟩ = some (.int .i64 y.id) ∧ W'.cell? ⟨w.heap.size + 1, 1, none⟩ = some (.slice y.la y.ll y.lc) ∧ W'.cell? ⟨w.heap.size + 1, 2, none⟩ = some (.slice y.pa y.pl y.pc)) ∧ W'.cell? ⟨nb, 0, none⟩ = some (.func (.func 57) #[] #[])) := fun W' kk => by
    have q1 : ∀ o, W'.cell? ⟨w.heap.size, o, none⟩ = _ := fun o => (kk.cell (p := ⟨w.heap.size, o, none⟩) (by show w.heap.size < W.heap.size; rw [HZ.out]; omega)).trans (cell_of HX1.out o)
    have q2 : ∀ o, W'.cell? ⟨w.heap.size + 1, o, none⟩ = _ := fun o => (kk.cell (p := ⟨w.heap.size + 1, o, none⟩) (by show w.heap.size + 1 < W.heap.size; rw [HZ.out]; omega)).trans (cell_of HX2.out o)
    exact ⟨⟨q1 0, q1 1, q1 2⟩, ⟨q2 0, q2 1, q2 2⟩, (HC.out.below kk).2⟩
  have D0 : Below W.heap.size W W.drew := (Below.refl _ _).drew
  obtain ⟨⟨x0, x1, x2⟩, ⟨y0, y1, y2⟩, n0⟩ := HS.out W (Below.refl _ _)
  go_region_held3 (fun W' => (W'.cell? ⟨w.heap.size, 0, none⟩ = some (.int .i64 x.id) ∧ W'.cell? ⟨w.heap.size, 1, none⟩ = some (.slice x.la x.ll x.lc) ∧ W'.cell? ⟨w.heap.size, 2, none⟩ = some (.slice x.pa x.pl x.pc)) ∧ (W'.cell? ⟨w.heap.size + 1, 0, none⟩ = some (.int .i64 y.id) ∧ W'.cell? ⟨w.heap.size + 1, 1, none⟩ = some (.slice y.la y.ll y.lc) ∧ W'.cell? ⟨w.heap.size + 1, 2, none⟩ = some (.slice y.pa y.pl y.pc)) ∧ W'.cell? ⟨nb, 0, none⟩ = some (.func (.func 57) #[] #[]))
    (first
      | with_reducible exact HS.out _ k2
      | with_reducible exact HS.out _ k1
      | with_reducible exact HS.out _ D0
      | exact ⟨⟨x0, x1, x2⟩, ⟨y0, y1, y2⟩, n0⟩
      | go_keep)
    (first
      | (go_at_call 102; go_fit (compare_num x.id y.id u2); rintro e u3 ⟨rfl, rfl⟩)
      | (go_at_call 57; go_fit (NI.out y u1); rintro e u2 ⟨rfl, h2⟩; have k2 : Below W.heap.size W u2 := k1.trans (h2.mono k1.size))
      | (go_at_call 57; go_fit (NI.out x u1); rintro e u2 ⟨rfl, h2⟩; have k2 : Below W.heap.size W u2 := k1.trans (h2.mono k1.size))
      | (go_at_call 57; go_fit (NI.out x W.drew); rintro e u1 ⟨rfl, h1⟩; have k1 : Below W.heap.size W u1 := D0.trans h1)
      | (go_at_call 57; go_fit (NI.out y W.drew); rintro e u1 ⟨rfl, h1⟩; have k1 : Below W.heap.size W u1 := D0.trans h1))
  all_goals
    go_wp2_with fail
    go_ret
    exact ⟨rfl, HB.out.trans (k2.mono (by rw [HZ.out]; omega))⟩

section
variable {P : Program} (w : World)

theorem run_append_both (t ty : TypeId) (base : Nat) (e : TypeId) (i : TypeInfo) (z : Value) (size bytes : Nat) (ht : P.underlying t = some (.slice e)) (hi : P.info? e = some i) (hz : i.zero = some z)
    (hsize : i.size = size) (hby : i.bytes = bytes) (hzs : z.cells.size = size) (hsz : 0 < size)
    (v : Value) (n : Nat) (xs : List Value) (hown : w.ownsRow base e size v n xs)
    (ax : Option Addr) (m c : Nat) (news : List Value) (hl : news.length = m * size) (hnews : ∀ j u, news[j]? = some u → ∃ ad, ax = some ad ∧ w.cell? (ad.add j) = some u) (h1 : ∀ u ∈ news, u.oneCell' = true)
    (h63 : n + m ≤ maxLen) (hbytes : (n + m) * bytes ≤ 140737488355328) (hbase : base ≤ w.heap.size) :
    ∃ v' w', (Builtin.append_ #[t, t] ty #[v, .slice ax m c]).run P w = .ok v' w' ∧
      w'.ownsRow base e size v' (n + m) (xs ++ news) ∧ w.grownBy w' v.ownBlock ∧ (v'.ownBlock = v.ownBlock ∨ v'.ownBlock = some w.heap.size) := by
  cases ax with
  | some ad =>
    obtain ⟨v', w', hr, h2, h3, _, h5⟩ := run_append_own_at (P := P) w base t ty e i z size bytes ht hi hz hsize hby hzs hsz v n xs hown ad m c news hl (fun j u hu => by
      obtain ⟨ad', e1, e2⟩ := hnews j u hu
      cases e1
      exact e2) h1 h63 hbytes hbase
    exact ⟨v', w', hr, h2, h3, h5⟩
  | none =>
    have hn : news = [] := by
      cases news with
      | nil => rfl
      | cons u us =>
        obtain ⟨_, e1, _⟩ := hnews 0 u rfl
        cases e1
    subst hn
    have hm : m = 0 := by
      rcases Nat.eq_zero_or_pos m with h | h
      · exact h
      · have := Nat.mul_pos h hsz
        simp at hl
        omega
    subst hm
    refine ⟨v, w, ?_, by simpa using hown, ⟨rfl, rfl, rfl, Nat.le_refl _, fun _ _ _ => rfl⟩, .inl rfl⟩
    rcases hown.2 with ⟨rfl, rfl⟩ | ⟨g, cap, cur, rfl, _, _, hnc, _⟩
    · simp [Builtin.append_, run_underlying ht, sizeOf, typeInfo, hi, Builtin.lenOf, Builtin.firstCells]
    · simp [Builtin.append_, run_underlying ht, sizeOf, typeInfo, hi, Builtin.lenOf, Builtin.firstCells, hnc, storeCells]

theorem wp_append_both {o : Oper} {a : Act} {K : Act → World → Prop} {Q : Exit → Act → World → Prop} (s x : Operand) (t : TypeId)
    (ho : o.op = .call { callee := .builtin .append, args := #[s, x], argTypes := #[t, t] })
    (base : Nat) (e : TypeId) (i : TypeInfo) (z : Value) (size bytes : Nat) (ht : P.underlying t = some (.slice e)) (hi : P.info? e = some i) (hz : i.zero = some z)
    (hsize : i.size = size) (hby : i.bytes = bytes) (hzs : z.cells.size = size) (hsz : 0 < size)
    (v : Value) (n : Nat) (xs : List Value) (hs : a.eval s = v) (hown : w.ownsRow base e size v n xs)
    (ax : Option Addr) (m c : Nat) (news : List Value) (hx : a.eval x = .slice ax m c) (hl : news.length = m * size) (hnews : ∀ j u, news[j]? = some u → ∃ ad, ax = some ad ∧ w.cell? (ad.add j) = some u) (h1 : ∀ u ∈ news, u.oneCell' = true)
    (h63 : n + m ≤ maxLen) (hbytes : (n + m) * bytes ≤ 140737488355328) (hbase : base ≤ w.heap.size)
    (h : ∀ v' w', w'.ownsRow base e size v' (n + m) (xs ++ news) → w.grownBy w' v.ownBlock → (v'.ownBlock = v.ownBlock ∨ v'.ownBlock = some w.heap.size) → K (a.put o.dst v') w') : o.wp P a w K Q := by
  obtain ⟨v', w', hr, h2, h3, h4⟩ := run_append_both (P := P) w t o.type base e i z size bytes ht hi hz hsize hby hzs hsz v n xs hown ax m c news hl hnews h1 h63 hbytes hbase
  unfold Oper.wp execOp
  simp only [ho, resolve, invoke, builtin, Sem.run_bind, Sem.run_pure, Result.andThen_ok, List.map_toArray, List.map_cons, List.map_nil, hs, hx, hr]
  exact h v' w' h2 h3 h4

theorem wpList_append_both {ops : Array Oper} {rest : List Oper} {o : Oper} {a : Act} {Q : Exit → Act → World → Prop} (hgd : o.guard = none) (s x : Operand) (t : TypeId)
    (ho : o.op = .call { callee := .builtin .append, args := #[s, x], argTypes := #[t, t] })
    (base : Nat) (e : TypeId) (i : TypeInfo) (z : Value) (size bytes : Nat) (ht : P.underlying t = some (.slice e)) (hi : P.info? e = some i) (hz : i.zero = some z)
    (hsize : i.size = size) (hby : i.bytes = bytes) (hzs : z.cells.size = size) (hsz : 0 < size)
    (v : Value) (n : Nat) (xs : List Value) (hs : a.eval s = v) (hown : w.ownsRow base e size v n xs)
    (ax : Option Addr) (m c : Nat) (news : List Value) (hx : a.eval x = .slice ax m c) (hl : news.length = m * size) (hnews : ∀ j u, news[j]? = some u → ∃ ad, ax = some ad ∧ w.cell? (ad.add j) = some u) (h1 : ∀ u ∈ news, u.oneCell' = true)
    (h63 : n + m ≤ maxLen) (hbytes : (n + m) * bytes ≤ 140737488355328) (hbase : base ≤ w.heap.size)
    (h : ∀ v' w', w'.ownsRow base e size v' (n + m) (xs ++ news) → w.grownBy w' v.ownBlock → (v'.ownBlock = v.ownBlock ∨ v'.ownBlock = some w.heap.size) → wpList P ops Q rest (a.put o.dst v') w') : wpList P ops Q (o :: rest) a w :=
  wpList_plain hgd fun _ hK => wp_append_both w s x t ho base e i z size bytes ht hi hz hsize hby hzs hsz v n xs hs hown ax m c news hx hl hnews h1 h63 hbytes hbase fun v' w' h2 h3 h4 => hK _ _ (h v' w' h2 h3 h4)

theorem step_append_both {ops : Array Oper} {o : Oper} {a : Act} {K : Act → World → Prop} {Q : Exit → Act → World → Prop} {E : Prop} (hgd : o.guard = none) (s x : Operand) (t : TypeId)
    (ho : o.op = .call { callee := .builtin .append, args := #[s, x], argTypes := #[t, t] })
    (base : Nat) (e : TypeId) (i : TypeInfo) (z : Value) (size bytes : Nat) (ht : P.underlying t = some (.slice e)) (hi : P.info? e = some i) (hz : i.zero = some z)
    (hsize : i.size = size) (hby : i.bytes = bytes) (hzs : z.cells.size = size) (hsz : 0 < size)
    (v : Value) (n : Nat) (xs : List Value) (hs : a.eval s = v) (hown : w.ownsRow base e size v n xs)
    (ax : Option Addr) (m c : Nat) (news : List Value) (hx : a.eval x = .slice ax m c) (hl : news.length = m * size) (hnews : ∀ j u, news[j]? = some u → ∃ ad, ax = some ad ∧ w.cell? (ad.add j) = some u) (h1 : ∀ u ∈ news, u.oneCell' = true)
    (h63 : n + m ≤ maxLen) (hbytes : (n + m) * bytes ≤ 140737488355328) (hbase : base ≤ w.heap.size)
    (h : ∀ v' w', w'.ownsRow base e size v' (n + m) (xs ++ news) → w.grownBy w' v.ownBlock → (v'.ownBlock = v.ownBlock ∨ v'.ownBlock = some w.heap.size) → K (a.put o.dst v') w') :
    if Region.wanted o (yielded ops a.tmps) = true then Oper.wp P o a w K Q else E := by
  have hw : Region.wanted o (yielded ops a.tmps) = true := by simp [Region.wanted, hgd]
  rw [if_pos hw]
  exact wp_append_both w s x t ho base e i z size bytes ht hi hz hsize hby hzs hsz v n xs hs hown ax m c news hx hl hnews h1 h63 hbytes hbase h

end
end Go.Proofs.YtdlmlpddkfnfmaaGreatDoor
