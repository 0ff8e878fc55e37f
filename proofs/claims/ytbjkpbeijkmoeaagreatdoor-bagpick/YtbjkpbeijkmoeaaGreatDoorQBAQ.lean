/-
  What is proved here: what the texts SIns, SUpDn, FSt, FIns, FSym1 prove, in one text.
-/
import Derived.Test.YtbjkpbeijkmoeaaGreatDoorQBAP
import Derived.Test.YtbjkpbeijkmoeaaGreatDoorQBAA
import Derived.Deep.CutBlock
import Derived.Deep.RegionHeld3
import Derived.BigQuiet
namespace Go.Proofs.YtbjkpbeijkmoeaaGreatDoor
open Go.RowKit
set_option linter.unusedVariables false

set_option linter.unusedVariables false

section
variable {α : Type} (key : α → Int)

/-- All from a to i rises but the one at j, which is below all behind it. -/
def InsI (D : List α) (a i j : Nat) : Prop :=
  (∀ (p q : Nat) (x y : α), a ≤ p → p < q → q ≤ i → p ≠ j → q ≠ j → D[p]? = some x → D[q]? = some y → key x ≤ key y) ∧
  (∀ (q : Nat) (x y : α), j < q → q ≤ i → D[j]? = some x → D[q]? = some y → key x < key y)

variable {key}

theorem InsI.start {D : List α} {a i : Nat} (h : Ris key D a i) : InsI key D a i i :=
  ⟨fun p q x y h1 h2 h3 h4 h5 hx hy => h p q x y h1 h2 (by omega) hx hy, fun q x y h1 h2 _ _ => by omega⟩

theorem InsI.step {D : List α} {a i j : Nat} {x y : α} (h : InsI key D a i j) (hj : a < j) (hji : j ≤ i) (hx : D[j - 1]? = some x) (hy : D[j]? = some y) (hlt : key y < key x) : InsI key (swp D (j - 1) j) a i (j - 1) := by
  have g := swp_get hx hy
  refine ⟨fun p q u v h1 h2 h3 h4 h5 hu hv => ?_, fun q u v h1 h2 hu hv => ?_⟩
  · rw [g] at hu hv
    by_cases c1 : p = j
    · rw [if_pos c1] at hu
      rw [if_neg (by omega), if_neg (by omega)] at hv
      injection hu with hu
      subst hu
      exact h.1 (j - 1) q x v (by omega) (by omega) h3 (by omega) (by omega) hx hv
    · rw [if_neg c1, if_neg h4] at hu
      by_cases c2 : q = j
      · rw [if_pos c2] at hv
        injection hv with hv
        subst hv
        exact h.1 p (j - 1) u x h1 (by omega) (by omega) c1 (by omega) hu hx
      · rw [if_neg c2, if_neg h5] at hv
        exact h.1 p q u v h1 h2 h3 c1 c2 hu hv
  · rw [g] at hu hv
    rw [if_neg (by omega), if_pos rfl] at hu
    injection hu with hu
    subst hu
    by_cases c2 : q = j
    · rw [if_pos c2] at hv
      injection hv with hv
      subst hv
      exact hlt
    · rw [if_neg c2, if_neg (by omega)] at hv
      exact h.2 q y v (by omega) h2 hy hv

theorem InsI.done {D : List α} {a i j : Nat} (h : InsI key D a i j) (hja : a ≤ j) (hji : j ≤ i) (hi : i < D.length) (he : j = a ∨ ∀ x y, D[j - 1]? = some x → D[j]? = some y → key x ≤ key y) : Ris key D a (i + 1) := by
  intro p q x y h1 h2 h3 hx hy
  by_cases c1 : p = j
  · subst c1
    exact Int.le_of_lt (h.2 q x y h2 (by omega) hx hy)
  · by_cases c2 : q = j
    · subst c2
      rcases he with e | e
      · omega
      · obtain ⟨z, hz⟩ : ∃ z, D[q - 1]? = some z := ⟨_, List.getElem?_eq_getElem (by omega)⟩
        have h5 := e z y hz hy
        by_cases c3 : p = q - 1
        · subst c3
          rw [hx] at hz
          injection hz with hz
          rw [hz]
          exact h5
        · have := h.1 p (q - 1) x z h1 (by omega) (by omega) c1 (by omega) hx hz
          omega
    · exact h.1 p q x y h1 h2 (by omega) c1 c2 hx hy

end

set_option linter.unusedVariables false

section
variable {α : Type} (key : α → Int)

/-- All from a to b rises but the one at k; it isn't below those ahead of it, nor below those up to i, nor above those from i on. -/
structure UpI (E : List α) (a b i k : Nat) : Prop where
  all : ∀ (p q : Nat) (x y : α), a ≤ p → p < q → q < b → p ≠ k → q ≠ k → E[p]? = some x → E[q]? = some y → key x ≤ key y
  bef : ∀ (p : Nat) (x y : α), a ≤ p → p < k → E[p]? = some x → E[k]? = some y → key x ≤ key y
  aft : ∀ (q : Nat) (x y : α), i ≤ q → q < b → E[k]? = some x → E[q]? = some y → key x ≤ key y
  mid : ∀ (q : Nat) (x y : α), k < q → q < i → E[q]? = some x → E[k]? = some y → key x ≤ key y

/-- The same from the other side. -/
structure DnI (E : List α) (a b i k : Nat) : Prop where
  all : ∀ (p q : Nat) (x y : α), a ≤ p → p < q → q < b → p ≠ k → q ≠ k → E[p]? = some x → E[q]? = some y → key x ≤ key y
  bef : ∀ (p : Nat) (x y : α), a ≤ p → p < i → E[p]? = some x → E[k]? = some y → key x ≤ key y
  aft : ∀ (q : Nat) (x y : α), k < q → q < b → E[k]? = some x → E[q]? = some y → key x ≤ key y
  mid : ∀ (p : Nat) (x y : α), i ≤ p → p < k → E[k]? = some x → E[p]? = some y → key x ≤ key y

variable {key}

theorem UpI.step {E : List α} {a b i k : Nat} {x y : α} (h : UpI key E a b i k) (hk : k + 1 < i) (ha : a ≤ k) (hib : i ≤ b) (hx : E[k]? = some x) (hy : E[k + 1]? = some y) : UpI key (swp E k (k + 1)) a b i (k + 1) := by
  have g := swp_get hx hy
  have gk : (swp E k (k + 1))[k + 1]? = some x := by rw [g, if_pos rfl]
  have gk0 : (swp E k (k + 1))[k]? = some y := by rw [g, if_neg (by omega), if_pos rfl]
  have go : ∀ p, p ≠ k → p ≠ k + 1 → (swp E k (k + 1))[p]? = E[p]? := fun p h1 h2 => by rw [g, if_neg h2, if_neg h1]
  refine ⟨fun p q u v h1 h2 h3 h4 h5 hu hv => ?_, fun p u v h1 h2 hu hv => ?_, fun q u v h1 h2 hu hv => ?_, fun q u v h1 h2 hu hv => ?_⟩
  · by_cases c1 : p = k
    · subst c1
      rw [gk0] at hu
      injection hu with hu
      subst hu
      rw [go q (by omega) h5] at hv
      exact h.all (p + 1) q y v (by omega) (by omega) h3 (by omega) (by omega) hy hv
    · rw [go p c1 h4] at hu
      by_cases c2 : q = k
      · subst c2
        rw [gk0] at hv
        injection hv with hv
        subst hv
        exact h.all p (q + 1) u y h1 (by omega) (by omega) (by omega) (by omega) hu hy
      · rw [go q c2 h5] at hv
        exact h.all p q u v h1 h2 h3 c1 c2 hu hv
  · rw [gk] at hv
    injection hv with hv
    subst hv
    by_cases c1 : p = k
    · subst c1
      rw [gk0] at hu
      injection hu with hu
      subst hu
      exact h.mid (p + 1) y x (by omega) hk hy hx
    · rw [go p c1 (by omega)] at hu
      exact h.bef p u x h1 (by omega) hu hx
  · rw [gk] at hu
    injection hu with hu
    subst hu
    rw [go q (by omega) (by omega)] at hv
    exact h.aft q x v h1 h2 hx hv
  · rw [gk] at hv
    injection hv with hv
    subst hv
    rw [go q (by omega) (by omega)] at hu
    exact h.mid q u x (by omega) h2 hu hx

theorem UpI.done {E : List α} {a b i k : Nat} (h : UpI key E a b i k) (hk : i ≤ k + 1) : Ris key E a b := fun p q x y h1 h2 h3 hx hy => by
  by_cases c1 : p = k
  · subst c1
    exact h.aft q x y (by omega) h3 hx hy
  · by_cases c2 : q = k
    · subst c2
      exact h.bef p x y h1 h2 hx hy
    · exact h.all p q x y h1 h2 h3 c1 c2 hx hy

theorem DnI.step {E : List α} {a b i k : Nat} {x y : α} (h : DnI key E a b i (k + 1)) (hk : i < k + 1) (ha : a ≤ i) (hkb : k + 1 < b) (hx : E[k]? = some x) (hy : E[k + 1]? = some y) : DnI key (swp E k (k + 1)) a b i k := by
  have g := swp_get hx hy
  have gk : (swp E k (k + 1))[k + 1]? = some x := by rw [g, if_pos rfl]
  have gk0 : (swp E k (k + 1))[k]? = some y := by rw [g, if_neg (by omega), if_pos rfl]
  have go : ∀ p, p ≠ k → p ≠ k + 1 → (swp E k (k + 1))[p]? = E[p]? := fun p h1 h2 => by rw [g, if_neg h2, if_neg h1]
  refine ⟨fun p q u v h1 h2 h3 h4 h5 hu hv => ?_, fun p u v h1 h2 hu hv => ?_, fun q u v h1 h2 hu hv => ?_, fun q u v h1 h2 hu hv => ?_⟩
  · by_cases c1 : p = k + 1
    · subst c1
      rw [gk] at hu
      injection hu with hu
      subst hu
      rw [go q (by omega) (by omega)] at hv
      exact h.all k q x v (by omega) (by omega) h3 (by omega) (by omega) hx hv
    · rw [go p h4 c1] at hu
      by_cases c2 : q = k + 1
      · subst c2
        rw [gk] at hv
        injection hv with hv
        subst hv
        exact h.all p k u x h1 (by omega) (by omega) (by omega) (by omega) hu hx
      · rw [go q h5 c2] at hv
        exact h.all p q u v h1 h2 h3 c1 c2 hu hv
  · rw [gk0] at hv
    injection hv with hv
    subst hv
    rw [go p (by omega) (by omega)] at hu
    exact h.bef p u y h1 h2 hu hy
  · rw [gk0] at hu
    injection hu with hu
    subst hu
    by_cases c1 : q = k + 1
    · subst c1
      rw [gk] at hv
      injection hv with hv
      subst hv
      exact h.mid k y x (by omega) (by omega) hy hx
    · rw [go q (by omega) c1] at hv
      exact h.aft q y v (by omega) h2 hy hv
  · rw [gk0] at hu
    injection hu with hu
    subst hu
    rw [go q (by omega) (by omega)] at hv
    exact h.mid q y v h1 (by omega) hy hv

theorem DnI.done {E : List α} {a b i k : Nat} (h : DnI key E a b i k) (hk : k ≤ i) : Ris key E a b := fun p q x y h1 h2 h3 hx hy => by
  by_cases c1 : p = k
  · subst c1
    exact h.aft q x y h2 h3 hx hy
  · by_cases c2 : q = k
    · subst c2
      exact h.bef p x y h1 (by omega) hx hy
    · exact h.all p q x y h1 h2 h3 c1 c2 hx hy

end

set_option linter.unusedSimpArgs false

/-- All blocks but one are as they were. -/
structure Rg (g : Nat) (w w' : World) : Prop where
  os : w'.os = w.os
  tape : w'.tape = w.tape
  output : w'.output = w.output
  size : w.heap.size ≤ w'.heap.size
  block : ∀ j, j < w.heap.size → j ≠ g → w'.heap[j]? = w.heap[j]?

theorem Rg.refl (g : Nat) (w : World) : Rg g w w := ⟨rfl, rfl, rfl, Nat.le_refl _, fun _ _ _ => rfl⟩

theorem Rg.trans {g : Nat} {w w1 w2 : World} (h : Rg g w w1) (k : Rg g w1 w2) : Rg g w w2 :=
  ⟨k.os.trans h.os, k.tape.trans h.tape, k.output.trans h.output, Nat.le_trans h.size k.size, fun j hj hn => (k.block j (Nat.lt_of_lt_of_le hj h.size) hn).trans (h.block j hj hn)⟩

theorem Rg.of_below {g : Nat} {w w' : World} (k : Below w.heap.size w w') : Rg g w w' := ⟨k.os, k.tape, k.output, k.size, fun j hj _ => k.block j hj⟩

theorem blkF_lt {w : World} {b : Nat} {o : Obj} (h : w.heap[b]? = some o) : b < w.heap.size := (Array.getElem?_eq_some_iff.1 h).1

/-- The function that says which is ahead; the swap. -/
abbrev lessV (bl : Nat) : Value := .func (.func 25) #[] #[.pointer (some ⟨bl, 0, none⟩)]
abbrev swapV (s0 s1 : Value) : Value := .func (.func 95) #[] #[s0, s1]
abbrev dataV (bl : Nat) (s0 s1 : Value) : Value := .agg #[lessV bl, swapV s0 s1]
abbrev dataO (bl : Nat) (s0 s1 : Value) : Obj := .cells #[lessV bl, swapV s0 s1] 93

/-- What is asked of both, where the row holds D. -/
structure SrtOk {α : Type} (key : α → Int) (g bl : Nat) (s0 s1 : Value) (St : List α → World → Prop) : Prop where
  grow : ∀ D W W', St D W → Below W.heap.size W W' → St D W'
  lt : ∀ D W, St D W → g < W.heap.size
  less : ∀ D W (i j : Nat) x y, St D W → D[i]? = some x → D[j]? = some y → Calls Tryz.prog 25 #[.int .i64 i, .int .i64 j, .pointer (some ⟨bl, 0, none⟩)] W fun e w' => e = .returned (.bool (decide (key x < key y))) ∧ Below W.heap.size W w'
  swap : ∀ D W (i j : Nat) x y, St D W → D[i]? = some x → D[j]? = some y → ∃ W', (callFunc 95 #[.int .i64 i, .int .i64 j, s0, s1]).run Tryz.prog W = .ok (.value (.tuple #[])) W' ∧ St (swp D i j) W' ∧ Rg g W W'

/-- The box of both, while the row is being sorted. -/
theorem box_kept {g bl : Nat} {s0 s1 : Value} {w wr : World} (hg : g < w.heap.size) (k : Rg g (w.alloc (dataO bl s0 s1)) wr) : wr.heap[w.heap.size]? = some (dataO bl s0 s1) :=
  (k.block w.heap.size (by simp) (by omega)).trans (alloc_new w _)

theorem box_rg {g bl : Nat} {s0 s1 : Value} {w wr : World} (k : Rg g (w.alloc (dataO bl s0 s1)) wr) : Rg g w wr := (Rg.of_below ((Below.refl _ _).alloc (Nat.le_refl _) _)).trans k

section
variable {α : Type} {key : α → Int} {g bl : Nat} {s0 s1 : Value} {St : List α → World → Prop}

set_option maxHeartbeats 4000000 in
set_option maxRecDepth 100000 in
theorem swapRangeF (O : SrtOk key g bl s0 s1 St) (a b n : Nat) (D : List α) (w : World) (h : St D w) (hab : a + n ≤ b) (hb : b + n ≤ D.length) (hD : D.length ≤ 1000000) :
    Calls Tryz.prog 132 #[dataV bl s0 s1, .int .i64 a, .int .i64 b, .int .i64 n] w fun e w' => e = .returned (.tuple #[]) ∧ ∃ E, SwapR D E a b n ∧ St E w' ∧ Rg g w w' := by
  have HO := toHid O
  have hg := O.lt D w h
  have H := toHid (O.grow D w (w.alloc (dataO bl s0 s1)) h ((Below.refl _ _).alloc (Nat.le_refl _) _))
  clear h O
  go_enter Tryz.func132, Tryz.ntmps132
  go_wp2_with fail
  go_loopg [8] n (fun m x8 wr => ∃ (i : Nat) (E : List α), i ≤ n ∧ n - i ≤ m ∧ x8 = .int .i64 i ∧ SwapR D E a b i ∧ St E wr ∧ Rg g (w.alloc (dataO bl s0 s1)) wr)
  case atStart => exact ⟨0, D, Nat.zero_le _, by omega, rfl, SwapR.zero D a b, H.out, Rg.refl _ _⟩
  case round =>
    obtain ⟨i, E, hi, hm, rfl, hS, hR, hk⟩ := hrel
    have hEl : E.length = D.length := hS.len
    by_cases hlt : i < n
    · have hil : (i : Int) < (n : Int) := by omega
      obtain ⟨x, hx⟩ : ∃ x, E[a + i]? = some x := ⟨_, List.getElem?_eq_getElem (by omega)⟩
      obtain ⟨y, hy⟩ : ∃ y, E[b + i]? = some y := ⟨_, List.getElem?_eq_getElem (by omega)⟩
      obtain ⟨W', hrun, hst, hrg⟩ := HO.out.swap E wr (a + i) (b + i) x y hR hx hy
      have ea : ((a + i : Nat) : Int) = (a : Int) + (i : Int) := by omega
      have eb : ((b + i : Nat) : Int) = (b : Int) + (i : Int) := by omega
      rw [ea, eb] at hrun
      have hbx := box_kept hg hk
      have x1 := cell_of hbx 1
      simp at x1
      have hbl := blkF_lt hbx
      have HS := toHid (hS.step (by omega) (by omega))
      have HST := toHid hst
      have HK := toHid (hk.trans hrg)
      clear hS hR hk hx hy hEl hst hrg hbx ea eb
      go_wp2_with fail
      go_roundg (n - (i + 1))
      case measure => omega
      case rel => exact ⟨i + 1, _, by omega, by omega, by go_num, HS.out, HST.out, HK.out⟩
    · have hil : i = n := by omega
      subst hil
      have HS := toHid hS
      have HR := toHid hR
      have HK := toHid (box_rg hk)
      clear hS hR hk hEl
      go_wp2_with fail
      go_end0
      exact ⟨rfl, E, HS.out, HR.out, HK.out⟩

set_option maxHeartbeats 4000000 in
set_option maxRecDepth 100000 in
theorem rotateF (O : SrtOk key g bl s0 s1 St) (a m b : Nat) (D : List α) (w : World) (h : St D w) (ham : a < m) (hmb : m < b) (hb : b ≤ D.length) (hD : D.length ≤ 1000000) :
    Calls Tryz.prog 122 #[dataV bl s0 s1, .int .i64 a, .int .i64 m, .int .i64 b] w fun e w' => e = .returned (.tuple #[]) ∧ ∃ E, RotR D E a m b ∧ St E w' ∧ Rg g w w' := by
  have HO := toHid O
  have hg := O.lt D w h
  have H := toHid (O.grow D w (w.alloc (dataO bl s0 s1)) h ((Below.refl _ _).alloc (Nat.le_refl _) _))
  have ei : (m : Int) - (a : Int) = ((m - a : Nat) : Int) := by omega
  have ej : (b : Int) - (m : Int) = ((b - m : Nat) : Int) := by omega
  have HEI := toHid ei
  have HEJ := toHid ej
  clear h ei ej O
  go_enter Tryz.func122, Tryz.ntmps122
  go_wp2_with fail
  go_loopg [8, 9] (b - a) (fun q x8 x9 wr => ∃ (i j : Nat) (E : List α), 0 < i ∧ 0 < j ∧ i ≤ m - a ∧ j ≤ b - m ∧ i + j ≤ q ∧ x8 = .int .i64 i ∧ x9 = .int .i64 j ∧ RotI D E a m b i j ∧ St E wr ∧ Rg g (w.alloc (dataO bl s0 s1)) wr)
  case atStart => exact ⟨m - a, b - m, D, by omega, by omega, Nat.le_refl _, Nat.le_refl _, by omega, by rw [← HEI.out], by rw [← HEJ.out], RotI.start D a m b (by omega) (by omega), H.out, Rg.refl _ _⟩
  case round =>
    obtain ⟨i, j, E, hi0, hj0, hi, hj, hq, rfl, rfl, hI, hR, hk⟩ := hrel
    have hEl : E.length = D.length := hI.len
    have e1 : (m : Int) - (i : Int) = ((m - i : Nat) : Int) := by omega
    have HS : Hid (∀ (n p q' : Nat), p + n ≤ q' → q' + n ≤ E.length → Calls Tryz.prog 132 #[dataV bl s0 s1, .int .i64 p, .int .i64 q', .int .i64 n] wr fun e w' => e = .returned (.tuple #[]) ∧ ∃ E', SwapR E E' p q' n ∧ St E' w' ∧ Rg g wr w') := fun n p q' c1 c2 => swapRangeF HO.out p q' n E wr hR c1 c2 (by omega)
    have hbx := box_kept hg hk
    have x0 := cell_of hbx 0
    have x1 := cell_of hbx 1
    simp at x0 x1
    have hbl := blkF_lt hbx
    have HI := toHid hI
    have HK := toHid hk
    have HE1 := toHid e1
    clear hI hR hk e1 hbx
    by_cases hij : i = j
    · subst hij
      have hne : ((i : Int) != (i : Int)) = false := by simp
      go_wp2_with fail
      rw [HE1.out]
      refine (HS.out i (m - i) m (by omega) (by omega)).mono ?_
      rintro e w1 ⟨rfl, E', hE, hR1, k1⟩
      have HX := toHid (HI.out.last hi hj (by omega) (by omega) hE)
      have HR1 := toHid hR1
      have HK1 := toHid (box_rg (HK.out.trans k1))
      clear hE hR1 k1 x0 x1
      go_wp2_with fail
      go_end0
      exact ⟨rfl, E', HX.out, HR1.out, HK1.out⟩
    · have hne : ((i : Int) != (j : Int)) = true := by simp; omega
      by_cases hlt : j < i
      · have hltI : (j : Int) < (i : Int) := by omega
        have e2 : (i : Int) - (j : Int) = ((i - j : Nat) : Int) := by omega
        have HE2 := toHid e2
        clear e2
        go_wp2_with fail
        rw [HE1.out]
        refine (HS.out j (m - i) m (by omega) (by omega)).mono ?_
        rintro e w1 ⟨rfl, E', hE, hR1, k1⟩
        have HX := toHid (HI.out.more hi hj (by omega) (by omega) hlt hE)
        have HR1 := toHid hR1
        have HK1 := toHid (HK.out.trans k1)
        clear hE hR1 k1 x0 x1
        go_wp2_with fail
        go_roundg (i - j + j)
        case measure => omega
        case rel => exact ⟨i - j, j, E', by omega, hj0, by omega, hj, Nat.le_refl _, by rw [← HE2.out], rfl, HX.out, HR1.out, HK1.out⟩
      · have hltI : ¬ (j : Int) < (i : Int) := by omega
        have e2 : (j : Int) - (i : Int) = ((j - i : Nat) : Int) := by omega
        have e3 : (m : Int) + (j : Int) - (i : Int) = ((m + j - i : Nat) : Int) := by omega
        have HE2 := toHid e2
        have HE3 := toHid e3
        clear e2 e3
        go_wp2_with fail
        rw [HE1.out, HE3.out]
        refine (HS.out i (m - i) (m + j - i) (by omega) (by omega)).mono ?_
        rintro e w1 ⟨rfl, E', hE, hR1, k1⟩
        have HX := toHid (HI.out.less hi hj (by omega) (by omega) (by omega) hE)
        have HR1 := toHid hR1
        have HK1 := toHid (HK.out.trans k1)
        clear hE hR1 k1 x0 x1
        go_wp2_with fail
        go_roundg (i + (j - i))
        case measure => omega
        case rel => exact ⟨i, j - i, E', hi0, by omega, hi, by omega, Nat.le_refl _, rfl, by rw [← HE2.out], HX.out, HR1.out, HK1.out⟩
end

set_option linter.unusedSimpArgs false

theorem swpF_comm {α : Type} {D : List α} {i j : Nat} {x y : α} (hx : D[i]? = some x) (hy : D[j]? = some y) (hij : i ≠ j) : swp D j i = swp D i j := by
  apply List.ext_getElem?
  intro k
  rw [swp_get hx hy, swp_get hy hx]
  by_cases h1 : k = i
  · subst h1; rw [if_pos rfl, if_neg hij, if_pos rfl]
  · rw [if_neg h1, if_neg h1]

section
variable {α : Type} {key : α → Int} {g bl : Nat} {s0 s1 : Value} {St : List α → World → Prop}

set_option maxHeartbeats 8000000 in
set_option maxRecDepth 100000 in
theorem insertionF (O : SrtOk key g bl s0 s1 St) (a b : Nat) (D : List α) (w : World) (h : St D w) (hab : a ≤ b) (hb : b ≤ D.length) (hD : D.length ≤ 1000000) :
    Calls Tryz.prog 96 #[dataV bl s0 s1, .int .i64 a, .int .i64 b] w fun e w' => e = .returned (.tuple #[]) ∧ ∃ E, MixS a b D E ∧ Ris key E a b ∧ St E w' ∧ Rg g w w' := by
  have HO := toHid O
  have hg := O.lt D w h
  have H := toHid (O.grow D w (w.alloc (dataO bl s0 s1)) h ((Below.refl _ _).alloc (Nat.le_refl _) _))
  clear h O
  go_enter Tryz.func96, Tryz.ntmps96
  go_wp2_with fail
  go_loopg [6, 7] (b - a) (fun q x6 x7 wr => ∃ (i : Nat) (E : List α), a + 1 ≤ i ∧ (i ≤ b ∨ i = a + 1) ∧ b - i ≤ q ∧ x6 = .int .i64 i ∧ MixS a b D E ∧ Ris key E a i ∧ St E wr ∧ Rg g (w.alloc (dataO bl s0 s1)) wr)
  case atStart => exact ⟨a + 1, D, Nat.le_refl _, .inr rfl, by omega, by go_num, MixS.refl _ _ _, Ris.one (Nat.le_refl _), H.out, Rg.refl _ _⟩
  case round =>
    obtain ⟨i, E, hai, hib, hq, rfl, hM, hS, hR, hk⟩ := hrel
    by_cases hlt : i < b
    · have hltI : (i : Int) < (b : Int) := by omega
      have HM := toHid hM
      have HS := toHid hS
      have HR := toHid hR
      have HK := toHid hk
      clear hM hS hR hk
      obtain ⟨w9, hw9⟩ : ∃ z, z = wr := ⟨_, rfl⟩
      subst hw9
      go_wp2_with fail
      go_loopg [7] (i - a) (fun q x7 wr => ∃ (j : Nat) (E : List α), a ≤ j ∧ j ≤ i ∧ j - a ≤ q ∧ x7 = .int .i64 j ∧ MixS a b D E ∧ InsI key E a i j ∧ St E wr ∧ Rg g (w.alloc (dataO bl s0 s1)) wr)
      case atStart => exact ⟨i, E, by omega, Nat.le_refl _, Nat.le_refl _, rfl, HM.out, InsI.start HS.out, HR.out, HK.out⟩
      case round =>
        clear HM HS HR HK
        obtain ⟨j, E, haj, hji, hq2, rfl, hM, hI, hR, hk⟩ := hrel
        have hEl : E.length = D.length := hM.1
        have hbx := box_kept hg hk
        have x0 := cell_of hbx 0
        have x1 := cell_of hbx 1
        simp at x0 x1
        have hbl := blkF_lt hbx
        by_cases hja : a < j
        · have hjaI : (a : Int) < (j : Int) := by omega
          obtain ⟨k, hkj⟩ : ∃ k, k = j - 1 := ⟨_, rfl⟩
          obtain ⟨x, hx⟩ : ∃ x, E[k]? = some x := ⟨_, List.getElem?_eq_getElem (by omega)⟩
          obtain ⟨y, hy⟩ : ∃ y, E[j]? = some y := ⟨_, List.getElem?_eq_getElem (by omega)⟩
          have ek : ((k : Nat) : Int) = (j : Int) - 1 := by omega
          have hl := HO.out.less E wr j k y x hR hy hx
          rw [ek] at hl
          have HL := toHid hl
          have HM := toHid hM
          have HI := toHid hI
          have HR := toHid hR
          have HK := toHid hk
          have HX := toHid hx
          have HY := toHid hy
          have HKJ := toHid hkj
          have HEK := toHid ek
          have HBX := toHid hbx
          clear hM hI hR hk hx hy hl hkj ek hbx hEl
          go_wp2_with fail
          refine HL.out.mono ?_
          rintro e u1 ⟨rfl, k1⟩
          have HR1 := toHid (HO.out.grow E wr u1 HR.out k1)
          have HK1 := toHid (HK.out.trans (Rg.of_below k1))
          have hbx1 := (k1.block _ hbl).trans HBX.out
          clear x0 x1 hbl k1
          have x1 := cell_of hbx1 1
          simp at x1
          have hbl := blkF_lt hbx1
          clear hbx1
          by_cases hlt2 : key y < key x
          · rw [decide_eq_true hlt2]
            obtain ⟨W', hrun, hst, hrg⟩ := HO.out.swap E u1 j k y x HR1.out HY.out HX.out
            rw [HEK.out] at hrun
            have hkj := HKJ.out
            have hx0 : E[j - 1]? = some x := by rw [← hkj]; exact HX.out
            have HI2 := toHid (HI.out.step hja hji hx0 HY.out hlt2)
            have HM2 := toHid (HM.out.trans (swp_mix (a := a) (b := b) hx0 HY.out (by omega) (by omega) (by omega)))
            have HST : Hid (St (swp E (j - 1) j) W') := by
              rw [← hkj, ← swpF_comm HX.out HY.out (by omega)]
              exact hst
            have HK2 := toHid (HK1.out.trans hrg)
            clear hst hrg hx0 hkj hlt2
            go_wp2_with fail
            go_roundg (j - 1 - a)
            case measure => omega
            case rel => exact ⟨j - 1, _, by omega, by omega, Nat.le_refl _, by have := HEK.out; go_num, HM2.out, HI2.out, HST.out, HK2.out⟩
          · rw [decide_eq_false hlt2]
            have HD := toHid (HI.out.done (by omega) hji (by have := HM.out.1; omega) (.inr fun x' y' hx' hy' => by
              have hkj := HKJ.out
              rw [← hkj, HX.out] at hx'
              rw [HY.out] at hy'
              injection hx' with hx'
              injection hy' with hy'
              subst hx' hy'
              omega))
            clear hlt2
            go_wp2_with fail
            go_roundg (b - (i + 1))
            case measure => omega
            case rel => exact ⟨i + 1, E, by omega, .inl (by omega), Nat.le_refl _, by go_num, HM.out, HD.out, HR1.out, HK1.out⟩
        · have hjaI : ¬ (a : Int) < (j : Int) := by omega
          have HD := toHid (hI.done (by omega) hji (by omega) (.inl (by omega)))
          have HM := toHid hM
          have HR := toHid hR
          have HK := toHid hk
          clear hM hI hR hk hEl hbx
          go_wp2_with fail
          go_roundg (b - (i + 1))
          case measure => omega
          case rel => exact ⟨i + 1, E, by omega, .inl (by omega), Nat.le_refl _, by go_num, HM.out, HD.out, HR.out, HK.out⟩
    · have HS : Hid (Ris key E a b) := by
        rcases hib with h | h
        · have : i = b := by omega
          subst this
          exact hS
        · exact Ris.one (by omega)
      have hltI : ¬ (i : Int) < (b : Int) := by omega
      have HM := toHid hM
      have HR := toHid hR
      have HK := toHid (box_rg hk)
      clear hM hS hR hk
      go_wp2_with fail
      go_end0
      exact ⟨rfl, E, HM.out, HS.out, HR.out, HK.out⟩
end

set_option linter.unusedSimpArgs false

section
variable {α : Type} {key : α → Int} {g bl : Nat} {s0 s1 : Value} {St : List α → World → Prop}

set_option maxHeartbeats 8000000 in
set_option maxRecDepth 100000 in
theorem sym1F (O : SrtOk key g bl s0 s1 St) (a m b : Nat) (D : List α) (w : World) (h : St D w) (hma : m = a + 1) (hmb : m < b) (hb : b ≤ D.length) (hD : D.length ≤ 1000000) (hS2 : Ris key D m b) :
    Calls Tryz.prog 97 #[dataV bl s0 s1, .int .i64 a, .int .i64 m, .int .i64 b] w fun e w' => e = .returned (.tuple #[]) ∧ ∃ E, MixS a b D E ∧ Ris key E a b ∧ St E w' ∧ Rg g w w' := by
  have HO := toHid O
  have hg := O.lt D w h
  have H := toHid (O.grow D w (w.alloc (dataO bl s0 s1)) h ((Below.refl _ _).alloc (Nat.le_refl _) _))
  have e1 : (m : Int) - (a : Int) = 1 := by omega
  have HMA := toHid hma
  have HS2 := toHid hS2
  obtain ⟨x, hx⟩ : ∃ x, D[a]? = some x := ⟨_, List.getElem?_eq_getElem (by omega)⟩
  have Hx := toHid hx
  clear h hma hS2 hx O
  go_enter Tryz.func97, Tryz.ntmps97
  go_wp2_with fail
  go_loopg [8, 9, 10] (b - m) (fun q x8 x9 x10 wr => ∃ (i j : Nat), m ≤ i ∧ i ≤ j ∧ j ≤ b ∧ j - i ≤ q ∧ x8 = .int .i64 i ∧ x9 = .int .i64 j ∧ (∀ k y, m ≤ k → k < i → D[k]? = some y → key y ≤ key x) ∧ (∀ k y, j ≤ k → k < b → D[k]? = some y → key x ≤ key y) ∧ St D wr ∧ Rg g (w.alloc (dataO bl s0 s1)) wr)
  case atStart => exact ⟨m, b, Nat.le_refl _, by omega, Nat.le_refl _, Nat.le_refl _, rfl, rfl, fun k y h1 h2 => by omega, fun k y h1 h2 => by omega, H.out, Rg.refl _ _⟩
  case round =>
    obtain ⟨i, j, hmi, hij, hjb, hq, rfl, rfl, hlo, hhi, hR, hk⟩ := hrel
    have HLO := toHid hlo
    have HHI := toHid hhi
    have HR := toHid hR
    have HK := toHid hk
    have hbx := box_kept hg hk
    have x0 := cell_of hbx 0
    simp at x0
    have hbl := blkF_lt hbx
    clear hlo hhi hR hk hbx
    by_cases hlt : i < j
    · obtain ⟨c, hcm⟩ : ∃ c, c = (i + j) / 2 := ⟨_, rfl⟩
      have hmid : ((i : Int) + (j : Int)) / 2 = (c : Int) := by omega
      have hic : i ≤ c := by omega
      have hcj : c < j := by omega
      clear hcm
      have hltI : (i : Int) < (j : Int) := by omega
      obtain ⟨y, hy⟩ : ∃ y, D[c]? = some y := ⟨_, List.getElem?_eq_getElem (by omega)⟩
      have Hy := toHid hy
      have HL := toHid (HO.out.less D wr c a y x HR.out hy Hx.out)
      clear hy
      go_wp2_with fail
      refine HL.out.mono ?_
      rintro e u1 ⟨rfl, k1⟩
      have HR2 := toHid (HO.out.grow D wr u1 HR.out k1)
      have HK2 := toHid (HK.out.trans (Rg.of_below k1))
      clear k1 x0 hbl
      by_cases hyx : key y < key x
      · rw [decide_eq_true hyx]
        have HYX := toHid hyx
        clear hyx
        go_wp2_with fail
        go_roundg (j - (c + 1))
        case measure => omega
        case rel =>
          refine ⟨c + 1, j, by omega, by omega, hjb, Nat.le_refl _, by go_num, rfl, fun k z h1 h2 hz => ?_, HHI.out, HR2.out, HK2.out⟩
          have h3 := HYX.out
          by_cases hkc : k = c
          · subst hkc
            rw [Hy.out] at hz
            injection hz with hz
            subst hz
            omega
          · have := HS2.out k c z y h1 (by omega) (by omega) hz Hy.out
            omega
      · rw [decide_eq_false hyx]
        have HYX := toHid hyx
        clear hyx
        go_wp2_with fail
        go_roundg (c - i)
        case measure => omega
        case rel =>
          refine ⟨i, c, hmi, hic, by omega, Nat.le_refl _, rfl, rfl, HLO.out, fun k z h1 h2 hz => ?_, HR2.out, HK2.out⟩
          have h3 := HYX.out
          by_cases hkc : k = c
          · subst hkc
            rw [Hy.out] at hz
            injection hz with hz
            subst hz
            omega
          · have := HS2.out c k y z (by omega) (by omega) h2 Hy.out hz
            omega
    · have hij' : j = i := by omega
      subst hij'
      have hltI : ¬ (j : Int) < (j : Int) := by omega
      have hU : UpI key D a b j a := by
        have hma := HMA.out
        refine ⟨fun p q u v h1 h2 h3 h4 h5 hu hv => HS2.out p q u v (by omega) h2 h3 hu hv, fun p u v h1 h2 => by omega, fun q u v h1 h2 hu hv => ?_, fun q u v h1 h2 hu hv => ?_⟩
        · rw [Hx.out] at hu
          injection hu with hu
          subst hu
          exact HHI.out q v h1 h2 hv
        · rw [Hx.out] at hv
          injection hv with hv
          subst hv
          exact HLO.out q u (by omega) h2 hu
      have HU := toHid hU
      have haj : a + 1 ≤ j := by have := HMA.out; omega
      have hj1 : wrap64 ((j : Int) - 1) = (((j - 1 : Nat)) : Int) := (IntWalk.wrap64_in _ ⟨by omega, by omega⟩).trans (by omega)
      clear hU hltI x0 hbl
      go_wp2_with fail
      obtain ⟨wo, hwo⟩ : ∃ z, z = wr := ⟨_, rfl⟩
      subst hwo
      go_loopg [11] (j - a) (fun q x11 wr => ∃ (k : Nat) (E : List α), a ≤ k ∧ k + 1 ≤ j ∧ j - k ≤ q ∧ x11 = .int .i64 k ∧ MixS a b D E ∧ UpI key E a b j k ∧ St E wr ∧ Rg g (w.alloc (dataO bl s0 s1)) wr)
      case atStart => exact ⟨a, D, Nat.le_refl _, haj, Nat.le_refl _, rfl, MixS.refl _ _ _, HU.out, HR.out, HK.out⟩
      case round =>
        clear HR HK HU
        obtain ⟨k, E, hak, hkj, hq2, rfl, hM, hI, hR, hk⟩ := hrel
        have hEl : E.length = D.length := hM.1
        by_cases hlt2 : k + 1 < j
        · have hl2 : (k : Int) < (j : Int) - 1 := by omega
          obtain ⟨u, hu⟩ : ∃ u, E[k]? = some u := ⟨_, List.getElem?_eq_getElem (by omega)⟩
          obtain ⟨v, hv⟩ : ∃ v, E[k + 1]? = some v := ⟨_, List.getElem?_eq_getElem (by omega)⟩
          obtain ⟨W', hrun, hst, hrg⟩ := HO.out.swap E wr k (k + 1) u v hR hu hv
          have ek : ((k + 1 : Nat) : Int) = (k : Int) + 1 := by omega
          rw [ek] at hrun
          have HI2 := toHid (hI.step hlt2 hak hjb hu hv)
          have HM2 := toHid (hM.trans (swp_mix (a := a) (b := b) hu hv (by omega) (by omega) (by omega)))
          have HST := toHid hst
          have HK := toHid (hk.trans hrg)
          have hbx := box_kept hg hk
          have x1 := cell_of hbx 1
          simp at x1
          have hbl := blkF_lt hbx
          clear hM hI hR hk hu hv hEl hst hrg hbx ek
          go_wp2_with fail
          go_roundg (j - (k + 1))
          case measure => omega
          case rel => exact ⟨k + 1, _, by omega, by omega, Nat.le_refl _, by go_num, HM2.out, HI2.out, HST.out, HK.out⟩
        · have hl2 : ¬ (k : Int) < (j : Int) - 1 := by omega
          have HD := toHid (hI.done (by omega))
          have HM := toHid hM
          have HR := toHid hR
          have HK := toHid (box_rg hk)
          clear hM hI hR hk hEl
          go_wp2_with fail
          first | go_end0 | (simp only [Exit.inBlock, Exit.then]; refine bodyPost_ret (results_none rfl _ _ _) rfl ?_) | refine bodyPost_ret (results_none rfl _ _ _) rfl ?_
          exact ⟨rfl, E, HM.out, HD.out, HR.out, HK.out⟩

set_option maxHeartbeats 8000000 in
set_option maxRecDepth 100000 in
theorem sym2F (O : SrtOk key g bl s0 s1 St) (a m b : Nat) (D : List α) (w : World) (h : St D w) (ham : a + 2 ≤ m) (hbm : b = m + 1) (hb : b ≤ D.length) (hD : D.length ≤ 1000000) (hS1 : Ris key D a m) :
    Calls Tryz.prog 97 #[dataV bl s0 s1, .int .i64 a, .int .i64 m, .int .i64 b] w fun e w' => e = .returned (.tuple #[]) ∧ ∃ E, MixS a b D E ∧ Ris key E a b ∧ St E w' ∧ Rg g w w' := by
  have HO := toHid O
  have hg := O.lt D w h
  have H := toHid (O.grow D w (w.alloc (dataO bl s0 s1)) h ((Below.refl _ _).alloc (Nat.le_refl _) _))
  have e1 : ((m : Int) - (a : Int) == 1) = false := beq_eq_false_iff_ne.2 (by omega)
  have e2 : (b : Int) - (m : Int) = 1 := by omega
  have HBM := toHid hbm
  have HS1 := toHid hS1
  obtain ⟨x, hx⟩ : ∃ x, D[m]? = some x := ⟨_, List.getElem?_eq_getElem (by omega)⟩
  have Hx := toHid hx
  have hbl2 : b ≤ 1000000 := by omega
  clear h hbm hS1 hx O
  go_enter Tryz.func97, Tryz.ntmps97
  go_wp2_with fail
  go_loopg [12, 13, 14] (m - a) (fun q x12 x13 x14 wr => ∃ (i j : Nat), a ≤ i ∧ i ≤ j ∧ j ≤ m ∧ j - i ≤ q ∧ x12 = .int .i64 i ∧ x13 = .int .i64 j ∧ (∀ k y, a ≤ k → k < i → D[k]? = some y → key y ≤ key x) ∧ (∀ k y, j ≤ k → k < m → D[k]? = some y → key x ≤ key y) ∧ St D wr ∧ Rg g (w.alloc (dataO bl s0 s1)) wr)
  case atStart => exact ⟨a, m, Nat.le_refl _, by omega, Nat.le_refl _, Nat.le_refl _, rfl, rfl, fun k y h1 h2 => by omega, fun k y h1 h2 => by omega, H.out, Rg.refl _ _⟩
  case round =>
    obtain ⟨i, j, hai, hij, hjm, hq, rfl, rfl, hlo, hhi, hR, hk⟩ := hrel
    have HLO := toHid hlo
    have HHI := toHid hhi
    have HR := toHid hR
    have HK := toHid hk
    have hbx := box_kept hg hk
    have x0 := cell_of hbx 0
    simp at x0
    have hbl := blkF_lt hbx
    clear hlo hhi hR hk hbx
    by_cases hlt : i < j
    · obtain ⟨c, hcm⟩ : ∃ c, c = (i + j) / 2 := ⟨_, rfl⟩
      have hmid : ((i : Int) + (j : Int)) / 2 = (c : Int) := by omega
      have hic : i ≤ c := by omega
      have hcj : c < j := by omega
      clear hcm
      have hltI : (i : Int) < (j : Int) := by omega
      obtain ⟨y, hy⟩ : ∃ y, D[c]? = some y := ⟨_, List.getElem?_eq_getElem (by omega)⟩
      have Hy := toHid hy
      have HL := toHid (HO.out.less D wr m c x y HR.out Hx.out hy)
      clear hy
      go_wp2_with fail
      refine HL.out.mono ?_
      rintro e u1 ⟨rfl, k1⟩
      have HR2 := toHid (HO.out.grow D wr u1 HR.out k1)
      have HK2 := toHid (HK.out.trans (Rg.of_below k1))
      clear k1 x0 hbl
      by_cases hyx : key x < key y
      · rw [decide_eq_true hyx]
        have HYX := toHid hyx
        clear hyx
        go_wp2_with fail
        go_roundg (c - i)
        case measure => omega
        case rel =>
          refine ⟨i, c, hai, hic, by omega, Nat.le_refl _, rfl, rfl, HLO.out, fun k z h1 h2 hz => ?_, HR2.out, HK2.out⟩
          have h3 := HYX.out
          by_cases hkc : k = c
          · subst hkc
            rw [Hy.out] at hz
            injection hz with hz
            subst hz
            omega
          · have := HS1.out c k y z (by omega) (by omega) h2 Hy.out hz
            omega
      · rw [decide_eq_false hyx]
        have HYX := toHid hyx
        clear hyx
        go_wp2_with fail
        go_roundg (j - (c + 1))
        case measure => omega
        case rel =>
          refine ⟨c + 1, j, by omega, by omega, hjm, Nat.le_refl _, by go_num, rfl, fun k z h1 h2 hz => ?_, HHI.out, HR2.out, HK2.out⟩
          have h3 := HYX.out
          by_cases hkc : k = c
          · subst hkc
            rw [Hy.out] at hz
            injection hz with hz
            subst hz
            omega
          · have := HS1.out k c z y h1 (by omega) (by omega) hz Hy.out
            omega
    · have hij' : j = i := by omega
      subst hij'
      have hltI : ¬ (j : Int) < (j : Int) := by omega
      have hU : DnI key D a b j m := by
        have hbm := HBM.out
        refine ⟨fun p q u v h1 h2 h3 h4 h5 hu hv => HS1.out p q u v h1 h2 (by omega) hu hv, fun p u v h1 h2 hu hv => ?_, fun q u v h1 h2 => by omega, fun q u v h1 h2 hu hv => ?_⟩
        · rw [Hx.out] at hv
          injection hv with hv
          subst hv
          exact HLO.out p u h1 h2 hu
        · rw [Hx.out] at hu
          injection hu with hu
          subst hu
          exact HHI.out q v h1 h2 hv
      have HU := toHid hU
      clear hU hltI x0 hbl
      go_wp2_with fail
      obtain ⟨wo, hwo⟩ : ∃ z, z = wr := ⟨_, rfl⟩
      subst hwo
      go_loopg [15] (m - j) (fun q x15 wr => ∃ (k : Nat) (E : List α), j ≤ k ∧ k ≤ m ∧ k - j ≤ q ∧ x15 = .int .i64 k ∧ MixS a b D E ∧ DnI key E a b j k ∧ St E wr ∧ Rg g (w.alloc (dataO bl s0 s1)) wr)
      case atStart => exact ⟨m, D, hjm, Nat.le_refl _, Nat.le_refl _, rfl, MixS.refl _ _ _, HU.out, HR.out, HK.out⟩
      case round =>
        clear HR HK HU
        obtain ⟨k, E, hjk, hkm, hq2, rfl, hM, hI, hR, hk⟩ := hrel
        have hEl : E.length = D.length := hM.1
        have hbm := HBM.out
        by_cases hlt2 : j < k
        · have hl2 : (j : Int) < (k : Int) := by omega
          obtain ⟨l, hlk⟩ : ∃ l, k = l + 1 := ⟨k - 1, by omega⟩
          obtain ⟨u, hu⟩ : ∃ u, E[k]? = some u := ⟨_, List.getElem?_eq_getElem (by omega)⟩
          obtain ⟨v, hv⟩ : ∃ v, E[l]? = some v := ⟨_, List.getElem?_eq_getElem (by omega)⟩
          obtain ⟨W', hrun, hst, hrg⟩ := HO.out.swap E wr k l u v hR hu hv
          have el : ((l : Nat) : Int) = (k : Int) - 1 := by omega
          rw [el] at hrun
          have hu' : E[l + 1]? = some u := by rw [← hlk]; exact hu
          rw [hlk] at hI
          have HI2 := toHid (hI.step (by omega) hai (by omega) hv hu')
          have HM2 := toHid (hM.trans (swp_mix (a := a) (b := b) hv hu' (by omega) (by omega) (by omega)))
          have HST : Hid (St (swp E l (l + 1)) W') := by
            rw [← swpF_comm hv hu' (by omega), ← hlk]
            exact hst
          have HK := toHid (hk.trans hrg)
          have hbx := box_kept hg hk
          have x1 := cell_of hbx 1
          simp at x1
          have hbl := blkF_lt hbx
          have HLK := toHid hlk
          have HEL := toHid el
          clear hM hI hR hk hu hu' hv hEl hlk hbm hst hrg hbx el
          go_wp2_with fail
          go_roundg (l - j)
          case measure => have := HLK.out; omega
          case rel => exact ⟨l, _, by have := HLK.out; omega, by have := HLK.out; omega, Nat.le_refl _, by have := HEL.out; go_num, HM2.out, HI2.out, HST.out, HK.out⟩
        · have hl2 : ¬ (j : Int) < (k : Int) := by omega
          have HD := toHid (hI.done (by omega))
          have HM := toHid hM
          have HR := toHid hR
          have HK := toHid (box_rg hk)
          clear hM hI hR hk hEl hbm
          go_wp2_with fail
          first | go_end0 | (simp only [Exit.inBlock, Exit.then]; refine bodyPost_ret (results_none rfl _ _ _) rfl ?_) | refine bodyPost_ret (results_none rfl _ _ _) rfl ?_
          exact ⟨rfl, E, HM.out, HD.out, HR.out, HK.out⟩
end
end Go.Proofs.YtbjkpbeijkmoeaaGreatDoor
