/-
  What is proved here: what the texts GCopy1, GOpen, GOpen2 prove, in one text.
-/
import Derived.Test.YthbbapimedlocaaGreatDoorQPAI
import Derived.Test.YthbbapimedlocaaGreatDoorQPAA
namespace Go.Proofs.YthbbapimedlocaaGreatDoor
open Go.RowKit
set_option linter.unusedVariables false

/-- A list whose values' own lists are still to be copied: its block, its room, its values. -/
structure Pd where
  g : Nat
  cap : Nat
  L : List T

def Pd.val (p : Pd) : Value := .slice (some ⟨p.g, 0, none⟩) p.L.length p.cap
def pdVals (P : List Pd) : List Value := P.map Pd.val

def pdW : List Pd → Nat
  | [] => 0
  | p :: r => wtL p.L + pdW r

theorem pdW_append : ∀ (P Q : List Pd), pdW (P ++ Q) = pdW P + pdW Q
  | [], Q => by simp [pdW]
  | p :: P, Q => by
    have := pdW_append P Q
    simp only [List.cons_append, pdW]
    omega

theorem wt_pos : ∀ (L : List T), 1 ≤ wtL L
  | [] => by unfold wtL; exact Nat.le_refl _
  | t :: ts => by
    have := wt_pos ts
    unfold wtL
    omega

theorem pd_length : ∀ (P : List Pd), P.length ≤ pdW P
  | [] => Nat.le_refl _
  | p :: P => by
    have := pd_length P
    have := wt_pos p.L
    simp only [List.length_cons, pdW]
    omega

/-- The slice of a value's list, copied. -/
def NewS (news : List Pd) (Lt : List T) (v : Value) : Prop := (Lt = [] ∧ v = .slice none 0 0) ∨ ∃ q ∈ news, q.L = Lt ∧ Lt.length ≤ 9223372036854775807 ∧ ∃ c', v = .slice (some ⟨q.g, 0, none⟩) Lt.length c' ∧ Lt.length ≤ c'

/-- A block with values: the first so many have copied lists, the others those of the world W. -/
def Mix (W w : World) (g : Nat) (L : List T) (i : Nat) (news : List Pd) : Prop :=
  ∃ cu : Array Value, w.heap[g]? = some (.cells cu 60 (0, 0)) ∧ ∀ (j : Nat) (k n : Int) (s : ByteArray) (Lt : List T), L[j]? = some (.node k n s Lt) → s.size ≤ 9223372036854775807 ∧ cu[j * 4]? = some (.int .i64 k) ∧ cu[j * 4 + 1]? = some (.int .i64 n) ∧ cu[j * 4 + 2]? = some (.string s) ∧ ∃ v, cu[j * 4 + 3]? = some v ∧ (j < i → NewS news Lt v) ∧ (i ≤ j → ∃ a l c, v = .slice a l c ∧ l ≤ c ∧ LiesS W Lt a l)

theorem NewS.more {news news' : List Pd} {Lt : List T} {v : Value} (h : NewS news Lt v) (hs : ∀ q ∈ news, q ∈ news') : NewS news' Lt v := by
  rcases h with h | ⟨q, hq, h⟩
  · exact .inl h
  · exact .inr ⟨q, hs q hq, h⟩

theorem Mix.kept {W w w' : World} {g : Nat} {L : List T} {i : Nat} {news : List Pd} (h : Mix W w g L i news) (e : w'.heap[g]? = w.heap[g]?) : Mix W w' g L i news := by
  obtain ⟨cu, h1, h2⟩ := h
  exact ⟨cu, e.trans h1, h2⟩

theorem Mix.put {W w w' : World} {g : Nat} {L : List T} {i : Nat} {news news' : List Pd} {k n : Int} {s : ByteArray} {Lt : List T} {v : Value} (h : Mix W w g L i news) (hi : L[i]? = some (.node k n s Lt)) (hn : NewS news' Lt v) (hs : ∀ q ∈ news, q ∈ news')
    (hw : ∀ cu, w.heap[g]? = some (.cells cu 60 (0, 0)) → ∃ cu', w'.heap[g]? = some (.cells cu' 60 (0, 0)) ∧ (∀ x, x ≠ i * 4 + 3 → cu'[x]? = cu[x]?) ∧ (i * 4 + 3 < cu.size → cu'[i * 4 + 3]? = some v)) : Mix W w' g L (i + 1) news' := by
  obtain ⟨cu, h1, h2⟩ := h
  obtain ⟨cu', h3, h4, h5⟩ := hw cu h1
  refine ⟨cu', h3, fun j k' n' s' Lt' hj => ?_⟩
  obtain ⟨a0, a1, a2, a3, v0, a4, a5, a6⟩ := h2 j k' n' s' Lt' hj
  refine ⟨a0, (h4 _ (by omega)).trans a1, (h4 _ (by omega)).trans a2, (h4 _ (by omega)).trans a3, ?_⟩
  by_cases hji : j = i
  · subst hji
    rw [hi] at hj
    injection hj with hj
    injection hj with e1 e2 e3 e4
    subst e4
    exact ⟨v, h5 (Array.getElem?_eq_some_iff.1 a4).1, fun _ => hn, fun h => by omega⟩
  · refine ⟨v0, (h4 _ (by omega)).trans a4, fun h => (a5 (by omega)).more hs, fun h => a6 (by omega)⟩

/-- The whole is right, once what is still open is. -/
def Whole (W w : World) (L0 : List T) (g0 : Nat) (P : List Pd) (D : Nat → Prop) : Prop :=
  ∀ w' : World, w.heap.size ≤ w'.heap.size → (∀ i, D i → w'.heap[i]? = w.heap[i]?) → (∀ p ∈ P, LieA (fun i => W.heap.size ≤ i) w' p.L (some ⟨p.g, 0, none⟩) p.L.length) → LieA (fun i => W.heap.size ≤ i) w' L0 (some ⟨g0, 0, none⟩) L0.length

theorem Whole.kept {W w w1 : World} {L0 : List T} {g0 : Nat} {P : List Pd} {D : Nat → Prop} (h : Whole W w L0 g0 P D) (hz : w.heap.size ≤ w1.heap.size) (hD : ∀ i, D i → w1.heap[i]? = w.heap[i]?) : Whole W w1 L0 g0 P D :=
  fun w' z d p => h w' (Nat.le_trans hz z) (fun i hi => (d i hi).trans (hD i hi)) p

/-- A block all of whose lists are copied is a list of its own. -/
theorem mix_lie {W w w' : World} {g : Nat} {L : List T} {news : List Pd} (h : Mix W w g L L.length news) (hl : L.length ≤ 9223372036854775807) (hg : W.heap.size ≤ g) (hg' : g < w'.heap.size) (e : w'.heap[g]? = w.heap[g]?) (hn : ∀ q ∈ news, LieA (fun i => W.heap.size ≤ i) w' q.L (some ⟨q.g, 0, none⟩) q.L.length) :
    LieA (fun i => W.heap.size ≤ i) w' L (some ⟨g, 0, none⟩) L.length := by
  obtain ⟨cu, h1, h2⟩ := h.kept e
  have cell : ∀ o v, cu[o]? = some v → w'.cell? ⟨g, o, none⟩ = some v := fun o v hv => (cell_of h1 o).trans hv
  have all : ∀ m, m ≤ L.length → LieA (fun i => W.heap.size ≤ i) w' (L.drop (L.length - m)) (some ⟨g, (L.length - m) * 4, none⟩) m := by
    intro m
    induction m with
    | zero =>
      intro _
      rw [Nat.sub_zero, List.drop_length]
      unfold LieA
      rfl
    | succ m ih =>
      intro hm
      have ih := ih (by omega)
      obtain ⟨j, hj⟩ : ∃ j, j = L.length - (m + 1) := ⟨_, rfl⟩
      have hj' : L.length - m = j + 1 := by omega
      have hjl : j < L.length := by omega
      have hm63 : m + 1 ≤ 9223372036854775807 := by omega
      have hlen : (L.drop (j + 1)).length = m := by rw [List.length_drop]; omega
      rw [← hj]
      rw [hj'] at ih
      obtain ⟨t, ht, hd⟩ := drop_get (L := L) (i := j) (by omega)
      obtain ⟨k, n, s, Lt⟩ := t
      obtain ⟨a0, a1, a2, a3, v, a4, a5, _⟩ := h2 j k n s Lt ht
      rw [hd]
      unfold LieA
      refine ⟨g, j * 4, rfl, by rw [hlen], hm63, hg, hg', ?_, ?_⟩
      · unfold LieT
        refine ⟨a0, ?_⟩
        have hN := a5 hjl
        rcases hN with ⟨rfl, rfl⟩ | ⟨q, hq, rfl, _, c', rfl, hc'⟩
        · exact ⟨none, 0, 0, cell _ _ a1, cell _ _ a2, cell _ _ a3, cell _ _ a4, Nat.le_refl _, by unfold LieA; rfl⟩
        · exact ⟨_, _, c', cell _ _ a1, cell _ _ a2, cell _ _ a3, cell _ _ a4, hc', hn q hq⟩
      · rw [hlen]
        rw [show j * 4 + 4 = (j + 1) * 4 from by omega]
        exact ih
  have := all L.length (Nat.le_refl _)
  rw [Nat.sub_self, List.drop_zero, Nat.zero_mul] at this
  exact this

theorem Whole.next {W w : World} {L0 : List T} {g0 : Nat} {P news : List Pd} {p : Pd} {D : Nat → Prop} (h : Whole W w L0 g0 (P ++ [p]) D) (hm : Mix W w p.g p.L p.L.length news) (hl : p.L.length ≤ 9223372036854775807) (hg : W.heap.size ≤ p.g) (hg' : p.g < w.heap.size) : Whole W w L0 g0 (P ++ news) (fun i => D i ∨ i = p.g) := by
  intro w' z d hp
  refine h w' z (fun i hi => d i (.inl hi)) fun q hq => ?_
  rcases List.mem_append.1 hq with hq | hq
  · exact hp q (List.mem_append_left _ hq)
  · obtain rfl := List.mem_singleton.1 hq
    exact mix_lie hm hl hg (by omega) (d _ (.inr rfl)) (fun r hr => hp r (List.mem_append_right _ hr))

/-- Nothing on the stack lies in another's way. -/
structure Sep (W w : World) (P : List Pd) (D : Nat → Prop) (sb : Nat) : Prop where
  pend : ∀ p ∈ P, W.heap.size ≤ p.g ∧ p.g < w.heap.size ∧ p.g ≠ sb ∧ ¬ D p.g ∧ 0 < p.L.length ∧ p.L.length ≤ 9223372036854775807 ∧ Mix W w p.g p.L 0 []
  once : (P.map Pd.g).Nodup
  done : ∀ i, D i → i < w.heap.size ∧ i ≠ sb

theorem Sep.kept {W w w1 : World} {P : List Pd} {D : Nat → Prop} {sb sb1 : Nat} (h : Sep W w P D sb) (hz : w.heap.size ≤ w1.heap.size) (hk : ∀ p ∈ P, w1.heap[p.g]? = w.heap[p.g]?) (hs : sb1 = sb ∨ w.heap.size ≤ sb1) : Sep W w1 P D sb1 := by
  refine ⟨fun p hp => ?_, h.once, fun i hi => ?_⟩
  · obtain ⟨h1, h2, h3, h4, h5, h6, h7⟩ := h.pend p hp
    exact ⟨h1, by omega, by omega, h4, h5, h6, h7.kept (hk p hp)⟩
  · obtain ⟨h1, h2⟩ := h.done i hi
    exact ⟨by omega, by omega⟩

theorem Sep.more {W w : World} {P : List Pd} {D : Nat → Prop} {sb : Nat} {q : Pd} (h : Sep W w P D sb) (h1 : W.heap.size ≤ q.g ∧ q.g < w.heap.size ∧ q.g ≠ sb ∧ ¬ D q.g ∧ 0 < q.L.length ∧ q.L.length ≤ 9223372036854775807 ∧ Mix W w q.g q.L 0 []) (h2 : ∀ p ∈ P, p.g ≠ q.g) : Sep W w (P ++ [q]) D sb := by
  refine ⟨fun p hp => ?_, ?_, h.done⟩
  · rcases List.mem_append.1 hp with hp | hp
    · exact h.pend p hp
    · obtain rfl := List.mem_singleton.1 hp
      exact h1
  · rw [List.map_append, List.nodup_append]
    refine ⟨h.once, by simp, fun a ha b hb => ?_⟩
    obtain ⟨p, hp, rfl⟩ := List.mem_map.1 ha
    simp at hb
    subst hb
    exact h2 p hp

theorem Sep.pop {W w : World} {P : List Pd} {D : Nat → Prop} {sb : Nat} {p : Pd} (h : Sep W w (P ++ [p]) D sb) : Sep W w P (fun i => D i ∨ i = p.g) sb := by
  have hn := h.once
  rw [List.map_append, List.nodup_append] at hn
  obtain ⟨hp1, hp2, hp3, _⟩ := h.pend p (List.mem_append_right _ (List.mem_singleton_self _))
  refine ⟨fun q hq => ?_, hn.1, fun i hi => ?_⟩
  · obtain ⟨h1, h2, h3, h4, h5⟩ := h.pend q (List.mem_append_left _ hq)
    refine ⟨h1, h2, h3, fun hd => ?_, h5⟩
    rcases hd with hd | hd
    · exact h4 hd
    · exact hn.2.2 q.g (List.mem_map_of_mem hq) p.g (by simp) hd
  · rcases hi with hi | rfl
    · exact h.done i hi
    · exact ⟨hp2, hp3⟩

/-- The cells of a list that lies in memory. -/
theorem copy_cells {w : World} : ∀ (L : List T) (b off : Nat), LiesS w L (some ⟨b, off, none⟩) L.length → ∃ cs : List Value, cs.length = L.length * 4 ∧ (∀ j u, cs[j]? = some u → w.cell? ⟨b, off + j, none⟩ = some u) ∧ (∀ u ∈ cs, u.oneCell' = true) ∧ ∀ (j : Nat) (k n : Int) (s : ByteArray) (Lt : List T), L[j]? = some (.node k n s Lt) → s.size ≤ 9223372036854775807 ∧ cs[j * 4]? = some (.int .i64 k) ∧ cs[j * 4 + 1]? = some (.int .i64 n) ∧ cs[j * 4 + 2]? = some (.string s) ∧ ∃ a l c, cs[j * 4 + 3]? = some (.slice a l c) ∧ l ≤ c ∧ LiesS w Lt a l
  | [], b, off, _ => ⟨[], rfl, (fun j u h => by simp at h), (fun u h => by cases h), (fun j k n s Lt h => by simp at h)⟩
  | .node k n s Lt :: ts, b, off, h => by
    unfold LiesS at h
    obtain ⟨b', off', e, _, _, hb, hT, hS⟩ := h
    injection e with e
    injection e with e1 e2
    subst e1 e2
    unfold LiesT at hT
    obtain ⟨hs, a, l, c, c0, c1, c2, c3, hlc, hLt⟩ := hT
    obtain ⟨cs, q1, q2, q3, q4⟩ := copy_cells ts b (off + 4) hS
    refine ⟨[.int .i64 k, .int .i64 n, .string s, .slice a l c] ++ cs, by simp [q1]; omega, fun j u hu => ?_, fun u hu => ?_, fun j k' n' s' Lt' hj => ?_⟩
    · match j, hu with
      | 0, hu => simp at hu; subst hu; exact c0
      | 1, hu => simp at hu; subst hu; exact c1
      | 2, hu => simp at hu; subst hu; exact c2
      | 3, hu => simp at hu; subst hu; exact c3
      | j + 4, hu =>
        have hu' : cs[j]? = some u := by simpa using hu
        have := q2 j u hu'
        rw [show off + 4 + j = off + (j + 4) from by omega] at this
        exact this
    · rcases List.mem_append.1 hu with hu | hu
      · simp at hu
        rcases hu with rfl | rfl | rfl | rfl <;> rfl
      · exact q3 u hu
    · cases j with
      | zero =>
        simp at hj
        obtain ⟨rfl, rfl, rfl, rfl⟩ := hj
        exact ⟨hs, rfl, rfl, rfl, a, l, c, rfl, hlc, hLt⟩
      | succ j =>
        have hj' : ts[j]? = some (.node k' n' s' Lt') := by simpa using hj
        obtain ⟨a0, a1, a2, a3, a', l', c', a4, a5⟩ := q4 j k' n' s' Lt' hj'
        have sh : ∀ o, ([.int .i64 k, .int .i64 n, .string s, .slice a l c] ++ cs)[(j + 1) * 4 + o]? = cs[j * 4 + o]? := fun o => by
          rw [List.getElem?_append_right (by simp; omega)]
          congr 1
          simp
          omega
        exact ⟨a0, (sh 0).trans a1, (sh 1).trans a2, (sh 2).trans a3, a', l', c', (sh 3).trans a4, a5⟩

/-- A row of the call's own that holds such cells. -/
theorem mix_of_row {W w : World} {B g cap m : Nat} {cs : List Value} {L : List T} (h : w.ownsRow B 60 4 (.slice (some ⟨g, 0, none⟩) m cap) m cs)
    (hc : ∀ (j : Nat) (k n : Int) (s : ByteArray) (Lt : List T), L[j]? = some (.node k n s Lt) → s.size ≤ 9223372036854775807 ∧ cs[j * 4]? = some (.int .i64 k) ∧ cs[j * 4 + 1]? = some (.int .i64 n) ∧ cs[j * 4 + 2]? = some (.string s) ∧ ∃ a l c, cs[j * 4 + 3]? = some (.slice a l c) ∧ l ≤ c ∧ LiesS W Lt a l) : Mix W w g L 0 [] ∧ m ≤ cap := by
  rcases h.2 with ⟨e, _⟩ | ⟨g', cap', cur, e, h1, h2, h3, h4, h5, h6⟩
  · cases e
  · simp only [Value.slice.injEq, Option.some.injEq, Addr.mk.injEq, and_true, true_and] at e
    obtain ⟨rfl, rfl⟩ := e
    refine ⟨⟨cur, h2, fun j k n s Lt hj => ?_⟩, h3⟩
    obtain ⟨a0, a1, a2, a3, a, l, c, a4, a5⟩ := hc j k n s Lt hj
    have q : ∀ o u, cs[o]? = some u → cur[o]? = some u := fun o u hu => by
      rw [← h6, List.getElem?_take] at hu
      split at hu
      · simpa using hu
      · cases hu
    exact ⟨a0, q _ _ a1, q _ _ a2, q _ _ a3, _, q _ _ a4, fun h => absurd h (Nat.not_lt_zero _), fun _ => ⟨a, l, c, rfl, a5⟩⟩

theorem set_block {w : World} {b : Nat} {cu : Array Value} {t : TypeId} (h : w.heap[b]? = some (.cells cu t (0, 0))) (j : Nat) (v : Value) : ∃ cu' : Array Value, (w.setCell ⟨b, j, none⟩ v).heap[b]? = some (.cells cu' t (0, 0)) ∧ cu'.size = cu.size ∧ (∀ x, x ≠ j → cu'[x]? = cu[x]?) ∧ (j < cu.size → cu'[j]? = some v) := by
  refine ⟨cu.set! j v, by simp [World.setCell, Array.getElem?_modify, h], by simp, fun x hx => ?_, fun hj => ?_⟩
  · simp [Ne.symm hx]
  · simp [hj]

theorem list_of {α : Type} (Q : Nat → α → Prop) : ∀ l : Nat, (∀ i, i < l → ∃ x, Q i x) → ∃ L : List α, L.length = l ∧ ∀ i x, L[i]? = some x → Q i x
  | 0, _ => ⟨[], rfl, fun i x h => by simp at h⟩
  | l + 1, h => by
    obtain ⟨L, hl, hL⟩ := list_of Q l (fun i hi => h i (by omega))
    obtain ⟨x, hx⟩ := h l (by omega)
    refine ⟨L ++ [x], by simp [hl], fun i y hy => ?_⟩
    by_cases hi : i < L.length
    · rw [List.getElem?_append_left hi] at hy
      exact hL i y hy
    · rw [List.getElem?_append_right (by omega)] at hy
      have h2 := (List.getElem?_eq_some_iff.1 hy).1
      simp at h2
      have hil : i = l := by omega
      subst hil
      rw [hl, Nat.sub_self] at hy
      simp at hy
      subst hy
      exact hx

/-- What is right of a property, in a world: its value is a tree that lies there, and both checks of it answer its error. -/
def PrOk (w : World) (p : Pr) : Prop := (p.s.size ≤ 9223372036854775807 ∧ p.l ≤ p.c) ∧ ∃ L : List T, InT (.node p.k p.n p.s L) ∧ LiesS w L p.a p.l ∧ Both w p.val 0 p.e ∧ (p.e = 0 → Ck 6 (.node p.k p.n p.s L))

theorem PrOk.below {w w' : World} (k : Below w.heap.size w w') {p : Pr} (h : PrOk w p) : PrOk w' p := by
  obtain ⟨h1, L, h2, h3, h4, h5⟩ := h
  exact ⟨h1, L, h2, h3.below k, fun W hW => h4 W (below2 k hW), h5⟩

section
variable {H : Type} {enc : TypeId × Value → H} {w : World} {base : Nat} {spare : Nat → Bool} {held : Bool}

theorem cells_all {a : Addr} {k : Nat} {cs : List Value} (h : w.cells? base a k = some cs) : cs.length = k ∧ ∀ j v, cs[j]? = some v → w.cell? (a.add j) = some v := by
  unfold World.cells? at h
  split at h
  · have hl := mapM_some_length h
    refine ⟨by simpa using hl, fun j v hv => ?_⟩
    have hj : j < k := by
      have := (List.getElem?_eq_some_iff.1 hv).1
      simp at hl
      omega
    have := mapM_some_get h j j (by simp [hj])
    rw [hv] at this
    exact this
  · cases h

/-- A slice that reads: its elements, one by one. -/
theorem slice_rows {t e : TypeId} {k fuel : Nat} {a : Option Addr} {l c : Nat} {y : DataW H × List MemPlace} (hu : Tryz.prog.underlying t = some (.slice e)) (hk : Tryz.prog.cellsOf e = k) (h0 : 0 < k) (h : DataW.trod enc Tryz.prog w base spare held fuel t [.slice a l c] = some y) :
    l ≤ c ∧ l ≤ 9223372036854775807 ∧ (0 < l → ∃ b off, a = some ⟨b, off, none⟩ ∧ b < w.heap.size ∧ ∀ i, i < l → ∃ m cs z, cs.length = k ∧ (∀ j v, cs[j]? = some v → w.cell? ⟨b, off + i * k + j, none⟩ = some v) ∧ DataW.trod enc Tryz.prog w base spare held m e cs = some z) := by
  have hm : maxLen ≤ 9223372036854775807 := by unfold maxLen; decide
  rcases DataW.trod_slice hu h with ⟨e1, rfl⟩ | ⟨a', l', c', elems, rest, m, hfu, e1, rfl, _, h1, h2, hlen, hel, _⟩
  · simp at e1
    obtain ⟨_, rfl, rfl⟩ := e1
    exact ⟨Nat.le_refl _, by omega, fun h => absurd h (Nat.lt_irrefl _)⟩
  · simp at e1
    obtain ⟨rfl, rfl, rfl⟩ := e1
    refine ⟨h1, by omega, fun hp => ?_⟩
    have one : ∀ i, i < l → ∃ cs z, cs.length = k ∧ (∀ j v, cs[j]? = some v → w.cell? ((a'.add (i * k)).add j) = some v) ∧ DataW.trod enc Tryz.prog w base spare held m e cs = some z := by
      intro i hi
      have hi2 := hel i hi
      obtain ⟨z, hz⟩ : ∃ z, elems[i]? = some z := ⟨elems[i], by simp [hlen, hi]⟩
      rw [hz, hk, Option.bind_eq_some_iff] at hi2
      obtain ⟨cs, hcs, ht⟩ := hi2
      obtain ⟨q1, q2⟩ := cells_all hcs
      exact ⟨cs, z, q1, q2, ht⟩
    obtain ⟨b, off, sp⟩ := a'
    have hsp : sp = none ∧ b < w.heap.size := by
      obtain ⟨cs, z, q1, q2, _⟩ := one 0 hp
      have q0 := q2 0 cs[0] (by simp)
      rw [Nat.zero_mul, add_zero, add_zero] at q0
      exact spot_none q0
    obtain ⟨rfl, hb⟩ := hsp
    refine ⟨b, off, rfl, hb, fun i hi => ?_⟩
    obtain ⟨cs, z, q1, q2, q3⟩ := one i hi
    refine ⟨m, cs, z, q1, fun j v hv => ?_, q3⟩
    have := q2 j v hv
    rw [add_none, add_none] at this
    exact this

theorem strs_in {fuel : Nat} {a : Option Addr} {l c : Nat} {y : DataW H × List MemPlace} (h : DataW.trod enc Tryz.prog w base spare held fuel 46 [.slice a l c] = some y) : l ≤ c ∧ ∃ L, StrsAt w L a l := by
  have hm : maxLen ≤ 9223372036854775807 := by unfold maxLen; decide
  obtain ⟨h1, h2, h3⟩ := slice_rows Tryz.underlying46 cells1s (by omega) h
  refine ⟨h1, ?_⟩
  by_cases h0 : l = 0
  · subst h0
    exact ⟨[], rfl, by omega, fun h => absurd h (Nat.lt_irrefl _)⟩
  · obtain ⟨b, off, ha, hb, hall⟩ := h3 (by omega)
    obtain ⟨L, hl, hL⟩ := list_of (fun i (s : ByteArray) => s.size ≤ 9223372036854775807 ∧ w.cell? ⟨b, off + i, none⟩ = some (.string s)) l (fun i hi => by
      obtain ⟨m, cs, z, q1, q2, q3⟩ := hall i hi
      obtain ⟨s, e2, _, ws⟩ := DataW.trod_string Tryz.underlying9 q3
      subst e2
      have := q2 0 _ rfl
      rw [Nat.mul_one, Nat.add_zero] at this
      exact ⟨s, by omega, this⟩)
    exact ⟨L, hl.symm, h2, fun _ => ⟨b, off, ha, hb, hL⟩⟩

theorem cells5p : Tryz.prog.cellsOf 62 = 5 := by kernel_rfl
theorem cells3n : Tryz.prog.cellsOf 49 = 3 := by kernel_rfl
theorem cells5e : Tryz.prog.cellsOf 53 = 5 := by kernel_rfl
theorem cells3g : Tryz.prog.cellsOf 25 = 3 := by kernel_rfl
theorem cells1p : Tryz.prog.cellsOf 47 = 1 := by kernel_rfl
theorem cells1t : Tryz.prog.cellsOf 46 = 1 := by kernel_rfl
theorem cells1n : Tryz.prog.cellsOf 22 = 1 := by kernel_rfl
theorem cells1e : Tryz.prog.cellsOf 23 = 1 := by kernel_rfl

theorem len5 {cs : List Value} (h : cs.length = 5) : ∃ c0 c1 c2 c3 c4, cs = [c0, c1, c2, c3, c4] := by
  match cs, h with
  | [c0, c1, c2, c3, c4], _ => exact ⟨c0, c1, c2, c3, c4, rfl⟩

theorem len3 {cs : List Value} (h : cs.length = 3) : ∃ c0 c1 c2, cs = [c0, c1, c2] := by
  match cs, h with
  | [c0, c1, c2], _ => exact ⟨c0, c1, c2, rfl⟩

theorem slice_form {t e : TypeId} {fuel : Nat} {v : Value} {y : DataW H × List MemPlace} (hu : Tryz.prog.underlying t = some (.slice e)) (h : DataW.trod enc Tryz.prog w base spare held fuel t [v] = some y) : ∃ a l c, v = .slice a l c := by
  rcases DataW.trod_slice hu h with ⟨e1, _⟩ | ⟨a', l', c', elems, rest, m, hfu, e1, _⟩
  · simp at e1
    exact ⟨none, 0, 0, e1⟩
  · simp at e1
    exact ⟨some a', l', c', e1⟩

theorem trod_prop {fuel : Nat} {cs : List Value} {x : DataW H × List MemPlace} (h : DataW.trod enc Tryz.prog w base spare held fuel 62 cs = some x) :
    ∃ name k n s a l c m y, cs = [.string name, .int .i64 k, .int .i64 n, .string s, .slice a l c] ∧ name.size ≤ maxLen ∧ (Lit.int .i64 k).wf = true ∧ (Lit.int .i64 n).wf = true ∧ s.size ≤ maxLen ∧ DataW.trod enc Tryz.prog w base spare held m 58 [.slice a l c] = some y := by
  obtain ⟨xs, m, rfl, rfl, hlen, hxs, hf⟩ := DataW.trod_struct Tryz.underlying62 h
  rw [cells5p] at hlen
  obtain ⟨c0, c1, c2, c3, c4, rfl⟩ := len5 hlen
  have f0 : DataW.trod enc Tryz.prog w base spare held m 9 (([c0, c1, c2, c3, c4].drop 0).take (Tryz.prog.cellsOf 9)) = xs[0]? := hf 0 _ rfl
  have f1 : DataW.trod enc Tryz.prog w base spare held m 60 (([c0, c1, c2, c3, c4].drop 1).take (Tryz.prog.cellsOf 60)) = xs[1]? := hf 1 _ rfl
  have hx : xs.length = 2 := hxs
  obtain ⟨y0, hy0⟩ : ∃ y, xs[0]? = some y := ⟨xs[0], by simp [hx]⟩
  obtain ⟨y1, hy1⟩ : ∃ y, xs[1]? = some y := ⟨xs[1], by simp [hx]⟩
  rw [hy0, cells1s] at f0
  rw [hy1, cells4] at f1
  have g0 : DataW.trod enc Tryz.prog w base spare held m 9 [c0] = some y0 := f0
  have g1 : DataW.trod enc Tryz.prog w base spare held m 60 [c1, c2, c3, c4] = some y1 := f1
  obtain ⟨name, e0, _, wn⟩ := DataW.trod_string Tryz.underlying9 g0
  obtain ⟨k, n, s, a, l, c, m', y, e1, wk, wn', hs, _, hy⟩ := trod_value g1
  simp only [List.cons.injEq, and_true] at e0 e1
  obtain ⟨rfl, rfl, rfl, rfl⟩ := e1
  subst e0
  exact ⟨name, k, n, s, a, l, c, m', y, rfl, wn, wk, wn', hs, hy⟩

theorem props_in (B : Nat) (hB : B ≤ w.heap.size) (hT : Tabs B w) {fuel : Nat} {a : Option Addr} {l c : Nat} {y : DataW H × List MemPlace} (h : DataW.trod enc Tryz.prog w base spare held fuel 47 [.slice a l c] = some y) : l ≤ c ∧ ∃ P, PropsAt w P a l ∧ ∀ p ∈ P, PrOk w p := by
  have hm : maxLen ≤ 9223372036854775807 := by unfold maxLen; decide
  obtain ⟨h1, h2, h3⟩ := slice_rows Tryz.underlying47 cells5p (by omega) h
  refine ⟨h1, ?_⟩
  by_cases h0 : l = 0
  · subst h0
    exact ⟨[], ⟨rfl, by omega, fun h => absurd h (Nat.lt_irrefl _)⟩, fun p hp => by cases hp⟩
  · obtain ⟨b, off, ha, hb, hall⟩ := h3 (by omega)
    obtain ⟨L, hl, hL⟩ := list_of (fun i (p : Pr) => (p.name.size ≤ 9223372036854775807 ∧ w.cell? ⟨b, off + i * 5, none⟩ = some (.string p.name) ∧ w.cell? ⟨b, off + i * 5 + 1, none⟩ = some (.int .i64 p.k) ∧ w.cell? ⟨b, off + i * 5 + 1 + 1, none⟩ = some (.int .i64 p.n) ∧ w.cell? ⟨b, off + i * 5 + 1 + 1 + 1, none⟩ = some (.string p.s) ∧ w.cell? ⟨b, off + i * 5 + 1 + 1 + 1 + 1, none⟩ = some (.slice p.a p.l p.c)) ∧ PrOk w p) l (fun i hi => by
      obtain ⟨m, cs, z, q1, q2, q3⟩ := hall i hi
      obtain ⟨name, k, n, s, a, l, c, m', y', rfl, hn, wk, wn, hs, hy⟩ := trod_prop q3
      obtain ⟨hlc, LL, hLL, hin⟩ := tree_in m' hy
      have hn1 : -9223372036854775808 ≤ n ∧ n ≤ 9223372036854775807 := by simpa [Lit.wf, IntKind.min, IntKind.max, IntKind.signed, IntKind.bits] using wn
      have hT2 : InT (.node k n s LL) := by
        unfold InT
        exact ⟨hn1, hin⟩
      obtain ⟨e, he, hck⟩ := bk_all B w hB hT 6 0 rfl k n s a l c LL (by omega) hT2 hLL
      exact ⟨⟨name, k, n, s, a, l, c, e⟩, ⟨by show name.size ≤ _; omega, q2 0 _ rfl, q2 1 _ rfl, q2 2 _ rfl, q2 3 _ rfl, q2 4 _ rfl⟩, ⟨(by show s.size ≤ _; omega), hlc⟩, LL, hT2, hLL, he, hck⟩)
    refine ⟨L, ⟨hl.symm, h2, fun _ => ⟨b, off, ha, hb, fun i p hp => (hL i p hp).1⟩⟩, fun p hp => ?_⟩
    obtain ⟨i, hi⟩ := List.getElem?_of_mem hp
    exact (hL i p hi).2
end

def NdOk (w : World) (x : Nd) : Prop := StrsAt w x.labs x.la x.ll ∧ PropsAt w x.props x.pa x.pl ∧ ∀ p ∈ x.props, PrOk w p
def EdOk (w : World) (x : Ed) : Prop := PropsAt w x.props x.pa x.pl ∧ ∀ p ∈ x.props, PrOk w p

/-- A graph lies in memory. -/
def GrOk (w : World) (N : List Nd) (E : List Ed) (na : Option Addr) (nl : Nat) (ea : Option Addr) (el : Nat) : Prop := NodesAt w N na nl ∧ EdgesAt w E ea el ∧ (∀ x ∈ N, NdOk w x) ∧ (∀ x ∈ E, EdOk w x)

theorem GrOk.below {w w' : World} (k : Below w.heap.size w w') {N : List Nd} {E : List Ed} {na : Option Addr} {nl : Nat} {ea : Option Addr} {el : Nat} (h : GrOk w N E na nl ea el) : GrOk w' N E na nl ea el :=
  ⟨h.1.below k, h.2.1.below k, fun x hx => ⟨(h.2.2.1 x hx).1.below k, (h.2.2.1 x hx).2.1.below k, fun p hp => ((h.2.2.1 x hx).2.2 p hp).below k⟩, fun x hx => ⟨(h.2.2.2 x hx).1.below k, fun p hp => ((h.2.2.2 x hx).2 p hp).below k⟩⟩

section
variable {H : Type} {enc : TypeId × Value → H} {w : World} {base : Nat} {spare : Nat → Bool} {held : Bool}

theorem trod_node {fuel : Nat} {cs : List Value} {x : DataW H × List MemPlace} (h : DataW.trod enc Tryz.prog w base spare held fuel 49 cs = some x) :
    ∃ id la ll lc pa pl pc m y1 y2, cs = [.int .i64 id, .slice la ll lc, .slice pa pl pc] ∧ DataW.trod enc Tryz.prog w base spare held m 46 [.slice la ll lc] = some y1 ∧ DataW.trod enc Tryz.prog w base spare held m 47 [.slice pa pl pc] = some y2 := by
  obtain ⟨xs, m, rfl, rfl, hlen, hxs, hf⟩ := DataW.trod_struct Tryz.underlying49 h
  rw [cells3n] at hlen
  obtain ⟨c0, c1, c2, rfl⟩ := len3 hlen
  have f0 : DataW.trod enc Tryz.prog w base spare held m 3 (([c0, c1, c2].drop 0).take (Tryz.prog.cellsOf 3)) = xs[0]? := hf 0 _ rfl
  have f1 : DataW.trod enc Tryz.prog w base spare held m 46 (([c0, c1, c2].drop 1).take (Tryz.prog.cellsOf 46)) = xs[1]? := hf 1 _ rfl
  have f2 : DataW.trod enc Tryz.prog w base spare held m 47 (([c0, c1, c2].drop 2).take (Tryz.prog.cellsOf 47)) = xs[2]? := hf 2 _ rfl
  have hx : xs.length = 3 := hxs
  obtain ⟨y0, hy0⟩ : ∃ y, xs[0]? = some y := ⟨xs[0], by simp [hx]⟩
  obtain ⟨y1, hy1⟩ : ∃ y, xs[1]? = some y := ⟨xs[1], by simp [hx]⟩
  obtain ⟨y2, hy2⟩ : ∃ y, xs[2]? = some y := ⟨xs[2], by simp [hx]⟩
  rw [hy0, cells1i] at f0
  rw [hy1, cells1t] at f1
  rw [hy2, cells1p] at f2
  have g0 : DataW.trod enc Tryz.prog w base spare held m 3 [c0] = some y0 := f0
  have g1 : DataW.trod enc Tryz.prog w base spare held m 46 [c1] = some y1 := f1
  have g2 : DataW.trod enc Tryz.prog w base spare held m 47 [c2] = some y2 := f2
  obtain ⟨id, e0, _, _⟩ := DataW.trod_int Tryz.underlying3 g0
  obtain ⟨la, ll, lc, rfl⟩ := slice_form Tryz.underlying46 g1
  obtain ⟨pa, pl, pc, rfl⟩ := slice_form Tryz.underlying47 g2
  simp only [List.cons.injEq, and_true] at e0
  subst e0
  exact ⟨id, la, ll, lc, pa, pl, pc, m, y1, y2, rfl, g1, g2⟩

theorem trod_edge {fuel : Nat} {cs : List Value} {x : DataW H × List MemPlace} (h : DataW.trod enc Tryz.prog w base spare held fuel 53 cs = some x) :
    ∃ id frm dst typ pa pl pc m y, cs = [.int .i64 id, .int .i64 frm, .int .i64 dst, .string typ, .slice pa pl pc] ∧ typ.size ≤ maxLen ∧ DataW.trod enc Tryz.prog w base spare held m 47 [.slice pa pl pc] = some y := by
  obtain ⟨xs, m, rfl, rfl, hlen, hxs, hf⟩ := DataW.trod_struct Tryz.underlying53 h
  rw [cells5e] at hlen
  obtain ⟨c0, c1, c2, c3, c4, rfl⟩ := len5 hlen
  have f0 : DataW.trod enc Tryz.prog w base spare held m 3 (([c0, c1, c2, c3, c4].drop 0).take (Tryz.prog.cellsOf 3)) = xs[0]? := hf 0 _ rfl
  have f1 : DataW.trod enc Tryz.prog w base spare held m 3 (([c0, c1, c2, c3, c4].drop 1).take (Tryz.prog.cellsOf 3)) = xs[1]? := hf 1 _ rfl
  have f2 : DataW.trod enc Tryz.prog w base spare held m 3 (([c0, c1, c2, c3, c4].drop 2).take (Tryz.prog.cellsOf 3)) = xs[2]? := hf 2 _ rfl
  have f3 : DataW.trod enc Tryz.prog w base spare held m 9 (([c0, c1, c2, c3, c4].drop 3).take (Tryz.prog.cellsOf 9)) = xs[3]? := hf 3 _ rfl
  have f4 : DataW.trod enc Tryz.prog w base spare held m 47 (([c0, c1, c2, c3, c4].drop 4).take (Tryz.prog.cellsOf 47)) = xs[4]? := hf 4 _ rfl
  have hx : xs.length = 5 := hxs
  obtain ⟨y0, hy0⟩ : ∃ y, xs[0]? = some y := ⟨xs[0], by simp [hx]⟩
  obtain ⟨y1, hy1⟩ : ∃ y, xs[1]? = some y := ⟨xs[1], by simp [hx]⟩
  obtain ⟨y2, hy2⟩ : ∃ y, xs[2]? = some y := ⟨xs[2], by simp [hx]⟩
  obtain ⟨y3, hy3⟩ : ∃ y, xs[3]? = some y := ⟨xs[3], by simp [hx]⟩
  obtain ⟨y4, hy4⟩ : ∃ y, xs[4]? = some y := ⟨xs[4], by simp [hx]⟩
  rw [hy0, cells1i] at f0
  rw [hy1, cells1i] at f1
  rw [hy2, cells1i] at f2
  rw [hy3, cells1s] at f3
  rw [hy4, cells1p] at f4
  have g0 : DataW.trod enc Tryz.prog w base spare held m 3 [c0] = some y0 := f0
  have g1 : DataW.trod enc Tryz.prog w base spare held m 3 [c1] = some y1 := f1
  have g2 : DataW.trod enc Tryz.prog w base spare held m 3 [c2] = some y2 := f2
  have g3 : DataW.trod enc Tryz.prog w base spare held m 9 [c3] = some y3 := f3
  have g4 : DataW.trod enc Tryz.prog w base spare held m 47 [c4] = some y4 := f4
  obtain ⟨id, e0, _, _⟩ := DataW.trod_int Tryz.underlying3 g0
  obtain ⟨frm, e1, _, _⟩ := DataW.trod_int Tryz.underlying3 g1
  obtain ⟨dst, e2, _, _⟩ := DataW.trod_int Tryz.underlying3 g2
  obtain ⟨typ, e3, _, ws⟩ := DataW.trod_string Tryz.underlying9 g3
  obtain ⟨pa, pl, pc, rfl⟩ := slice_form Tryz.underlying47 g4
  simp only [List.cons.injEq, and_true] at e0 e1 e2 e3
  subst e0 e1 e2 e3
  exact ⟨id, frm, dst, typ, pa, pl, pc, m, y4, rfl, ws, g4⟩

theorem nodes_in (B : Nat) (hB : B ≤ w.heap.size) (hT : Tabs B w) {fuel : Nat} {a : Option Addr} {l c : Nat} {y : DataW H × List MemPlace} (h : DataW.trod enc Tryz.prog w base spare held fuel 22 [.slice a l c] = some y) : ∃ N, NodesAt w N a l ∧ ∀ x ∈ N, NdOk w x := by
  obtain ⟨h1, h2, h3⟩ := slice_rows Tryz.underlying22 cells3n (by omega) h
  by_cases h0 : l = 0
  · subst h0
    exact ⟨[], ⟨rfl, by omega, fun h => absurd h (Nat.lt_irrefl _)⟩, fun p hp => by cases hp⟩
  · obtain ⟨b, off, ha, hb, hall⟩ := h3 (by omega)
    obtain ⟨L, hl, hL⟩ := list_of (fun i (x : Nd) => (w.cell? ⟨b, off + i * 3, none⟩ = some (.int .i64 x.id) ∧ w.cell? ⟨b, off + i * 3 + 1, none⟩ = some (.slice x.la x.ll x.lc) ∧ w.cell? ⟨b, off + i * 3 + 1 + 1, none⟩ = some (.slice x.pa x.pl x.pc)) ∧ NdOk w x) l (fun i hi => by
      obtain ⟨m, cs, z, q1, q2, q3⟩ := hall i hi
      obtain ⟨id, la, ll, lc, pa, pl, pc, m', y1, y2, rfl, g1, g2⟩ := trod_node q3
      obtain ⟨_, LL, hLL⟩ := strs_in g1
      obtain ⟨_, P, hP, hO⟩ := props_in B hB hT g2
      exact ⟨⟨id, LL, la, ll, lc, P, pa, pl, pc⟩, ⟨q2 0 _ rfl, q2 1 _ rfl, q2 2 _ rfl⟩, hLL, hP, hO⟩)
    refine ⟨L, ⟨hl.symm, h2, fun _ => ⟨b, off, ha, hb, fun i p hp => (hL i p hp).1⟩⟩, fun p hp => ?_⟩
    obtain ⟨i, hi⟩ := List.getElem?_of_mem hp
    exact (hL i p hi).2

theorem edges_in (B : Nat) (hB : B ≤ w.heap.size) (hT : Tabs B w) {fuel : Nat} {a : Option Addr} {l c : Nat} {y : DataW H × List MemPlace} (h : DataW.trod enc Tryz.prog w base spare held fuel 23 [.slice a l c] = some y) : ∃ E, EdgesAt w E a l ∧ ∀ x ∈ E, EdOk w x := by
  have hm : maxLen ≤ 9223372036854775807 := by unfold maxLen; decide
  obtain ⟨h1, h2, h3⟩ := slice_rows Tryz.underlying23 cells5e (by omega) h
  by_cases h0 : l = 0
  · subst h0
    exact ⟨[], ⟨rfl, by omega, fun h => absurd h (Nat.lt_irrefl _)⟩, fun p hp => by cases hp⟩
  · obtain ⟨b, off, ha, hb, hall⟩ := h3 (by omega)
    obtain ⟨L, hl, hL⟩ := list_of (fun i (x : Ed) => (x.typ.size ≤ 9223372036854775807 ∧ w.cell? ⟨b, off + i * 5, none⟩ = some (.int .i64 x.id) ∧ w.cell? ⟨b, off + i * 5 + 1, none⟩ = some (.int .i64 x.frm) ∧ w.cell? ⟨b, off + i * 5 + 1 + 1, none⟩ = some (.int .i64 x.dst) ∧ w.cell? ⟨b, off + i * 5 + 1 + 1 + 1, none⟩ = some (.string x.typ) ∧ w.cell? ⟨b, off + i * 5 + 1 + 1 + 1 + 1, none⟩ = some (.slice x.pa x.pl x.pc)) ∧ EdOk w x) l (fun i hi => by
      obtain ⟨m, cs, z, q1, q2, q3⟩ := hall i hi
      obtain ⟨id, frm, dst, typ, pa, pl, pc, m', y2, rfl, ht, g2⟩ := trod_edge q3
      obtain ⟨_, P, hP, hO⟩ := props_in B hB hT g2
      exact ⟨⟨id, frm, dst, typ, P, pa, pl, pc⟩, ⟨by show typ.size ≤ _; omega, q2 0 _ rfl, q2 1 _ rfl, q2 2 _ rfl, q2 3 _ rfl, q2 4 _ rfl⟩, hP, hO⟩)
    refine ⟨L, ⟨hl.symm, h2, fun _ => ⟨b, off, ha, hb, fun i p hp => (hL i p hp).1⟩⟩, fun p hp => ?_⟩
    obtain ⟨i, hi⟩ := List.getElem?_of_mem hp
    exact (hL i p hi).2

theorem graph_in (B : Nat) (hB : B ≤ w.heap.size) (hT : Tabs B w) {fuel : Nat} {cs : List Value} {x : DataW H × List MemPlace} (h : DataW.trod enc Tryz.prog w base spare held fuel 25 cs = some x) :
    ∃ na nl nc ea el ec nx, cs = [.slice na nl nc, .slice ea el ec, .int .i64 nx] ∧ (Lit.int .i64 nx).wf = true ∧ ∃ N E, GrOk w N E na nl ea el := by
  obtain ⟨xs, m, rfl, rfl, hlen, hxs, hf⟩ := DataW.trod_struct Tryz.underlying25 h
  rw [cells3g] at hlen
  obtain ⟨c0, c1, c2, rfl⟩ := len3 hlen
  have f0 : DataW.trod enc Tryz.prog w base spare held m 22 (([c0, c1, c2].drop 0).take (Tryz.prog.cellsOf 22)) = xs[0]? := hf 0 _ rfl
  have f1 : DataW.trod enc Tryz.prog w base spare held m 23 (([c0, c1, c2].drop 1).take (Tryz.prog.cellsOf 23)) = xs[1]? := hf 1 _ rfl
  have f2 : DataW.trod enc Tryz.prog w base spare held m 3 (([c0, c1, c2].drop 2).take (Tryz.prog.cellsOf 3)) = xs[2]? := hf 2 _ rfl
  have hx : xs.length = 3 := hxs
  obtain ⟨y0, hy0⟩ : ∃ y, xs[0]? = some y := ⟨xs[0], by simp [hx]⟩
  obtain ⟨y1, hy1⟩ : ∃ y, xs[1]? = some y := ⟨xs[1], by simp [hx]⟩
  obtain ⟨y2, hy2⟩ : ∃ y, xs[2]? = some y := ⟨xs[2], by simp [hx]⟩
  rw [hy0, cells1n] at f0
  rw [hy1, cells1e] at f1
  rw [hy2, cells1i] at f2
  have g0 : DataW.trod enc Tryz.prog w base spare held m 22 [c0] = some y0 := f0
  have g1 : DataW.trod enc Tryz.prog w base spare held m 23 [c1] = some y1 := f1
  have g2 : DataW.trod enc Tryz.prog w base spare held m 3 [c2] = some y2 := f2
  obtain ⟨nx, e2, _, wx⟩ := DataW.trod_int Tryz.underlying3 g2
  obtain ⟨na, nl, nc, rfl⟩ := slice_form Tryz.underlying22 g0
  obtain ⟨ea, el, ec, rfl⟩ := slice_form Tryz.underlying23 g1
  simp only [List.cons.injEq, and_true] at e2
  subst e2
  obtain ⟨N, hN, hN2⟩ := nodes_in B hB hT g0
  obtain ⟨E, hE, hE2⟩ := edges_in B hB hT g1
  exact ⟨na, nl, nc, ea, el, ec, nx, rfl, wx, N, E, hN, hE, hN2, hE2⟩
end
end Go.Proofs.YthbbapimedlocaaGreatDoor
