/-
  What is proved here: what the texts GCheck1, GCheck2, GFresh0, GFreshV, GCopy1, GOpen, GOpen2 prove, in one text.
-/
import Derived.Test.YtbjkpbeijkmoeaaGreatDoorQBAB
import Derived.Test.YtbjkpbeijkmoeaaGreatDoorQBAA
import Derived.Deep.RegionHeld3
namespace Go.Proofs.YtbjkpbeijkmoeaaGreatDoor
open Go.RowKit
set_option linter.unusedVariables false

/-- A node has that number. -/
def hasN (N : List Nd) (t : Int) : Bool := decide (t ∈ N.map Nd.id)

/-- What is wrong with a node behind another. -/
def ndOne (ah : Int) (x : Nd) : Int := if x.id ≤ ah then 6 else if labsE x.labs = 0 then prsE x.props else labsE x.labs

/-- What is wrong with an edge behind another. -/
def edOne (N : List Nd) (ah : Int) (x : Ed) : Int := if x.id ≤ ah ∨ hasN N x.id = true ∨ nm x.typ = false then 6 else if hasN N x.frm = false ∨ hasN N x.dst = false then 5 else prsE x.props

set_option maxHeartbeats 2000000 in
set_option maxRecDepth 100000 in
theorem or_two (x y r : Int) (hr : r = if x = 0 then y else x) (b : Nat) (w : World) (h0 : w.cell? ⟨b, 0, none⟩ = some (.int .i64 x)) (h1 : w.cell? ⟨b, 1, none⟩ = some (.int .i64 y)) :
    Calls Tryz.prog 27 #[.slice (some ⟨b, 0, none⟩) 2 2] w fun e w' => e = .returned (.int .i64 r) ∧ w' = w := by
  have HR := toHid hr
  clear hr
  have cell : Hid (∀ k, k < 2 → w.cell? ⟨b, k, none⟩ = some (.int .i64 (if k = 0 then x else y))) := fun k hk => by
    have h3 : k = 0 ∨ k = 1 := by omega
    rcases h3 with rfl | rfl
    · exact h0
    · exact h1
  clear h0 h1
  go_enter Tryz.func27, Tryz.ntmps27
  go_wp2_with fail
  go_loopg [8] 2 (fun g s8 wr => ∃ k : Nat, k ≤ 2 ∧ 2 - k ≤ g ∧ s8 = .int .i64 k ∧ wr = w ∧ (0 < k → x = 0) ∧ (1 < k → y = 0))
  case atStart => exact ⟨0, by omega, by omega, rfl, rfl, by omega, by omega⟩
  case round =>
    obtain ⟨k, hk, hg, rfl, rfl, q0, q1⟩ := hrel
    have Q0 := toHid q0
    have Q1 := toHid q1
    clear q0 q1
    by_cases hlt : k < 2
    · have hc := cell.out k hlt
      obtain ⟨v, hv⟩ : ∃ v, v = (if k = 0 then x else y) := ⟨_, rfl⟩
      rw [← hv] at hc
      have HV := toHid hv
      clear hv
      by_cases he : v = 0
      · have he' : (v != 0) = false := by simp [he]
        have H2 := toHid he
        clear he
        go_wp2_with fail
        go_roundg (2 - (k + 1))
        case measure => omega
        case rel =>
          have hv0 : (if k = 0 then x else y) = 0 := by rw [← HV.out]; exact H2.out
          have h3 : k = 0 ∨ k = 1 := by omega
          refine ⟨k + 1, by omega, by omega, by go_num, rfl, fun _ => ?_, fun hk1 => ?_⟩
          · rcases h3 with rfl | rfl
            · simpa using hv0
            · exact Q0.out (by omega)
          · rcases h3 with rfl | rfl
            · omega
            · simpa using hv0
      · have he' : (v != 0) = true := by simp [he]
        have H2 := toHid he
        clear he
        go_wp2_with fail
        go_ret
        refine ⟨ret_int ?_, rfl⟩
        have hv0 := H2.out
        rw [HV.out] at hv0 ⊢
        rw [HR.out]
        have h3 : k = 0 ∨ k = 1 := by omega
        rcases h3 with rfl | rfl
        · simp at hv0 ⊢
          simp [hv0]
        · have a0 := Q0.out (by omega)
          simp [a0]
    · have hk3 : k = 2 := by omega
      have HK := toHid hk3
      clear cell
      go_wp2_with fail
      go_ret
      refine ⟨ret_int ?_, rfl⟩
      have e := HK.out
      rw [HR.out, Q0.out (by omega), Q1.out (by omega)]
      simp

theorem below3 {B : Nat} {w w1 w2 : World} (h : Below B w w1) (hB : B ≤ w1.heap.size) (k : Below w1.heap.size w1 w2) : Below B w w2 := h.trans (k.mono hB)

set_option linter.unusedVariables false

set_option maxHeartbeats 4000000 in
set_option maxRecDepth 100000 in
theorem values_none (a : Option Addr) (c : Nat) (w : World) : Calls Tryz.prog 121 #[.slice a 0 c] w fun e w' => e = .returned (.slice none 0 0) ∧ Below w.heap.size w w' := by
  have b0 : Below w.heap.size w (w.alloc (.cells #[.slice none 0 0] 29)) := (Below.refl _ _).alloc (Nat.le_refl _) _
  have hx := alloc_new w (.cells #[.slice none 0 0] 29)
  have y0 : (w.alloc (.cells #[.slice none 0 0] 29)).cell? ⟨w.heap.size, 0, none⟩ = some (.slice none 0 0) := cell_of hx 0
  have B0 := toHid b0
  clear b0 hx
  have hp : ∀ W, Sem.run Tryz.prog (pure (#[] : Array Value)) W = .ok #[] W := fun _ => rfl
  cases a with
  | none =>
    go_enter Tryz.func121, Tryz.ntmps121
    go_wp2_with fail
    go_loopg [4] 1 (fun g s4 wr => ∃ k : Nat, k ≤ 1 ∧ k ≤ g ∧ s4 = .slice (some ⟨w.heap.size, 0, none⟩) k 1 ∧ wr = w.alloc (.cells #[.slice none 0 0] 29))
    case atStart => exact ⟨1, Nat.le_refl _, Nat.le_refl _, rfl, rfl⟩
    case round =>
      obtain ⟨k, hk, hg, rfl, rfl⟩ := hrel
      by_cases hk1 : k = 1
      · subst hk1
        go_wp2_with fail
        go_loopg [4, 28] 0 (fun g s4 s28 wq => s4 = .slice (some ⟨w.heap.size, 0, none⟩) 0 1 ∧ s28 = .int .i64 0 ∧ wq = w.alloc (.cells #[.slice none 0 0] 29))
        case atStart => exact ⟨rfl, rfl, rfl⟩
        case round =>
          obtain ⟨rfl, rfl, rfl⟩ := hrel
          go_wp2_with fail
          go_roundg 0
          case measure => omega
          case rel => exact ⟨0, by omega, by omega, rfl, rfl⟩
      · have hk0 : k = 0 := by omega
        subst hk0
        go_wp2_with fail
        go_ret
        exact ⟨rfl, B0.out⟩
  | some ad =>
    go_enter Tryz.func121, Tryz.ntmps121
    go_wp2_with fail
    go_loopg [4] 1 (fun g s4 wr => ∃ k : Nat, k ≤ 1 ∧ k ≤ g ∧ s4 = .slice (some ⟨w.heap.size, 0, none⟩) k 1 ∧ wr = w.alloc (.cells #[.slice none 0 0] 29))
    case atStart => exact ⟨1, Nat.le_refl _, Nat.le_refl _, rfl, rfl⟩
    case round =>
      obtain ⟨k, hk, hg, rfl, rfl⟩ := hrel
      by_cases hk1 : k = 1
      · subst hk1
        go_wp2_with fail
        go_loopg [4, 28] 0 (fun g s4 s28 wq => s4 = .slice (some ⟨w.heap.size, 0, none⟩) 0 1 ∧ s28 = .int .i64 0 ∧ wq = w.alloc (.cells #[.slice none 0 0] 29))
        case atStart => exact ⟨rfl, rfl, rfl⟩
        case round =>
          obtain ⟨rfl, rfl, rfl⟩ := hrel
          go_wp2_with fail
          go_roundg 0
          case measure => omega
          case rel => exact ⟨0, by omega, by omega, rfl, rfl⟩
      · have hk0 : k = 0 := by omega
        subst hk0
        go_wp2_with fail
        go_ret
        exact ⟨rfl, B0.out⟩

theorem put4_bel (w : World) (b : Nat) (v0 v1 v2 v3 : Value) : Below b w (put4 w b v0 v1 v2 v3) :=
  ((((Below.refl _ _).setCell (p := ⟨b, 0, none⟩) (Nat.le_refl _) _).setCell (p := ⟨b, 1, none⟩) (Nat.le_refl _) _).setCell (p := ⟨b, 2, none⟩) (Nat.le_refl _) _).setCell (p := ⟨b, 3, none⟩) (Nat.le_refl _) _

theorem put4_size (w : World) (b : Nat) (v0 v1 v2 v3 : Value) : (put4 w b v0 v1 v2 v3).heap.size = w.heap.size := by simp [put4, World.setCell]

/-- The answer of Values: the same list in blocks of its own. -/
def ValsEnd (W w' : World) (L : List T) (l : Nat) (e : Ending) : Prop := ∃ a' c', e = .returned (.slice a' l c') ∧ l ≤ c' ∧ LieA (fun i => W.heap.size ≤ i) w' L a' l

/-- The answer of Value. -/
def ValEnd (W w' : World) (k n : Int) (s : ByteArray) (L : List T) (l : Nat) (e : Ending) : Prop := ∃ a' c', e = .returned (.agg #[.int .i64 k, .int .i64 n, .string s, .slice a' l c']) ∧ l ≤ c' ∧ LieA (fun i => W.heap.size ≤ i) w' L a' l

theorem cell3_here {w : World} {b : Nat} {c0 c1 c2 c3 : Value} {t : TypeId} (h : w.heap[b]? = some (.cells #[c0, c1, c2, c3] t (0, 0))) (v : Value) : (w.setCell ⟨b, 3, none⟩ v).heap[b]? = some (.cells #[c0, c1, c2, v] t (0, 0)) := by
  simp [World.setCell, Array.getElem?_modify, h]

/-- A list whose values' own lists are still to be copied: its block, its room, its values. -/
structure Pd where
  g : Nat
  cap : Nat
  L : List T

def Pd.val (p : Pd) : Value := .slice (some ⟨p.g, 0, none⟩) p.L.length p.cap
def pdVals (P : List Pd) : List Value := P.map Pd.val

def pdW : List Pd → Nat
  | [] => 0
  | p :: r => wtL p.L + pdW r

theorem pdW_append : ∀ (P Q : List Pd), pdW (P ++ Q) = pdW P + pdW Q
  | [], Q => by simp [pdW]
  | p :: P, Q => by
    have := pdW_append P Q
    simp only [List.cons_append, pdW]
    omega

theorem wt_pos : ∀ (L : List T), 1 ≤ wtL L
  | [] => by unfold wtL; exact Nat.le_refl _
  | t :: ts => by
    have := wt_pos ts
    unfold wtL
    omega

theorem pd_length : ∀ (P : List Pd), P.length ≤ pdW P
  | [] => Nat.le_refl _
  | p :: P => by
    have := pd_length P
    have := wt_pos p.L
    simp only [List.length_cons, pdW]
    omega

/-- The slice of a value's list, copied. -/
def NewS (news : List Pd) (Lt : List T) (v : Value) : Prop := (Lt = [] ∧ v = .slice none 0 0) ∨ ∃ q ∈ news, q.L = Lt ∧ Lt.length ≤ 9223372036854775807 ∧ ∃ c', v = .slice (some ⟨q.g, 0, none⟩) Lt.length c' ∧ Lt.length ≤ c'

/-- A block with values: the first so many have copied lists, the others those of the world W. -/
def Mix (W w : World) (g : Nat) (L : List T) (i : Nat) (news : List Pd) : Prop :=
  ∃ cu : Array Value, w.heap[g]? = some (.cells cu 45 (0, 0)) ∧ ∀ (j : Nat) (k n : Int) (s : ByteArray) (Lt : List T), L[j]? = some (.node k n s Lt) → s.size ≤ 9223372036854775807 ∧ cu[j * 4]? = some (.int .i64 k) ∧ cu[j * 4 + 1]? = some (.int .i64 n) ∧ cu[j * 4 + 2]? = some (.string s) ∧ ∃ v, cu[j * 4 + 3]? = some v ∧ (j < i → NewS news Lt v) ∧ (i ≤ j → ∃ a l c, v = .slice a l c ∧ l ≤ c ∧ LiesS W Lt a l)

theorem NewS.more {news news' : List Pd} {Lt : List T} {v : Value} (h : NewS news Lt v) (hs : ∀ q ∈ news, q ∈ news') : NewS news' Lt v := by
  rcases h with h | ⟨q, hq, h⟩
  · exact .inl h
  · exact .inr ⟨q, hs q hq, h⟩

theorem Mix.kept {W w w' : World} {g : Nat} {L : List T} {i : Nat} {news : List Pd} (h : Mix W w g L i news) (e : w'.heap[g]? = w.heap[g]?) : Mix W w' g L i news := by
  obtain ⟨cu, h1, h2⟩ := h
  exact ⟨cu, e.trans h1, h2⟩

theorem Mix.put {W w w' : World} {g : Nat} {L : List T} {i : Nat} {news news' : List Pd} {k n : Int} {s : ByteArray} {Lt : List T} {v : Value} (h : Mix W w g L i news) (hi : L[i]? = some (.node k n s Lt)) (hn : NewS news' Lt v) (hs : ∀ q ∈ news, q ∈ news')
    (hw : ∀ cu, w.heap[g]? = some (.cells cu 45 (0, 0)) → ∃ cu', w'.heap[g]? = some (.cells cu' 45 (0, 0)) ∧ (∀ x, x ≠ i * 4 + 3 → cu'[x]? = cu[x]?) ∧ (i * 4 + 3 < cu.size → cu'[i * 4 + 3]? = some v)) : Mix W w' g L (i + 1) news' := by
  obtain ⟨cu, h1, h2⟩ := h
  obtain ⟨cu', h3, h4, h5⟩ := hw cu h1
  refine ⟨cu', h3, fun j k' n' s' Lt' hj => ?_⟩
  obtain ⟨a0, a1, a2, a3, v0, a4, a5, a6⟩ := h2 j k' n' s' Lt' hj
  refine ⟨a0, (h4 _ (by omega)).trans a1, (h4 _ (by omega)).trans a2, (h4 _ (by omega)).trans a3, ?_⟩
  by_cases hji : j = i
  · subst hji
    rw [hi] at hj
    injection hj with hj
    injection hj with e1 e2 e3 e4
    subst e4
    exact ⟨v, h5 (Array.getElem?_eq_some_iff.1 a4).1, fun _ => hn, fun h => by omega⟩
  · refine ⟨v0, (h4 _ (by omega)).trans a4, fun h => (a5 (by omega)).more hs, fun h => a6 (by omega)⟩

/-- The whole is right, once what is still open is. -/
def Whole (W w : World) (L0 : List T) (g0 : Nat) (P : List Pd) (D : Nat → Prop) : Prop :=
  ∀ w' : World, w.heap.size ≤ w'.heap.size → (∀ i, D i → w'.heap[i]? = w.heap[i]?) → (∀ p ∈ P, LieA (fun i => W.heap.size ≤ i) w' p.L (some ⟨p.g, 0, none⟩) p.L.length) → LieA (fun i => W.heap.size ≤ i) w' L0 (some ⟨g0, 0, none⟩) L0.length

theorem Whole.kept {W w w1 : World} {L0 : List T} {g0 : Nat} {P : List Pd} {D : Nat → Prop} (h : Whole W w L0 g0 P D) (hz : w.heap.size ≤ w1.heap.size) (hD : ∀ i, D i → w1.heap[i]? = w.heap[i]?) : Whole W w1 L0 g0 P D :=
  fun w' z d p => h w' (Nat.le_trans hz z) (fun i hi => (d i hi).trans (hD i hi)) p

/-- A block all of whose lists are copied is a list of its own. -/
theorem mix_lie {W w w' : World} {g : Nat} {L : List T} {news : List Pd} (h : Mix W w g L L.length news) (hl : L.length ≤ 9223372036854775807) (hg : W.heap.size ≤ g) (hg' : g < w'.heap.size) (e : w'.heap[g]? = w.heap[g]?) (hn : ∀ q ∈ news, LieA (fun i => W.heap.size ≤ i) w' q.L (some ⟨q.g, 0, none⟩) q.L.length) :
    LieA (fun i => W.heap.size ≤ i) w' L (some ⟨g, 0, none⟩) L.length := by
  obtain ⟨cu, h1, h2⟩ := h.kept e
  have cell : ∀ o v, cu[o]? = some v → w'.cell? ⟨g, o, none⟩ = some v := fun o v hv => (cell_of h1 o).trans hv
  have all : ∀ m, m ≤ L.length → LieA (fun i => W.heap.size ≤ i) w' (L.drop (L.length - m)) (some ⟨g, (L.length - m) * 4, none⟩) m := by
    intro m
    induction m with
    | zero =>
      intro _
      rw [Nat.sub_zero, List.drop_length]
      unfold LieA
      rfl
    | succ m ih =>
      intro hm
      have ih := ih (by omega)
      obtain ⟨j, hj⟩ : ∃ j, j = L.length - (m + 1) := ⟨_, rfl⟩
      have hj' : L.length - m = j + 1 := by omega
      have hjl : j < L.length := by omega
      have hm63 : m + 1 ≤ 9223372036854775807 := by omega
      have hlen : (L.drop (j + 1)).length = m := by rw [List.length_drop]; omega
      rw [← hj]
      rw [hj'] at ih
      obtain ⟨t, ht, hd⟩ := drop_get (L := L) (i := j) (by omega)
      obtain ⟨k, n, s, Lt⟩ := t
      obtain ⟨a0, a1, a2, a3, v, a4, a5, _⟩ := h2 j k n s Lt ht
      rw [hd]
      unfold LieA
      refine ⟨g, j * 4, rfl, by rw [hlen], hm63, hg, hg', ?_, ?_⟩
      · unfold LieT
        refine ⟨a0, ?_⟩
        have hN := a5 hjl
        rcases hN with ⟨rfl, rfl⟩ | ⟨q, hq, rfl, _, c', rfl, hc'⟩
        · exact ⟨none, 0, 0, cell _ _ a1, cell _ _ a2, cell _ _ a3, cell _ _ a4, Nat.le_refl _, by unfold LieA; rfl⟩
        · exact ⟨_, _, c', cell _ _ a1, cell _ _ a2, cell _ _ a3, cell _ _ a4, hc', hn q hq⟩
      · rw [hlen]
        rw [show j * 4 + 4 = (j + 1) * 4 from by omega]
        exact ih
  have := all L.length (Nat.le_refl _)
  rw [Nat.sub_self, List.drop_zero, Nat.zero_mul] at this
  exact this

theorem Whole.next {W w : World} {L0 : List T} {g0 : Nat} {P news : List Pd} {p : Pd} {D : Nat → Prop} (h : Whole W w L0 g0 (P ++ [p]) D) (hm : Mix W w p.g p.L p.L.length news) (hl : p.L.length ≤ 9223372036854775807) (hg : W.heap.size ≤ p.g) (hg' : p.g < w.heap.size) : Whole W w L0 g0 (P ++ news) (fun i => D i ∨ i = p.g) := by
  intro w' z d hp
  refine h w' z (fun i hi => d i (.inl hi)) fun q hq => ?_
  rcases List.mem_append.1 hq with hq | hq
  · exact hp q (List.mem_append_left _ hq)
  · obtain rfl := List.mem_singleton.1 hq
    exact mix_lie hm hl hg (by omega) (d _ (.inr rfl)) (fun r hr => hp r (List.mem_append_right _ hr))

/-- Nothing on the stack lies in another's way. -/
structure Sep (W w : World) (P : List Pd) (D : Nat → Prop) (sb : Nat) : Prop where
  pend : ∀ p ∈ P, W.heap.size ≤ p.g ∧ p.g < w.heap.size ∧ p.g ≠ sb ∧ ¬ D p.g ∧ 0 < p.L.length ∧ p.L.length ≤ 9223372036854775807 ∧ Mix W w p.g p.L 0 []
  once : (P.map Pd.g).Nodup
  done : ∀ i, D i → i < w.heap.size ∧ i ≠ sb

theorem Sep.kept {W w w1 : World} {P : List Pd} {D : Nat → Prop} {sb sb1 : Nat} (h : Sep W w P D sb) (hz : w.heap.size ≤ w1.heap.size) (hk : ∀ p ∈ P, w1.heap[p.g]? = w.heap[p.g]?) (hs : sb1 = sb ∨ w.heap.size ≤ sb1) : Sep W w1 P D sb1 := by
  refine ⟨fun p hp => ?_, h.once, fun i hi => ?_⟩
  · obtain ⟨h1, h2, h3, h4, h5, h6, h7⟩ := h.pend p hp
    exact ⟨h1, by omega, by omega, h4, h5, h6, h7.kept (hk p hp)⟩
  · obtain ⟨h1, h2⟩ := h.done i hi
    exact ⟨by omega, by omega⟩

theorem Sep.more {W w : World} {P : List Pd} {D : Nat → Prop} {sb : Nat} {q : Pd} (h : Sep W w P D sb) (h1 : W.heap.size ≤ q.g ∧ q.g < w.heap.size ∧ q.g ≠ sb ∧ ¬ D q.g ∧ 0 < q.L.length ∧ q.L.length ≤ 9223372036854775807 ∧ Mix W w q.g q.L 0 []) (h2 : ∀ p ∈ P, p.g ≠ q.g) : Sep W w (P ++ [q]) D sb := by
  refine ⟨fun p hp => ?_, ?_, h.done⟩
  · rcases List.mem_append.1 hp with hp | hp
    · exact h.pend p hp
    · obtain rfl := List.mem_singleton.1 hp
      exact h1
  · rw [List.map_append, List.nodup_append]
    refine ⟨h.once, by simp, fun a ha b hb => ?_⟩
    obtain ⟨p, hp, rfl⟩ := List.mem_map.1 ha
    simp at hb
    subst hb
    exact h2 p hp

theorem Sep.pop {W w : World} {P : List Pd} {D : Nat → Prop} {sb : Nat} {p : Pd} (h : Sep W w (P ++ [p]) D sb) : Sep W w P (fun i => D i ∨ i = p.g) sb := by
  have hn := h.once
  rw [List.map_append, List.nodup_append] at hn
  obtain ⟨hp1, hp2, hp3, _⟩ := h.pend p (List.mem_append_right _ (List.mem_singleton_self _))
  refine ⟨fun q hq => ?_, hn.1, fun i hi => ?_⟩
  · obtain ⟨h1, h2, h3, h4, h5⟩ := h.pend q (List.mem_append_left _ hq)
    refine ⟨h1, h2, h3, fun hd => ?_, h5⟩
    rcases hd with hd | hd
    · exact h4 hd
    · exact hn.2.2 q.g (List.mem_map_of_mem hq) p.g (by simp) hd
  · rcases hi with hi | rfl
    · exact h.done i hi
    · exact ⟨hp2, hp3⟩

/-- The cells of a list that lies in memory. -/
theorem copy_cells {w : World} : ∀ (L : List T) (b off : Nat), LiesS w L (some ⟨b, off, none⟩) L.length → ∃ cs : List Value, cs.length = L.length * 4 ∧ (∀ j u, cs[j]? = some u → w.cell? ⟨b, off + j, none⟩ = some u) ∧ (∀ u ∈ cs, u.oneCell' = true) ∧ ∀ (j : Nat) (k n : Int) (s : ByteArray) (Lt : List T), L[j]? = some (.node k n s Lt) → s.size ≤ 9223372036854775807 ∧ cs[j * 4]? = some (.int .i64 k) ∧ cs[j * 4 + 1]? = some (.int .i64 n) ∧ cs[j * 4 + 2]? = some (.string s) ∧ ∃ a l c, cs[j * 4 + 3]? = some (.slice a l c) ∧ l ≤ c ∧ LiesS w Lt a l
  | [], b, off, _ => ⟨[], rfl, (fun j u h => by simp at h), (fun u h => by cases h), (fun j k n s Lt h => by simp at h)⟩
  | .node k n s Lt :: ts, b, off, h => by
    unfold LiesS at h
    obtain ⟨b', off', e, _, _, hb, hT, hS⟩ := h
    injection e with e
    injection e with e1 e2
    subst e1 e2
    unfold LiesT at hT
    obtain ⟨hs, a, l, c, c0, c1, c2, c3, hlc, hLt⟩ := hT
    obtain ⟨cs, q1, q2, q3, q4⟩ := copy_cells ts b (off + 4) hS
    refine ⟨[.int .i64 k, .int .i64 n, .string s, .slice a l c] ++ cs, by simp [q1]; omega, fun j u hu => ?_, fun u hu => ?_, fun j k' n' s' Lt' hj => ?_⟩
    · match j, hu with
      | 0, hu => simp at hu; subst hu; exact c0
      | 1, hu => simp at hu; subst hu; exact c1
      | 2, hu => simp at hu; subst hu; exact c2
      | 3, hu => simp at hu; subst hu; exact c3
      | j + 4, hu =>
        have hu' : cs[j]? = some u := by simpa using hu
        have := q2 j u hu'
        rw [show off + 4 + j = off + (j + 4) from by omega] at this
        exact this
    · rcases List.mem_append.1 hu with hu | hu
      · simp at hu
        rcases hu with rfl | rfl | rfl | rfl <;> rfl
      · exact q3 u hu
    · cases j with
      | zero =>
        simp at hj
        obtain ⟨rfl, rfl, rfl, rfl⟩ := hj
        exact ⟨hs, rfl, rfl, rfl, a, l, c, rfl, hlc, hLt⟩
      | succ j =>
        have hj' : ts[j]? = some (.node k' n' s' Lt') := by simpa using hj
        obtain ⟨a0, a1, a2, a3, a', l', c', a4, a5⟩ := q4 j k' n' s' Lt' hj'
        have sh : ∀ o, ([.int .i64 k, .int .i64 n, .string s, .slice a l c] ++ cs)[(j + 1) * 4 + o]? = cs[j * 4 + o]? := fun o => by
          rw [List.getElem?_append_right (by simp; omega)]
          congr 1
          simp
          omega
        exact ⟨a0, (sh 0).trans a1, (sh 1).trans a2, (sh 2).trans a3, a', l', c', (sh 3).trans a4, a5⟩

/-- A row of the call's own that holds such cells. -/
theorem mix_of_row {W w : World} {B g cap m : Nat} {cs : List Value} {L : List T} (h : w.ownsRow B 45 4 (.slice (some ⟨g, 0, none⟩) m cap) m cs)
    (hc : ∀ (j : Nat) (k n : Int) (s : ByteArray) (Lt : List T), L[j]? = some (.node k n s Lt) → s.size ≤ 9223372036854775807 ∧ cs[j * 4]? = some (.int .i64 k) ∧ cs[j * 4 + 1]? = some (.int .i64 n) ∧ cs[j * 4 + 2]? = some (.string s) ∧ ∃ a l c, cs[j * 4 + 3]? = some (.slice a l c) ∧ l ≤ c ∧ LiesS W Lt a l) : Mix W w g L 0 [] ∧ m ≤ cap := by
  rcases h.2 with ⟨e, _⟩ | ⟨g', cap', cur, e, h1, h2, h3, h4, h5, h6⟩
  · cases e
  · simp only [Value.slice.injEq, Option.some.injEq, Addr.mk.injEq, and_true, true_and] at e
    obtain ⟨rfl, rfl⟩ := e
    refine ⟨⟨cur, h2, fun j k n s Lt hj => ?_⟩, h3⟩
    obtain ⟨a0, a1, a2, a3, a, l, c, a4, a5⟩ := hc j k n s Lt hj
    have q : ∀ o u, cs[o]? = some u → cur[o]? = some u := fun o u hu => by
      rw [← h6, List.getElem?_take] at hu
      split at hu
      · simpa using hu
      · cases hu
    exact ⟨a0, q _ _ a1, q _ _ a2, q _ _ a3, _, q _ _ a4, fun h => absurd h (Nat.not_lt_zero _), fun _ => ⟨a, l, c, rfl, a5⟩⟩

theorem set_block {w : World} {b : Nat} {cu : Array Value} {t : TypeId} (h : w.heap[b]? = some (.cells cu t (0, 0))) (j : Nat) (v : Value) : ∃ cu' : Array Value, (w.setCell ⟨b, j, none⟩ v).heap[b]? = some (.cells cu' t (0, 0)) ∧ cu'.size = cu.size ∧ (∀ x, x ≠ j → cu'[x]? = cu[x]?) ∧ (j < cu.size → cu'[j]? = some v) := by
  refine ⟨cu.set! j v, by simp [World.setCell, Array.getElem?_modify, h], by simp, fun x hx => ?_, fun hj => ?_⟩
  · simp [Ne.symm hx]
  · simp [hj]

theorem list_of {α : Type} (Q : Nat → α → Prop) : ∀ l : Nat, (∀ i, i < l → ∃ x, Q i x) → ∃ L : List α, L.length = l ∧ ∀ i x, L[i]? = some x → Q i x
  | 0, _ => ⟨[], rfl, fun i x h => by simp at h⟩
  | l + 1, h => by
    obtain ⟨L, hl, hL⟩ := list_of Q l (fun i hi => h i (by omega))
    obtain ⟨x, hx⟩ := h l (by omega)
    refine ⟨L ++ [x], by simp [hl], fun i y hy => ?_⟩
    by_cases hi : i < L.length
    · rw [List.getElem?_append_left hi] at hy
      exact hL i y hy
    · rw [List.getElem?_append_right (by omega)] at hy
      have h2 := (List.getElem?_eq_some_iff.1 hy).1
      simp at h2
      have hil : i = l := by omega
      subst hil
      rw [hl, Nat.sub_self] at hy
      simp at hy
      subst hy
      exact hx

/-- What is right of a property, in a world: its value is a tree that lies there, and both checks of it answer its error. -/
def PrOk (w : World) (p : Pr) : Prop := (p.s.size ≤ 9223372036854775807 ∧ p.l ≤ p.c) ∧ ∃ L : List T, InT (.node p.k p.n p.s L) ∧ LiesS w L p.a p.l ∧ Both w p.val 0 p.e ∧ (p.e = 0 → Ck 6 (.node p.k p.n p.s L))

theorem PrOk.below {w w' : World} (k : Below w.heap.size w w') {p : Pr} (h : PrOk w p) : PrOk w' p := by
  obtain ⟨h1, L, h2, h3, h4, h5⟩ := h
  exact ⟨h1, L, h2, h3.below k, fun W hW => h4 W (below2 k hW), h5⟩

section
variable {H : Type} {enc : TypeId × Value → H} {w : World} {base : Nat} {spare : Nat → Bool} {held : Bool}

theorem cells_all {a : Addr} {k : Nat} {cs : List Value} (h : w.cells? base a k = some cs) : cs.length = k ∧ ∀ j v, cs[j]? = some v → w.cell? (a.add j) = some v := by
  unfold World.cells? at h
  split at h
  · have hl := mapM_some_length h
    refine ⟨by simpa using hl, fun j v hv => ?_⟩
    have hj : j < k := by
      have := (List.getElem?_eq_some_iff.1 hv).1
      simp at hl
      omega
    have := mapM_some_get h j j (by simp [hj])
    rw [hv] at this
    exact this
  · cases h

/-- A slice that reads: its elements, one by one. -/
theorem slice_rows {t e : TypeId} {k fuel : Nat} {a : Option Addr} {l c : Nat} {y : DataW H × List MemPlace} (hu : Tryz.prog.underlying t = some (.slice e)) (hk : Tryz.prog.cellsOf e = k) (h0 : 0 < k) (h : DataW.trod enc Tryz.prog w base spare held fuel t [.slice a l c] = some y) :
    l ≤ c ∧ l ≤ 9223372036854775807 ∧ (0 < l → ∃ b off, a = some ⟨b, off, none⟩ ∧ b < w.heap.size ∧ ∀ i, i < l → ∃ m cs z, cs.length = k ∧ (∀ j v, cs[j]? = some v → w.cell? ⟨b, off + i * k + j, none⟩ = some v) ∧ DataW.trod enc Tryz.prog w base spare held m e cs = some z) := by
  have hm : maxLen ≤ 9223372036854775807 := by unfold maxLen; decide
  rcases DataW.trod_slice hu h with ⟨e1, rfl⟩ | ⟨a', l', c', elems, rest, m, hfu, e1, rfl, _, h1, h2, hlen, hel, _⟩
  · simp at e1
    obtain ⟨_, rfl, rfl⟩ := e1
    exact ⟨Nat.le_refl _, by omega, fun h => absurd h (Nat.lt_irrefl _)⟩
  · simp at e1
    obtain ⟨rfl, rfl, rfl⟩ := e1
    refine ⟨h1, by omega, fun hp => ?_⟩
    have one : ∀ i, i < l → ∃ cs z, cs.length = k ∧ (∀ j v, cs[j]? = some v → w.cell? ((a'.add (i * k)).add j) = some v) ∧ DataW.trod enc Tryz.prog w base spare held m e cs = some z := by
      intro i hi
      have hi2 := hel i hi
      obtain ⟨z, hz⟩ : ∃ z, elems[i]? = some z := ⟨elems[i], by simp [hlen, hi]⟩
      rw [hz, hk, Option.bind_eq_some_iff] at hi2
      obtain ⟨cs, hcs, ht⟩ := hi2
      obtain ⟨q1, q2⟩ := cells_all hcs
      exact ⟨cs, z, q1, q2, ht⟩
    obtain ⟨b, off, sp⟩ := a'
    have hsp : sp = none ∧ b < w.heap.size := by
      obtain ⟨cs, z, q1, q2, _⟩ := one 0 hp
      have q0 := q2 0 cs[0] (by simp)
      rw [Nat.zero_mul, add_zero, add_zero] at q0
      exact spot_none q0
    obtain ⟨rfl, hb⟩ := hsp
    refine ⟨b, off, rfl, hb, fun i hi => ?_⟩
    obtain ⟨cs, z, q1, q2, q3⟩ := one i hi
    refine ⟨m, cs, z, q1, fun j v hv => ?_, q3⟩
    have := q2 j v hv
    rw [add_none, add_none] at this
    exact this

theorem len5 {cs : List Value} (h : cs.length = 5) : ∃ c0 c1 c2 c3 c4, cs = [c0, c1, c2, c3, c4] := by
  match cs, h with
  | [c0, c1, c2, c3, c4], _ => exact ⟨c0, c1, c2, c3, c4, rfl⟩

theorem len3 {cs : List Value} (h : cs.length = 3) : ∃ c0 c1 c2, cs = [c0, c1, c2] := by
  match cs, h with
  | [c0, c1, c2], _ => exact ⟨c0, c1, c2, rfl⟩

theorem slice_form {t e : TypeId} {fuel : Nat} {v : Value} {y : DataW H × List MemPlace} (hu : Tryz.prog.underlying t = some (.slice e)) (h : DataW.trod enc Tryz.prog w base spare held fuel t [v] = some y) : ∃ a l c, v = .slice a l c := by
  rcases DataW.trod_slice hu h with ⟨e1, _⟩ | ⟨a', l', c', elems, rest, m, hfu, e1, _⟩
  · simp at e1
    exact ⟨none, 0, 0, e1⟩
  · simp at e1
    exact ⟨some a', l', c', e1⟩

end

def NdOk (w : World) (x : Nd) : Prop := StrsAt w x.labs x.la x.ll ∧ PropsAt w x.props x.pa x.pl ∧ ∀ p ∈ x.props, PrOk w p
def EdOk (w : World) (x : Ed) : Prop := PropsAt w x.props x.pa x.pl ∧ ∀ p ∈ x.props, PrOk w p

/-- A graph lies in memory. -/
def GrOk (w : World) (N : List Nd) (E : List Ed) (na : Option Addr) (nl : Nat) (ea : Option Addr) (el : Nat) : Prop := NodesAt w N na nl ∧ EdgesAt w E ea el ∧ (∀ x ∈ N, NdOk w x) ∧ (∀ x ∈ E, EdOk w x)

theorem GrOk.below {w w' : World} (k : Below w.heap.size w w') {N : List Nd} {E : List Ed} {na : Option Addr} {nl : Nat} {ea : Option Addr} {el : Nat} (h : GrOk w N E na nl ea el) : GrOk w' N E na nl ea el :=
  ⟨h.1.below k, h.2.1.below k, fun x hx => ⟨(h.2.2.1 x hx).1.below k, (h.2.2.1 x hx).2.1.below k, fun p hp => ((h.2.2.1 x hx).2.2 p hp).below k⟩, fun x hx => ⟨(h.2.2.2 x hx).1.below k, fun p hp => ((h.2.2.2 x hx).2 p hp).below k⟩⟩

section
variable {H : Type} {enc : TypeId × Value → H} {w : World} {base : Nat} {spare : Nat → Bool} {held : Bool}

end
end Go.Proofs.YtbjkpbeijkmoeaaGreatDoor
