/-
  What is proved here: what the texts KkUp, KkRt prove, in one text.
-/
import Derived.Test.YtldpionmmplncaaDoorQOAD
import Derived.Test.YtldpionmmplncaaDoorQOAK
namespace Go.Proofs.YtldpionmmplncaaDoor
open Go.RowKit
set_option linter.unusedVariables false

set_option linter.unusedSimpArgs false

mutual
/-- What lies at a place is one. -/
theorem liesT_one {w : World} : ∀ (t t' : T) (b off : Nat), LiesT w t b off → LiesT w t' b off → t = t'
  | .node k n s L, .node k' n' s' L', b, off, h, h' => by
    unfold LiesT at h h'
    obtain ⟨_, a, l, c, q0, q1, q2, q3, _, hL⟩ := h
    obtain ⟨_, a', l', c', q0', q1', q2', q3', _, hL'⟩ := h'
    rw [q0] at q0'
    rw [q1] at q1'
    rw [q2] at q2'
    rw [q3] at q3'
    cases q0'
    cases q1'
    cases q2'
    cases q3'
    rw [liesS_one L L' a l hL hL']
theorem liesS_one {w : World} : ∀ (L L' : List T) (a : Option Addr) (l : Nat), LiesS w L a l → LiesS w L' a l → L = L'
  | [], [], _, _, _, _ => rfl
  | [], t :: ts, a, l, h, h' => by
    unfold LiesS at h h'
    obtain ⟨_, _, _, e, _⟩ := h'
    omega
  | t :: ts, [], a, l, h, h' => by
    unfold LiesS at h h'
    obtain ⟨_, _, _, e, _⟩ := h
    omega
  | t :: ts, t' :: ts', a, l, h, h' => by
    unfold LiesS at h h'
    obtain ⟨b, off, e1, e2, _, _, h1, h2⟩ := h
    obtain ⟨b', off', e1', e2', _, _, h1', h2'⟩ := h'
    rw [e1] at e1'
    injection e1' with e1'
    injection e1' with e3 e4
    subst e3 e4
    have el : ts.length = ts'.length := by omega
    rw [← el] at h2'
    rw [liesT_one t t' b off h1 h1', liesS_one ts ts' _ _ h2 h2']
end

/-- A property whose value has no more than so many values. -/
def PrOkU (w : World) (M : Nat) (p : Pr) : Prop := PrOk w p ∧ ∀ L, LiesS w L p.a p.l → wtL L ≤ M
def NdOkU (w : World) (M : Nat) (x : Nd) : Prop := NdOk w x ∧ ∀ p ∈ x.props, PrOkU w M p
def EdOkU (w : World) (M : Nat) (x : Ed) : Prop := EdOk w x ∧ ∀ p ∈ x.props, PrOkU w M p

section
variable {H : Type} {enc : TypeId × Value → H} {w : World} {base : Nat} {spare : Nat → Bool} {held : Bool}

theorem bulk_part {d : DataW H} {l : List (DataW H)} (h : d ∈ l) : Rows.uptoBulk d ≤ Rows.uptoBulkAll l := by
  induction l with
  | nil => cases h
  | cons x r ih =>
    simp only [Rows.uptoBulkAll]
    rcases List.mem_cons.1 h with e | e
    · subst e; omega
    · have := ih e; omega

/-- A value that reads: its four cells, how its list reads, and that the list is the lesser. -/
theorem trod_weight {fuel : Nat} {cs : List Value} {x : DataW H × List MemPlace} (h : DataW.trod enc Tryd.prog w base spare held fuel 34 cs = some x) :
    ∃ k n s a l c m y, cs = [.int .i64 k, .int .i64 n, .string s, .slice a l c] ∧ s.size ≤ maxLen ∧ fuel = m + 1 ∧ DataW.trod enc Tryd.prog w base spare held m 32 [.slice a l c] = some y ∧ Rows.uptoBulk y.1 + 1 ≤ Rows.uptoBulk x.1 := by
  obtain ⟨k, n, s, a, l, c, m, y, rfl, _, _, hs, rfl, hy⟩ := trod_value h
  refine ⟨k, n, s, a, l, c, m, y, rfl, hs, rfl, hy, ?_⟩
  obtain ⟨xs, m', e, rfl, hlen, hxs, hf⟩ := DataW.trod_struct Tryd.underlying34 h
  obtain rfl : m = m' := by omega
  have f3 : DataW.trod enc Tryd.prog w base spare held m 32 (([.int .i64 k, .int .i64 n, .string s, .slice a l c].drop 3).take (Tryd.prog.cellsOf 32)) = xs[3]? := hf 3 _ rfl
  rw [cells1l] at f3
  have g3 : DataW.trod enc Tryd.prog w base spare held m 32 [.slice a l c] = xs[3]? := f3
  rw [hy] at g3
  have hm : y ∈ xs := List.mem_of_getElem? g3.symm
  have := bulk_part (List.mem_map_of_mem (f := (·.1)) hm)
  simp only [Rows.uptoBulk]
  omega

/-- What reads is a tree that lies in memory. -/
theorem tree_of : ∀ (fuel : Nat) {a : Option Addr} {l c : Nat} {y : DataW H × List MemPlace}, DataW.trod enc Tryd.prog w base spare held fuel 32 [.slice a l c] = some y → l ≤ c ∧ ∃ L, LiesS w L a l ∧ wtL L ≤ Rows.uptoBulk y.1 := by
  have hm : maxLen ≤ 9223372036854775807 := by unfold maxLen; decide
  intro fuel
  induction fuel using Nat.strongRecOn with
  | _ fuel ih =>
  intro a l c y h
  rcases DataW.trod_slice Tryd.underlying32 h with ⟨e, rfl⟩ | ⟨a', l', c', elems, rest, m, hfu, e, rfl, _, h1, h2, hlen, hel, _⟩
  · simp at e
    obtain ⟨_, rfl, _⟩ := e
    refine ⟨Nat.zero_le _, [], by unfold LiesS; rfl, ?_⟩
    simp [wtL, Rows.uptoBulk]
  · simp at e
    obtain ⟨rfl, rfl, rfl⟩ := e
    refine ⟨h1, ?_⟩
    have one : ∀ i, i < l → ∃ z, elems[i]? = some z ∧ ∃ k n s2 a2 l2 c2 L2, w.cell? (a'.add (i * 4) |>.add 0) = some (.int .i64 k) ∧ w.cell? (a'.add (i * 4) |>.add 1) = some (.int .i64 n) ∧ w.cell? (a'.add (i * 4) |>.add 2) = some (.string s2) ∧ w.cell? (a'.add (i * 4) |>.add 3) = some (.slice a2 l2 c2) ∧ s2.size ≤ maxLen ∧ l2 ≤ c2 ∧ LiesS w L2 a2 l2 ∧ wtL L2 + 1 ≤ Rows.uptoBulk z.1 := by
      intro i hi
      have hi2 := hel i hi
      obtain ⟨z, hz⟩ : ∃ z, elems[i]? = some z := ⟨elems[i], by simp [hlen, hi]⟩
      refine ⟨z, hz, ?_⟩
      rw [hz, cells4, Option.bind_eq_some_iff] at hi2
      obtain ⟨cs, hcs, ht⟩ := hi2
      obtain ⟨c0, c1, c2, c3, rfl, q0, q1, q2, q3⟩ := cells_four hcs
      obtain ⟨k, n, s2, a2, l2, cc, m2, y2, e2, hs2, hm2, ht2, hb2⟩ := trod_weight ht
      simp only [List.cons.injEq, and_true] at e2
      obtain ⟨rfl, rfl, rfl, rfl⟩ := e2
      obtain ⟨hlc, L2, hL2, hw2⟩ := ih m2 (by omega) ht2
      exact ⟨k, n, s2, a2, l2, cc, L2, q0, q1, q2, q3, hs2, hlc, hL2, by omega⟩
    by_cases h0 : l = 0
    · subst h0
      refine ⟨[], by unfold LiesS; rfl, ?_⟩
      simp only [wtL, Rows.uptoBulk]
      omega
    · obtain ⟨b, off, sp⟩ := a'
      have hsp : sp = none ∧ b < w.heap.size := by
        obtain ⟨z, _, k, n, s2, a2, l2, c2, m2, q0, _⟩ := one 0 (by omega)
        rw [Nat.zero_mul, add_zero, add_zero] at q0
        exact spot_none q0
      obtain ⟨rfl, hb⟩ := hsp
      simp only [add_none] at one
      have all : ∀ j, j ≤ l → ∃ ts : List T, ts.length = j ∧ LiesS w ts (some ⟨b, off + (l - j) * 4, none⟩) j ∧ wtL ts ≤ Rows.uptoBulkAll ((elems.drop (l - j)).map (·.1)) + 1 := by
        intro j
        induction j with
        | zero =>
          intro _
          refine ⟨[], rfl, by unfold LiesS; rfl, ?_⟩
          simp only [wtL]
          omega
        | succ j ihj =>
          intro hj
          obtain ⟨ts, hl, hts, hw⟩ := ihj (by omega)
          obtain ⟨z, hz, k, n, s2, a2, l2, c2, L2, q0, q1, q2, q3, hs2, hlc, hL2, hw2⟩ := one (l - (j + 1)) (by omega)
          refine ⟨.node k n s2 L2 :: ts, by simp [hl], ?_, ?_⟩
          · unfold LiesS
            refine ⟨b, _, rfl, by omega, by omega, hb, ?_, ?_⟩
            · unfold LiesT
              exact ⟨by omega, a2, l2, c2, q0, q1, q2, q3, hlc, hL2⟩
            · rw [show off + (l - (j + 1)) * 4 + 4 = off + (l - j) * 4 from by omega, hl]
              exact hts
          · have e : elems.drop (l - (j + 1)) = z :: elems.drop (l - j) := by
              rw [show l - j = l - (j + 1) + 1 from by omega]
              obtain ⟨hlt, rfl⟩ := List.getElem?_eq_some_iff.1 hz
              exact (List.drop_eq_getElem_cons hlt)
            rw [e]
            simp only [wtL, wtT, List.map_cons, Rows.uptoBulkAll]
            omega
      obtain ⟨ts, hl, hts, hw⟩ := all l (Nat.le_refl _)
      rw [Nat.sub_self, Nat.zero_mul, Nat.add_zero] at hts
      rw [Nat.sub_self, List.drop_zero] at hw
      refine ⟨ts, hts, ?_⟩
      simp only [Rows.uptoBulk]
      omega

/-- A slice that reads: its elements, one by one. -/
theorem slice_rowsU {t e : TypeId} {k fuel : Nat} {a : Option Addr} {l c : Nat} {y : DataW H × List MemPlace} (hu : Tryd.prog.underlying t = some (.slice e)) (hk : Tryd.prog.cellsOf e = k) (h0 : 0 < k) (h : DataW.trod enc Tryd.prog w base spare held fuel t [.slice a l c] = some y) :
    l ≤ c ∧ l ≤ 9223372036854775807 ∧ (0 < l → ∃ b off, a = some ⟨b, off, none⟩ ∧ b < w.heap.size ∧ ∀ i, i < l → ∃ m cs z, cs.length = k ∧ (∀ j v, cs[j]? = some v → w.cell? ⟨b, off + i * k + j, none⟩ = some v) ∧ DataW.trod enc Tryd.prog w base spare held m e cs = some z ∧ Rows.uptoBulk z.1 ≤ Rows.uptoBulk y.1) := by
  have hm : maxLen ≤ 9223372036854775807 := by unfold maxLen; decide
  rcases DataW.trod_slice hu h with ⟨e1, rfl⟩ | ⟨a', l', c', elems, rest, m, hfu, e1, rfl, _, h1, h2, hlen, hel, _⟩
  · simp at e1
    obtain ⟨_, rfl, rfl⟩ := e1
    exact ⟨Nat.le_refl _, by omega, fun h => absurd h (Nat.lt_irrefl _)⟩
  · simp at e1
    obtain ⟨rfl, rfl, rfl⟩ := e1
    refine ⟨h1, by omega, fun hp => ?_⟩
    have one : ∀ i, i < l → ∃ cs z, cs.length = k ∧ (∀ j v, cs[j]? = some v → w.cell? ((a'.add (i * k)).add j) = some v) ∧ DataW.trod enc Tryd.prog w base spare held m e cs = some z ∧ z ∈ elems := by
      intro i hi
      have hi2 := hel i hi
      obtain ⟨z, hz⟩ : ∃ z, elems[i]? = some z := ⟨elems[i], by simp [hlen, hi]⟩
      rw [hz, hk, Option.bind_eq_some_iff] at hi2
      obtain ⟨cs, hcs, ht⟩ := hi2
      obtain ⟨q1, q2⟩ := cells_all hcs
      exact ⟨cs, z, q1, q2, ht, List.mem_of_getElem? hz⟩
    obtain ⟨b, off, sp⟩ := a'
    have hsp : sp = none ∧ b < w.heap.size := by
      obtain ⟨cs, z, q1, q2, _⟩ := one 0 hp
      have q0 := q2 0 cs[0] (by simp)
      rw [Nat.zero_mul, add_zero, add_zero] at q0
      exact spot_none q0
    obtain ⟨rfl, hb⟩ := hsp
    refine ⟨b, off, rfl, hb, fun i hi => ?_⟩
    obtain ⟨cs, z, q1, q2, q3, q4⟩ := one i hi
    refine ⟨m, cs, z, q1, fun j v hv => ?_, q3, ?_⟩
    rotate_left
    · have := bulk_part (List.mem_map_of_mem (f := (·.1)) q4)
      simp only [Rows.uptoBulk]
      omega
    have := q2 j v hv
    rw [add_none, add_none] at this
    exact this

theorem trod_propU {fuel : Nat} {cs : List Value} {x : DataW H × List MemPlace} (h : DataW.trod enc Tryd.prog w base spare held fuel 63 cs = some x) :
    ∃ name k n s a l c m y, cs = [.string name, .int .i64 k, .int .i64 n, .string s, .slice a l c] ∧ name.size ≤ maxLen ∧ (Lit.int .i64 k).wf = true ∧ (Lit.int .i64 n).wf = true ∧ s.size ≤ maxLen ∧ DataW.trod enc Tryd.prog w base spare held m 32 [.slice a l c] = some y ∧ Rows.uptoBulk y.1 ≤ Rows.uptoBulk x.1 := by
  obtain ⟨xs, m, rfl, rfl, hlen, hxs, hf⟩ := DataW.trod_struct Tryd.underlying63 h
  rw [cells5p] at hlen
  obtain ⟨c0, c1, c2, c3, c4, rfl⟩ := len5 hlen
  have f0 : DataW.trod enc Tryd.prog w base spare held m 9 (([c0, c1, c2, c3, c4].drop 0).take (Tryd.prog.cellsOf 9)) = xs[0]? := hf 0 _ rfl
  have f1 : DataW.trod enc Tryd.prog w base spare held m 34 (([c0, c1, c2, c3, c4].drop 1).take (Tryd.prog.cellsOf 34)) = xs[1]? := hf 1 _ rfl
  have hx : xs.length = 2 := hxs
  obtain ⟨y0, hy0⟩ : ∃ y, xs[0]? = some y := ⟨xs[0], by simp [hx]⟩
  obtain ⟨y1, hy1⟩ : ∃ y, xs[1]? = some y := ⟨xs[1], by simp [hx]⟩
  rw [hy0, cells1s] at f0
  rw [hy1, cells4] at f1
  have g0 : DataW.trod enc Tryd.prog w base spare held m 9 [c0] = some y0 := f0
  have g1 : DataW.trod enc Tryd.prog w base spare held m 34 [c1, c2, c3, c4] = some y1 := f1
  obtain ⟨name, e0, _, wn⟩ := DataW.trod_string Tryd.underlying9 g0
  have hb1 := bulk_part (List.mem_map_of_mem (f := (·.1)) (List.mem_of_getElem? hy1))
  obtain ⟨k, n, s, a, l, c, m', y, e1, wk, wn', hs, hm', hy⟩ := trod_value g1
  obtain ⟨k3, n3, s3, a3, l3, c3, m3, y3, e3, _, hm3, hy3, hb3⟩ := trod_weight g1
  rw [e1] at e3
  simp only [List.cons.injEq, and_true, Value.int.injEq, Value.string.injEq, Value.slice.injEq, true_and] at e3
  obtain ⟨rfl, rfl, rfl, rfl, rfl, rfl⟩ := e3
  obtain rfl : m' = m3 := by omega
  rw [hy] at hy3
  obtain rfl := Option.some.inj hy3
  simp only [List.cons.injEq, and_true] at e0 e1
  obtain ⟨rfl, rfl, rfl, rfl⟩ := e1
  subst e0
  exact ⟨name, k, n, s, a, l, c, m', y, rfl, wn, wk, wn', hs, hy, by simp only [Rows.uptoBulk]; omega⟩

theorem props_inU (M B : Nat) (hB : B ≤ w.heap.size) (hT : Tabs B w) {fuel : Nat} {a : Option Addr} {l c : Nat} {y : DataW H × List MemPlace} (h : DataW.trod enc Tryd.prog w base spare held fuel 36 [.slice a l c] = some y) (hM : Rows.uptoBulk y.1 ≤ M) : l ≤ c ∧ ∃ P, PropsAt w P a l ∧ ∀ p ∈ P, PrOkU w M p := by
  have hm : maxLen ≤ 9223372036854775807 := by unfold maxLen; decide
  obtain ⟨h1, h2, h3⟩ := slice_rowsU Tryd.underlying36 cells5p (by omega) h
  refine ⟨h1, ?_⟩
  by_cases h0 : l = 0
  · subst h0
    exact ⟨[], ⟨rfl, by omega, fun h => absurd h (Nat.lt_irrefl _)⟩, fun p hp => by cases hp⟩
  · obtain ⟨b, off, ha, hb, hall⟩ := h3 (by omega)
    obtain ⟨L, hl, hL⟩ := list_of (fun i (p : Pr) => (p.name.size ≤ 9223372036854775807 ∧ w.cell? ⟨b, off + i * 5, none⟩ = some (.string p.name) ∧ w.cell? ⟨b, off + i * 5 + 1, none⟩ = some (.int .i64 p.k) ∧ w.cell? ⟨b, off + i * 5 + 1 + 1, none⟩ = some (.int .i64 p.n) ∧ w.cell? ⟨b, off + i * 5 + 1 + 1 + 1, none⟩ = some (.string p.s) ∧ w.cell? ⟨b, off + i * 5 + 1 + 1 + 1 + 1, none⟩ = some (.slice p.a p.l p.c)) ∧ PrOkU w M p) l (fun i hi => by
      obtain ⟨m, cs, z, q1, q2, q3, q4⟩ := hall i hi
      obtain ⟨name, k, n, s, a, l, c, m', y', rfl, hn, wk, wn, hs, hy, hyb⟩ := trod_propU q3
      obtain ⟨_, L9, hL9, hw9⟩ := tree_of m' hy
      obtain ⟨hlc, LL, hLL, hin⟩ := tree_in m' hy
      have hn1 : -9223372036854775808 ≤ n ∧ n ≤ 9223372036854775807 := by simpa [Lit.wf, IntKind.min, IntKind.max, IntKind.signed, IntKind.bits] using wn
      have hT2 : InT (.node k n s LL) := by
        unfold InT
        exact ⟨hn1, hin⟩
      obtain ⟨e, he, hck⟩ := bk_all B w hB hT 6 0 rfl k n s a l c LL (by omega) hT2 hLL
      exact ⟨⟨name, k, n, s, a, l, c, e⟩, ⟨by show name.size ≤ _; omega, q2 0 _ rfl, q2 1 _ rfl, q2 2 _ rfl, q2 3 _ rfl, q2 4 _ rfl⟩, ⟨⟨(by show s.size ≤ _; omega), hlc⟩, LL, hT2, hLL, he, hck⟩, fun L8 hL8 => by rw [liesS_one L8 L9 _ _ hL8 hL9]; omega⟩)
    refine ⟨L, ⟨hl.symm, h2, fun _ => ⟨b, off, ha, hb, fun i p hp => (hL i p hp).1⟩⟩, fun p hp => ?_⟩
    obtain ⟨i, hi⟩ := List.getElem?_of_mem hp
    exact (hL i p hi).2

theorem trod_nodeU {fuel : Nat} {cs : List Value} {x : DataW H × List MemPlace} (h : DataW.trod enc Tryd.prog w base spare held fuel 87 cs = some x) :
    ∃ id la ll lc pa pl pc m y1 y2, cs = [.int .i64 id, .slice la ll lc, .slice pa pl pc] ∧ DataW.trod enc Tryd.prog w base spare held m 35 [.slice la ll lc] = some y1 ∧ DataW.trod enc Tryd.prog w base spare held m 36 [.slice pa pl pc] = some y2 ∧ Rows.uptoBulk y2.1 ≤ Rows.uptoBulk x.1 := by
  obtain ⟨xs, m, rfl, rfl, hlen, hxs, hf⟩ := DataW.trod_struct Tryd.underlying87 h
  rw [cells3n] at hlen
  obtain ⟨c0, c1, c2, rfl⟩ := len3 hlen
  have f0 : DataW.trod enc Tryd.prog w base spare held m 3 (([c0, c1, c2].drop 0).take (Tryd.prog.cellsOf 3)) = xs[0]? := hf 0 _ rfl
  have f1 : DataW.trod enc Tryd.prog w base spare held m 35 (([c0, c1, c2].drop 1).take (Tryd.prog.cellsOf 35)) = xs[1]? := hf 1 _ rfl
  have f2 : DataW.trod enc Tryd.prog w base spare held m 36 (([c0, c1, c2].drop 2).take (Tryd.prog.cellsOf 36)) = xs[2]? := hf 2 _ rfl
  have hx : xs.length = 3 := hxs
  obtain ⟨y0, hy0⟩ : ∃ y, xs[0]? = some y := ⟨xs[0], by simp [hx]⟩
  obtain ⟨y1, hy1⟩ : ∃ y, xs[1]? = some y := ⟨xs[1], by simp [hx]⟩
  obtain ⟨y2, hy2⟩ : ∃ y, xs[2]? = some y := ⟨xs[2], by simp [hx]⟩
  rw [hy0, cells1i] at f0
  rw [hy1, cells1t] at f1
  rw [hy2, cells1p] at f2
  have g0 : DataW.trod enc Tryd.prog w base spare held m 3 [c0] = some y0 := f0
  have g1 : DataW.trod enc Tryd.prog w base spare held m 35 [c1] = some y1 := f1
  have g2 : DataW.trod enc Tryd.prog w base spare held m 36 [c2] = some y2 := f2
  obtain ⟨id, e0, _, _⟩ := DataW.trod_int Tryd.underlying3 g0
  obtain ⟨la, ll, lc, rfl⟩ := slice_form Tryd.underlying35 g1
  obtain ⟨pa, pl, pc, rfl⟩ := slice_form Tryd.underlying36 g2
  simp only [List.cons.injEq, and_true] at e0
  subst e0
  exact ⟨id, la, ll, lc, pa, pl, pc, m, y1, y2, rfl, g1, g2, by have := bulk_part (List.mem_map_of_mem (f := (·.1)) (List.mem_of_getElem? hy2)); simp only [Rows.uptoBulk]; omega⟩

theorem trod_edgeU {fuel : Nat} {cs : List Value} {x : DataW H × List MemPlace} (h : DataW.trod enc Tryd.prog w base spare held fuel 89 cs = some x) :
    ∃ id frm dst typ pa pl pc m y, cs = [.int .i64 id, .int .i64 frm, .int .i64 dst, .string typ, .slice pa pl pc] ∧ typ.size ≤ maxLen ∧ DataW.trod enc Tryd.prog w base spare held m 36 [.slice pa pl pc] = some y ∧ Rows.uptoBulk y.1 ≤ Rows.uptoBulk x.1 := by
  obtain ⟨xs, m, rfl, rfl, hlen, hxs, hf⟩ := DataW.trod_struct Tryd.underlying89 h
  rw [cells5e] at hlen
  obtain ⟨c0, c1, c2, c3, c4, rfl⟩ := len5 hlen
  have f0 : DataW.trod enc Tryd.prog w base spare held m 3 (([c0, c1, c2, c3, c4].drop 0).take (Tryd.prog.cellsOf 3)) = xs[0]? := hf 0 _ rfl
  have f1 : DataW.trod enc Tryd.prog w base spare held m 3 (([c0, c1, c2, c3, c4].drop 1).take (Tryd.prog.cellsOf 3)) = xs[1]? := hf 1 _ rfl
  have f2 : DataW.trod enc Tryd.prog w base spare held m 3 (([c0, c1, c2, c3, c4].drop 2).take (Tryd.prog.cellsOf 3)) = xs[2]? := hf 2 _ rfl
  have f3 : DataW.trod enc Tryd.prog w base spare held m 9 (([c0, c1, c2, c3, c4].drop 3).take (Tryd.prog.cellsOf 9)) = xs[3]? := hf 3 _ rfl
  have f4 : DataW.trod enc Tryd.prog w base spare held m 36 (([c0, c1, c2, c3, c4].drop 4).take (Tryd.prog.cellsOf 36)) = xs[4]? := hf 4 _ rfl
  have hx : xs.length = 5 := hxs
  obtain ⟨y0, hy0⟩ : ∃ y, xs[0]? = some y := ⟨xs[0], by simp [hx]⟩
  obtain ⟨y1, hy1⟩ : ∃ y, xs[1]? = some y := ⟨xs[1], by simp [hx]⟩
  obtain ⟨y2, hy2⟩ : ∃ y, xs[2]? = some y := ⟨xs[2], by simp [hx]⟩
  obtain ⟨y3, hy3⟩ : ∃ y, xs[3]? = some y := ⟨xs[3], by simp [hx]⟩
  obtain ⟨y4, hy4⟩ : ∃ y, xs[4]? = some y := ⟨xs[4], by simp [hx]⟩
  rw [hy0, cells1i] at f0
  rw [hy1, cells1i] at f1
  rw [hy2, cells1i] at f2
  rw [hy3, cells1s] at f3
  rw [hy4, cells1p] at f4
  have g0 : DataW.trod enc Tryd.prog w base spare held m 3 [c0] = some y0 := f0
  have g1 : DataW.trod enc Tryd.prog w base spare held m 3 [c1] = some y1 := f1
  have g2 : DataW.trod enc Tryd.prog w base spare held m 3 [c2] = some y2 := f2
  have g3 : DataW.trod enc Tryd.prog w base spare held m 9 [c3] = some y3 := f3
  have g4 : DataW.trod enc Tryd.prog w base spare held m 36 [c4] = some y4 := f4
  obtain ⟨id, e0, _, _⟩ := DataW.trod_int Tryd.underlying3 g0
  obtain ⟨frm, e1, _, _⟩ := DataW.trod_int Tryd.underlying3 g1
  obtain ⟨dst, e2, _, _⟩ := DataW.trod_int Tryd.underlying3 g2
  obtain ⟨typ, e3, _, ws⟩ := DataW.trod_string Tryd.underlying9 g3
  obtain ⟨pa, pl, pc, rfl⟩ := slice_form Tryd.underlying36 g4
  simp only [List.cons.injEq, and_true] at e0 e1 e2 e3
  subst e0 e1 e2 e3
  exact ⟨id, frm, dst, typ, pa, pl, pc, m, y4, rfl, ws, g4, by have := bulk_part (List.mem_map_of_mem (f := (·.1)) (List.mem_of_getElem? hy4)); simp only [Rows.uptoBulk]; omega⟩

theorem nodes_inU (M B : Nat) (hB : B ≤ w.heap.size) (hT : Tabs B w) {fuel : Nat} {a : Option Addr} {l c : Nat} {y : DataW H × List MemPlace} (h : DataW.trod enc Tryd.prog w base spare held fuel 53 [.slice a l c] = some y) (hM : Rows.uptoBulk y.1 ≤ M) : ∃ N, NodesAt w N a l ∧ ∀ x ∈ N, NdOkU w M x := by
  obtain ⟨h1, h2, h3⟩ := slice_rowsU Tryd.underlying53 cells3n (by omega) h
  by_cases h0 : l = 0
  · subst h0
    exact ⟨[], ⟨rfl, by omega, fun h => absurd h (Nat.lt_irrefl _)⟩, fun p hp => by cases hp⟩
  · obtain ⟨b, off, ha, hb, hall⟩ := h3 (by omega)
    obtain ⟨L, hl, hL⟩ := list_of (fun i (x : Nd) => (w.cell? ⟨b, off + i * 3, none⟩ = some (.int .i64 x.id) ∧ w.cell? ⟨b, off + i * 3 + 1, none⟩ = some (.slice x.la x.ll x.lc) ∧ w.cell? ⟨b, off + i * 3 + 1 + 1, none⟩ = some (.slice x.pa x.pl x.pc)) ∧ NdOkU w M x) l (fun i hi => by
      obtain ⟨m, cs, z, q1, q2, q3, q4⟩ := hall i hi
      obtain ⟨id, la, ll, lc, pa, pl, pc, m', y1, y2, rfl, g1, g2, hyb⟩ := trod_nodeU q3
      obtain ⟨_, LL, hLL⟩ := strs_in g1
      obtain ⟨_, P, hP, hO⟩ := props_inU M B hB hT g2 (by omega)
      exact ⟨⟨id, LL, la, ll, lc, P, pa, pl, pc⟩, ⟨q2 0 _ rfl, q2 1 _ rfl, q2 2 _ rfl⟩, ⟨hLL, hP, fun p hp => (hO p hp).1⟩, hO⟩)
    refine ⟨L, ⟨hl.symm, h2, fun _ => ⟨b, off, ha, hb, fun i p hp => (hL i p hp).1⟩⟩, fun p hp => ?_⟩
    obtain ⟨i, hi⟩ := List.getElem?_of_mem hp
    exact (hL i p hi).2

theorem edges_inU (M B : Nat) (hB : B ≤ w.heap.size) (hT : Tabs B w) {fuel : Nat} {a : Option Addr} {l c : Nat} {y : DataW H × List MemPlace} (h : DataW.trod enc Tryd.prog w base spare held fuel 54 [.slice a l c] = some y) (hM : Rows.uptoBulk y.1 ≤ M) : ∃ E, EdgesAt w E a l ∧ ∀ x ∈ E, EdOkU w M x := by
  have hm : maxLen ≤ 9223372036854775807 := by unfold maxLen; decide
  obtain ⟨h1, h2, h3⟩ := slice_rowsU Tryd.underlying54 cells5e (by omega) h
  by_cases h0 : l = 0
  · subst h0
    exact ⟨[], ⟨rfl, by omega, fun h => absurd h (Nat.lt_irrefl _)⟩, fun p hp => by cases hp⟩
  · obtain ⟨b, off, ha, hb, hall⟩ := h3 (by omega)
    obtain ⟨L, hl, hL⟩ := list_of (fun i (x : Ed) => (x.typ.size ≤ 9223372036854775807 ∧ w.cell? ⟨b, off + i * 5, none⟩ = some (.int .i64 x.id) ∧ w.cell? ⟨b, off + i * 5 + 1, none⟩ = some (.int .i64 x.frm) ∧ w.cell? ⟨b, off + i * 5 + 1 + 1, none⟩ = some (.int .i64 x.dst) ∧ w.cell? ⟨b, off + i * 5 + 1 + 1 + 1, none⟩ = some (.string x.typ) ∧ w.cell? ⟨b, off + i * 5 + 1 + 1 + 1 + 1, none⟩ = some (.slice x.pa x.pl x.pc)) ∧ EdOkU w M x) l (fun i hi => by
      obtain ⟨m, cs, z, q1, q2, q3, q4⟩ := hall i hi
      obtain ⟨id, frm, dst, typ, pa, pl, pc, m', y2, rfl, ht, g2, hyb⟩ := trod_edgeU q3
      obtain ⟨_, P, hP, hO⟩ := props_inU M B hB hT g2 (by omega)
      exact ⟨⟨id, frm, dst, typ, P, pa, pl, pc⟩, ⟨by show typ.size ≤ _; omega, q2 0 _ rfl, q2 1 _ rfl, q2 2 _ rfl, q2 3 _ rfl, q2 4 _ rfl⟩, ⟨hP, fun p hp => (hO p hp).1⟩, hO⟩)
    refine ⟨L, ⟨hl.symm, h2, fun _ => ⟨b, off, ha, hb, fun i p hp => (hL i p hp).1⟩⟩, fun p hp => ?_⟩
    obtain ⟨i, hi⟩ := List.getElem?_of_mem hp
    exact (hL i p hi).2

theorem graph_inU (M B : Nat) (hB : B ≤ w.heap.size) (hT : Tabs B w) {fuel : Nat} {cs : List Value} {x : DataW H × List MemPlace} (h : DataW.trod enc Tryd.prog w base spare held fuel 56 cs = some x) (hM : Rows.uptoBulk x.1 ≤ M) :
    ∃ na nl nc ea el ec nx, cs = [.slice na nl nc, .slice ea el ec, .int .i64 nx] ∧ (Lit.int .i64 nx).wf = true ∧ ∃ N E, GrOk w N E na nl ea el ∧ (∀ x ∈ N, ∀ p ∈ x.props, PrOkU w M p) ∧ ∀ x ∈ E, ∀ p ∈ x.props, PrOkU w M p := by
  obtain ⟨xs, m, rfl, rfl, hlen, hxs, hf⟩ := DataW.trod_struct Tryd.underlying56 h
  rw [cells3g] at hlen
  obtain ⟨c0, c1, c2, rfl⟩ := len3 hlen
  have f0 : DataW.trod enc Tryd.prog w base spare held m 53 (([c0, c1, c2].drop 0).take (Tryd.prog.cellsOf 53)) = xs[0]? := hf 0 _ rfl
  have f1 : DataW.trod enc Tryd.prog w base spare held m 54 (([c0, c1, c2].drop 1).take (Tryd.prog.cellsOf 54)) = xs[1]? := hf 1 _ rfl
  have f2 : DataW.trod enc Tryd.prog w base spare held m 3 (([c0, c1, c2].drop 2).take (Tryd.prog.cellsOf 3)) = xs[2]? := hf 2 _ rfl
  have hx : xs.length = 3 := hxs
  obtain ⟨y0, hy0⟩ : ∃ y, xs[0]? = some y := ⟨xs[0], by simp [hx]⟩
  obtain ⟨y1, hy1⟩ : ∃ y, xs[1]? = some y := ⟨xs[1], by simp [hx]⟩
  obtain ⟨y2, hy2⟩ : ∃ y, xs[2]? = some y := ⟨xs[2], by simp [hx]⟩
  rw [hy0, cells1n] at f0
  rw [hy1, cells1e] at f1
  rw [hy2, cells1i] at f2
  have g0 : DataW.trod enc Tryd.prog w base spare held m 53 [c0] = some y0 := f0
  have g1 : DataW.trod enc Tryd.prog w base spare held m 54 [c1] = some y1 := f1
  have g2 : DataW.trod enc Tryd.prog w base spare held m 3 [c2] = some y2 := f2
  obtain ⟨nx, e2, _, wx⟩ := DataW.trod_int Tryd.underlying3 g2
  obtain ⟨na, nl, nc, rfl⟩ := slice_form Tryd.underlying53 g0
  obtain ⟨ea, el, ec, rfl⟩ := slice_form Tryd.underlying54 g1
  simp only [List.cons.injEq, and_true] at e2
  subst e2
  have hb0 := bulk_part (List.mem_map_of_mem (f := (·.1)) (List.mem_of_getElem? hy0))
  have hb1 := bulk_part (List.mem_map_of_mem (f := (·.1)) (List.mem_of_getElem? hy1))
  simp only [Rows.uptoBulk] at hM
  obtain ⟨N, hN, hN2⟩ := nodes_inU M B hB hT g0 (by omega)
  obtain ⟨E, hE, hE2⟩ := edges_inU M B hB hT g1 (by omega)
  exact ⟨na, nl, nc, ea, el, ec, nx, rfl, wx, N, E, ⟨hN, hE, fun x hx => (hN2 x hx).1, fun x hx => (hE2 x hx).1⟩, fun x hx => (hN2 x hx).2, fun x hx => (hE2 x hx).2⟩
end

/-- A graph that its check takes, by what it holds, is right. -/
theorem gr_rightU {w : World} {N : List Nd} {E : List Ed} {na : Option Addr} {nl : Nat} {ea : Option Addr} {el : Nat} {next : Int} (h : GrOk w N E na nl ea el) (h0 : gE N E next = 0) (M : Nat) (u1 : ∀ x ∈ N, ∀ p ∈ x.props, PrOkU w M p) (u2 : ∀ x ∈ E, ∀ p ∈ x.props, PrOkU w M p) :
    ∃ XN XE, NsAt w XN na nl ∧ EsAt w XE ea el ∧ (∀ made, Rt ⟨XN, XE, next, made⟩) ∧ (∀ x ∈ XN, ∀ q ∈ x.props, wtT q.t ≤ M + 1) ∧ ∀ x ∈ XE, ∀ q ∈ x.props, wtT q.t ≤ M + 1 := by
  obtain ⟨h1, h2, h3, h4⟩ := h
  have r := (gE_iff N E next).1 h0
  obtain ⟨XN, p1, o1⟩ := nodes_right h3 r.nds
  obtain ⟨XE, p2, o2⟩ := edges_right h2 h4 (fun x hx => (r.eds x hx).2.2.2.2)
  have e1 : N.map Nd.id = XN.map AN.id := pair_map p1 fun p x h => h.1
  have e2 : E.map Ed.id = XE.map AE.id := pair_map p2 fun p x h => h.1
  have one : ∀ (pr : Pr) (q : AP), PrIn AnyB w pr q → PrOkU w M pr → wtT q.t ≤ M + 1 := fun pr q hq hu => by
    obtain ⟨_, _, _, _, Lt, e, hL⟩ := hq
    have := hu.2 Lt (LieA.lies _ _ _ hL)
    rw [e, wtT]
    omega
  have w1 : ∀ x ∈ XN, ∀ q ∈ x.props, wtT q.t ≤ M + 1 := fun x hx q hq => by
    obtain ⟨p, hp, h⟩ := pair_mem p1 hx
    obtain ⟨pr, hpr, h'⟩ := pair_mem h.2.2.2.2 hq
    exact one pr q h' (u1 p hp pr hpr)
  have w2 : ∀ x ∈ XE, ∀ q ∈ x.props, wtT q.t ≤ M + 1 := fun x hx q hq => by
    obtain ⟨p, hp, h⟩ := pair_mem p2 hx
    obtain ⟨pr, hpr, h'⟩ := pair_mem h.2.2.2.2.2.2 hq
    exact one pr q h' (u2 p hp pr hpr)
  refine ⟨XN, XE, ⟨N, h1, p1⟩, ⟨E, h2, p2⟩, ?_, w1, w2⟩
  refine fun made => ⟨by show XN.length ≤ 40; rw [← p1.1]; exact r.n40, by show XE.length ≤ 60; rw [← p2.1]; exact r.e60, by show Rise (XN.map AN.id); rw [← e1]; exact r.nri, by show Rise (XE.map AE.id); rw [← e2]; exact r.eri, r.pos, r.most, fun X hX => ?_, fun X hX => ?_, o1, fun X hX => ?_⟩
  · obtain ⟨p, hp, h⟩ := pair_mem p1 hX
    rw [← h.1]
    exact r.nid p hp
  · obtain ⟨p, hp, h⟩ := pair_mem p2 hX
    have hno := (r.eds p hp).1
    unfold hasN at hno
    rw [e1] at hno
    rw [← h.1]
    exact ⟨(r.eid p hp).1, (r.eid p hp).2, by simpa using hno⟩
  · obtain ⟨p, hp, h⟩ := pair_mem p2 hX
    have hq := r.eds p hp
    unfold hasN at hq
    rw [e1] at hq
    rw [← h.2.1, ← h.2.2.1, ← h.2.2.2.1]
    exact ⟨hq.2.1, by simpa using hq.2.2.1, by simpa using hq.2.2.2.1, o2 X hX⟩

theorem numB_len {z : Int} (h0 : -9223372036854775808 ≤ z) (h1 : z ≤ 9223372036854775807) : (numB z).length ≤ 10 := bts_len10 (zig_le z h0 h1)

theorem txB_len {s : ByteArray} (h : s.size ≤ 1000000) : (txB s).length ≤ 10 + s.size := by
  unfold txB
  rw [List.length_append]
  have := bts_len10 (n := s.size) (by omega)
  have e : s.data.toList.length = s.size := by simp
  omega

theorem flat_bound {α : Type} {f : α → List UInt8} {c : Nat} : ∀ L : List α, (∀ x ∈ L, (f x).length ≤ c) → ((L.map f).flatten).length ≤ L.length * c
  | [], _ => by simp
  | x :: L, h => by
    have h1 := h x (by simp)
    have h2 := flat_bound L (fun y hy => h y (by simp [hy]))
    simp only [List.map_cons, List.flatten_cons, List.length_append, List.length_cons, Nat.add_mul, Nat.one_mul]
    omega

theorem eaB_len {α : Type} {f : α → List UInt8} {c : Nat} (L : List α) (h0 : L.length ≤ 1000) (h : ∀ x ∈ L, (f x).length ≤ c) : (eaB f L).length ≤ 10 + L.length * c := by
  unfold eaB
  rw [List.length_append]
  have := bts_len10 (n := L.length) (by omega)
  have := flat_bound L h
  omega

theorem vB_len : ∀ (d : Nat) (t : T), Ck d t → (vB t).length ≤ 4020 * wtT t := by
  intro d
  induction d with
  | zero =>
    intro t h
    cases h with
    | null => simp [vB, wtT, wtL]
    | bool _ n hn =>
      have := numB_len (z := n) (by rcases hn with rfl | rfl <;> omega) (by rcases hn with rfl | rfl <;> omega)
      simp [vB, wtT, wtL]
      omega
    | int _ n a b =>
      have := numB_len a b
      simp [vB, wtT, wtL]
      omega
    | text _ s a b =>
      have := txB_len (s := s) (by omega)
      simp [vB, wtT, wtL]
      omega
  | succ d ih =>
    intro t h
    cases h with
    | null => simp [vB, wtT, wtL]
    | bool _ n hn =>
      have := numB_len (z := n) (by rcases hn with rfl | rfl <;> omega) (by rcases hn with rfl | rfl <;> omega)
      simp [vB, wtT, wtL]
      omega
    | int _ n a b =>
      have := numB_len a b
      simp [vB, wtT, wtL]
      omega
    | text _ s a b =>
      have := txB_len (s := s) (by omega)
      simp [vB, wtT, wtL]
      omega
    | list _ L a b =>
      have all : ∀ L : List T, (∀ t ∈ L, Ck d t) → (vsB L).length + 4020 ≤ 4020 * wtL L := by
        intro L
        induction L with
        | nil => intro _; simp [vsB, wtL]
        | cons t ts ihs =>
          intro h
          have h1 := ih t (h t (by simp))
          have h2 := ihs (fun u hu => h u (by simp [hu]))
          rw [vsB, wtL, List.length_append]
          omega
      have h1 := all L b
      have h2 := bts_len10 (n := L.length) (by omega)
      rw [vB, wtT]
      simp
      omega

theorem pB_len {M : Nat} (p : AP) (hn : p.name.size ≤ 12) (hc : Ck 6 p.t) (hw : wtT p.t ≤ M) : (pB p).length ≤ 22 + 4020 * M := by
  unfold pB
  rw [List.length_append]
  have h1 := txB_len (s := p.name) (by omega)
  have h2 := vB_len 6 p.t hc
  have h3 : 4020 * wtT p.t ≤ 4020 * M := Nat.mul_le_mul_left _ hw
  omega

theorem nm_size {s : ByteArray} (h : nm s = true) : s.size ≤ 12 := by
  unfold nm at h
  simp only [Bool.and_eq_true, decide_eq_true_eq] at h
  exact h.1.2

theorem rt_w {S : WS} (h : Rt S) : (∀ x ∈ S.N, NodeW x) ∧ ∀ x ∈ S.E, EdgeW x := by
  have hnx := h.next
  have idN : ∀ i ∈ S.N.map AN.id, 0 < i ∧ i < S.next := fun i hi => by
    obtain ⟨y, hy, rfl⟩ := List.mem_map.1 hi
    exact h.nid y hy
  refine ⟨fun x hx => ?_, fun x hx => ?_⟩
  · have h1 := h.nid x hx
    have h2 := h.nds x hx
    exact ⟨⟨by omega, by omega⟩, fun s hs => by have := nm_size (h2.1.2.2 s hs); omega, fun p hp => ⟨by have := nm_size (h2.2.2.2 p hp).1; omega, (h2.2.2.2 p hp).2.2⟩⟩
  · have h1 := h.eid x hx
    have h2 := h.eds x hx
    have h3 := idN _ h2.2.1
    have h4 := idN _ h2.2.2.1
    exact ⟨⟨⟨by omega, by omega⟩, ⟨by omega, by omega⟩, ⟨by omega, by omega⟩⟩, by have := nm_size h2.1; omega, fun p hp => ⟨by have := nm_size (h2.2.2.2.2.2 p hp).1; omega, (h2.2.2.2.2.2 p hp).2.2⟩⟩

theorem gB_len {S : WS} (h : Rt S) (w1 : ∀ x ∈ S.N, ∀ q ∈ x.props, wtT q.t ≤ 1048577) (w2 : ∀ x ∈ S.E, ∀ q ∈ x.props, wtT q.t ≤ 1048577) : (gB S.next S.N S.E).length ≤ 100000000000000 := by
  obtain ⟨o1, o2⟩ := rt_w h
  have hnx := h.next
  have hps := h.pos
  have n40 := h.n40
  have e60 := h.e60
  have n1 := numB_len (z := S.next) (by omega) (by omega)
  have a1 : ∀ x ∈ S.N, (nB x).length ≤ 30000000000 := fun x hx => by
    have h2 := h.nds x hx
    have b0 := numB_len (o1 x hx).1.1 (o1 x hx).1.2
    have b1 := eaB_len (f := txB) (c := 22) x.labs (by have := h2.1.2.1; omega) (fun s hs => by have q := nm_size (h2.1.2.2 s hs); have := txB_len (s := s) (by omega); omega)
    have b2 := eaB_len (f := pB) (c := 22 + 4020 * 1048577) x.props (by have := h2.2.2.1; omega) (fun p hp => pB_len p (nm_size (h2.2.2.2 p hp).1) (h2.2.2.2 p hp).2.2 (w1 x hx p hp))
    have l1 := h2.1.2.1
    have l2 := h2.2.2.1
    unfold nB
    rw [List.length_append, List.length_append]
    omega
  have a2 : ∀ x ∈ S.E, (eB x).length ≤ 30000000000 := fun x hx => by
    have h2 := h.eds x hx
    have q := o2 x hx
    have b0 := numB_len q.1.1.1 q.1.1.2
    have b1 := numB_len q.1.2.1.1 q.1.2.1.2
    have b3 := numB_len q.1.2.2.1 q.1.2.2.2
    have b4 := txB_len (s := x.typ) (by have := nm_size h2.1; omega)
    have b5 := nm_size h2.1
    have b2 := eaB_len (f := pB) (c := 22 + 4020 * 1048577) x.props (by have := h2.2.2.2.2.1; omega) (fun p hp => pB_len p (nm_size (h2.2.2.2.2.2 p hp).1) (h2.2.2.2.2.2 p hp).2.2 (w2 x hx p hp))
    have l2 := h2.2.2.2.2.1
    unfold eB
    rw [List.length_append, List.length_append, List.length_append, List.length_append]
    omega
  have c1 := eaB_len S.N (by omega) a1
  have c2 := eaB_len S.E (by omega) a2
  unfold gB
  rw [List.length_append, List.length_append]
  omega
end Go.Proofs.YtldpionmmplncaaDoor
