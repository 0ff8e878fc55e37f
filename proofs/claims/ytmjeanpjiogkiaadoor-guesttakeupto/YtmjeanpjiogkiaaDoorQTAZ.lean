/-
  What is proved here: what the texts GuArgT, GuApp, GuWild, GuLawK prove, in one text.
-/
import Derived.Test.YtmjeanpjiogkiaaDoorQTAU
import Derived.Test.YtmjeanpjiogkiaaDoorQTAE
import Derived.Test.YtmjeanpjiogkiaaDoorQTAY
import Derived.Test.YtmjeanpjiogkiaaDoorQTAT
import Derived.Test.YtmjeanpjiogkiaaDoorQTAV
namespace Go.Proofs.YtmjeanpjiogkiaaDoor
open Go.RowKit
set_option linter.unusedVariables false

set_option linter.unusedSimpArgs false

mutual
/-- What lies at a place is one. -/
theorem liesT_one {w : World} : ∀ (t t' : T) (b off : Nat), LiesT w t b off → LiesT w t' b off → t = t'
  | .node k n s L, .node k' n' s' L', b, off, h, h' => by
    unfold LiesT at h h'
    obtain ⟨_, a, l, c, q0, q1, q2, q3, _, hL⟩ := h
    obtain ⟨_, a', l', c', q0', q1', q2', q3', _, hL'⟩ := h'
    rw [q0] at q0'
    rw [q1] at q1'
    rw [q2] at q2'
    rw [q3] at q3'
    cases q0'
    cases q1'
    cases q2'
    cases q3'
    rw [liesS_one L L' a l hL hL']
theorem liesS_one {w : World} : ∀ (L L' : List T) (a : Option Addr) (l : Nat), LiesS w L a l → LiesS w L' a l → L = L'
  | [], [], _, _, _, _ => rfl
  | [], t :: ts, a, l, h, h' => by
    unfold LiesS at h h'
    obtain ⟨_, _, _, e, _⟩ := h'
    omega
  | t :: ts, [], a, l, h, h' => by
    unfold LiesS at h h'
    obtain ⟨_, _, _, e, _⟩ := h
    omega
  | t :: ts, t' :: ts', a, l, h, h' => by
    unfold LiesS at h h'
    obtain ⟨b, off, e1, e2, _, _, h1, h2⟩ := h
    obtain ⟨b', off', e1', e2', _, _, h1', h2'⟩ := h'
    rw [e1] at e1'
    injection e1' with e1'
    injection e1' with e3 e4
    subst e3 e4
    have el : ts.length = ts'.length := by omega
    rw [← el] at h2'
    rw [liesT_one t t' b off h1 h1', liesS_one ts ts' _ _ h2 h2']
end

/-- A bag's counts, right or not. -/
structure BagF (w : World) (a : Option Addr) (l c : Nat) (z : Int) (F : List Ct) : Prop where
  z : BagZ w a l c z (F.map Ct.cn)
  at' : CtsAt w F a l
  lies : ∀ x ∈ F, (LiesS w x.L x.a x.l ∧ x.l ≤ x.c) ∧ InL x.L ∧ wtL x.L ≤ 1099511627776

section
variable {H : Type} {enc : TypeId × Value → H} {w : World} {base : Nat} {spare : Nat → Bool} {held : Bool}

/-- A slice that reads: its elements, one by one. -/
theorem slice_rowsU {t e : TypeId} {k fuel : Nat} {a : Option Addr} {l c : Nat} {y : DataW H × List MemPlace} (hu : Tryd.prog.underlying t = some (.slice e)) (hk : Tryd.prog.cellsOf e = k) (h0 : 0 < k) (h : DataW.trod enc Tryd.prog w base spare held fuel t [.slice a l c] = some y) :
    l ≤ c ∧ l ≤ 9223372036854775807 ∧ (0 < l → ∃ b off, a = some ⟨b, off, none⟩ ∧ b < w.heap.size ∧ ∀ i, i < l → ∃ m cs z, cs.length = k ∧ (∀ j v, cs[j]? = some v → w.cell? ⟨b, off + i * k + j, none⟩ = some v) ∧ DataW.trod enc Tryd.prog w base spare held m e cs = some z ∧ Rows.uptoBulk z.1 ≤ Rows.uptoBulk y.1) := by
  have hm : maxLen ≤ 9223372036854775807 := by unfold maxLen; decide
  rcases DataW.trod_slice hu h with ⟨e1, rfl⟩ | ⟨a', l', c', elems, rest, m, hfu, e1, rfl, _, h1, h2, hlen, hel, _⟩
  · simp at e1
    obtain ⟨_, rfl, rfl⟩ := e1
    exact ⟨Nat.le_refl _, by omega, fun h => absurd h (Nat.lt_irrefl _)⟩
  · simp at e1
    obtain ⟨rfl, rfl, rfl⟩ := e1
    refine ⟨h1, by omega, fun hp => ?_⟩
    have one : ∀ i, i < l → ∃ cs z, cs.length = k ∧ (∀ j v, cs[j]? = some v → w.cell? ((a'.add (i * k)).add j) = some v) ∧ DataW.trod enc Tryd.prog w base spare held m e cs = some z ∧ z ∈ elems := by
      intro i hi
      have hi2 := hel i hi
      obtain ⟨z, hz⟩ : ∃ z, elems[i]? = some z := ⟨elems[i], by simp [hlen, hi]⟩
      rw [hz, hk, Option.bind_eq_some_iff] at hi2
      obtain ⟨cs, hcs, ht⟩ := hi2
      obtain ⟨q1, q2⟩ := cells_all hcs
      exact ⟨cs, z, q1, q2, ht, List.mem_of_getElem? hz⟩
    obtain ⟨b, off, sp⟩ := a'
    have hsp : sp = none ∧ b < w.heap.size := by
      obtain ⟨cs, z, q1, q2, _⟩ := one 0 hp
      have q0 := q2 0 cs[0] (by simp)
      rw [Nat.zero_mul, add_zero, add_zero] at q0
      exact spot_none q0
    obtain ⟨rfl, hb⟩ := hsp
    refine ⟨b, off, rfl, hb, fun i hi => ?_⟩
    obtain ⟨cs, z, q1, q2, q3, q4⟩ := one i hi
    refine ⟨m, cs, z, q1, fun j v hv => ?_, q3, ?_⟩
    rotate_left
    · have := bulk_part (List.mem_map_of_mem (f := (·.1)) q4)
      simp only [Rows.uptoBulk]
      omega
    have := q2 j v hv
    rw [add_none, add_none] at this
    exact this

theorem trod_countU {fuel : Nat} {cs : List Value} {x : DataW H × List MemPlace} (h : DataW.trod enc Tryd.prog w base spare held fuel 55 cs = some x) :
    ∃ a l c n m y, cs = [.slice a l c, .int .i64 n] ∧ DataW.trod enc Tryd.prog w base spare held m 49 [.slice a l c] = some y ∧ Rows.uptoBulk y.1 ≤ Rows.uptoBulk x.1 := by
  obtain ⟨xs, m, rfl, rfl, hlen, hxs, hf⟩ := DataW.trod_struct Tryd.underlying55 h
  rw [cells2c] at hlen
  obtain ⟨c0, c1, rfl⟩ := len2 hlen
  have f0 : DataW.trod enc Tryd.prog w base spare held m 53 (([c0, c1].drop 0).take (Tryd.prog.cellsOf 53)) = xs[0]? := hf 0 _ rfl
  have f1 : DataW.trod enc Tryd.prog w base spare held m 3 (([c0, c1].drop 1).take (Tryd.prog.cellsOf 3)) = xs[1]? := hf 1 _ rfl
  have hx : xs.length = 2 := hxs
  obtain ⟨y0, hy0⟩ : ∃ y, xs[0]? = some y := ⟨xs[0], by simp [hx]⟩
  obtain ⟨y1, hy1⟩ : ∃ y, xs[1]? = some y := ⟨xs[1], by simp [hx]⟩
  rw [hy0, cells1r] at f0
  rw [hy1, cells1j] at f1
  have g0 : DataW.trod enc Tryd.prog w base spare held m 53 [c0] = some y0 := f0
  have g1 : DataW.trod enc Tryd.prog w base spare held m 3 [c1] = some y1 := f1
  obtain ⟨a, l, c, rfl⟩ := slice_form Tryd.underlying53 g0
  obtain ⟨n, e1, _, wn⟩ := DataW.trod_int Tryd.underlying3 g1
  simp only [List.cons.injEq, and_true] at e1
  subst e1
  have hb := bulk_part (List.mem_map_of_mem (f := (·.1)) (List.mem_of_getElem? hy0))
  refine ⟨a, l, c, n, m, y0, rfl, trod_row g0, ?_⟩
  simp only [Rows.uptoBulk]
  omega

/-- A bag that reads, of bulk that isn't too great. -/
theorem bag_f (B : Nat) (hB : B ≤ w.heap.size) (hT : Tabs B w) {fuel : Nat} {a : Option Addr} {l c : Nat} {y : DataW H × List MemPlace} (h : DataW.trod enc Tryd.prog w base spare held fuel 26 [.slice a l c] = some y) (hM : Rows.uptoBulk y.1 ≤ 1048576) : ∃ z F, BagF w a l c z F := by
  obtain ⟨h1, h2⟩ := bag_in B hB hT h
  have h3 := bag_len h
  obtain ⟨M, hm⟩ := h2 (by omega)
  obtain ⟨g1, g2, g3⟩ := slice_rowsU Tryd.underlying26 cells2c (by omega) h
  have hl : ∀ x ∈ M.map (·.1), (LiesS w x.L x.a x.l ∧ x.l ≤ x.c) ∧ InL x.L ∧ wtL x.L ≤ 1099511627776 := fun x hx => by
    obtain ⟨i, hi⟩ := List.getElem?_of_mem hx
    obtain ⟨⟨x2, e⟩, hxe, hx2⟩ := List.mem_map.1 hx
    have hx2 : x2 = x := hx2
    subst hx2
    have hlie := (hm.bag.rows x2 e hxe).1
    refine ⟨⟨hlie, (hm.rows x2 e hxe).1⟩, (hm.rows x2 e hxe).2.1, ?_⟩
    have hil : i < l := by have := (List.getElem?_eq_some_iff.1 hi).1; have := hm.bag.at'.1; omega
    obtain ⟨b, off, ea, hb, hc⟩ := hm.bag.at'.2.2 (by omega)
    obtain ⟨b2, off2, ea2, _, hc2⟩ := g3 (by omega)
    rw [ea] at ea2
    injection ea2 with ea2
    injection ea2 with e1 e2 e3
    subst e1 e2
    obtain ⟨m, cs, z, q1, q2, q3, q4⟩ := hc2 i hil
    obtain ⟨a3, l3, c3, n3, m3, y3, rfl, q5, q6⟩ := trod_countU q3
    have q7 := q2 0 _ rfl
    rw [Nat.add_zero, (hc i x2 hi).1] at q7
    injection q7 with q7
    injection q7 with q8 q9 q10
    subst q8 q9 q10
    obtain ⟨_, L2, hL2, hw⟩ := tree_of m3 q5
    rw [liesS_one x2.L L2 _ _ hlie hL2]
    omega
  have e : (M.map (·.1)).map Ct.cn = M.map fun y => y.1.cn := by rw [List.map_map]; rfl
  by_cases h20 : 2000 < l
  · exact ⟨2, M.map (·.1), ⟨fun W kW => check_long a l c W h20 h1, fun W kW => checkBag_long a l c W h20 h1, fun h => by cases h⟩, hm.bag.at', hl⟩
  · refine ⟨bagE M, M.map (·.1), ⟨fun W kW => check_bag M a l c w W hm.bag kW, fun W kW => checkBag_ref M a l c w W hm.bag kW, fun h0 => ?_⟩, hm.bag.at', hl⟩
    rw [e]
    exact hm.rb h0

/-- A row of bags that reads, of bulk that isn't too great. -/
theorem bags_f (B : Nat) (hB : B ≤ w.heap.size) (hT : Tabs B w) {fuel : Nat} {a : Option Addr} {l c : Nat} {y : DataW H × List MemPlace} (h : DataW.trod enc Tryd.prog w base spare held fuel 22 [.slice a l c] = some y) (hM : Rows.uptoBulk y.1 ≤ 1048576) :
    ∃ Q : List Qd, l = Q.length ∧ (0 < l → ∃ b off, a = some ⟨b, off, none⟩ ∧ b < w.heap.size ∧ ∀ (i : Nat) (q : Qd), Q[i]? = some q → w.cell? ⟨b, off + i, none⟩ = some (.slice q.a q.l q.c)) ∧ (∀ q ∈ Q, ∃ F, BagF w q.a q.l q.c q.z F ∧ q.X = F.map Ct.cn) ∧ qN Q * 3 ≤ Rows.uptoBulk y.1 ∧ l ≤ Rows.uptoBulk y.1 := by
  have hm : maxLen ≤ 9223372036854775807 := by unfold maxLen; decide
  rcases DataW.trod_slice Tryd.underlying22 h with ⟨e1, rfl⟩ | ⟨a', l', c', elems, rest, m, hfu, e1, rfl, _, h1, h2, hlen, hel, _⟩
  · simp at e1
    obtain ⟨_, rfl, rfl⟩ := e1
    exact ⟨[], rfl, fun h => absurd h (Nat.lt_irrefl _), fun q hq => (by cases hq), by simp [qN], by omega⟩
  · simp at e1
    obtain ⟨rfl, rfl, rfl⟩ := e1
    have one : ∀ i, i < l → ∃ (z : DataW H × List MemPlace) (q : Qd), elems[i]? = some z ∧ (w.cell? (a'.add (i * 1)) = some (Value.slice q.a q.l q.c)) ∧ (∃ F, BagF w q.a q.l q.c q.z F ∧ q.X = F.map Ct.cn) ∧ q.l * 3 ≤ Rows.uptoBulk z.1 := by
      intro i hi
      have hi2 := hel i hi
      obtain ⟨z, hz⟩ : ∃ z, elems[i]? = some z := ⟨elems[i], by simp [hlen, hi]⟩
      rw [hz, cells1bg, Option.bind_eq_some_iff] at hi2
      obtain ⟨cs, hcs, ht⟩ := hi2
      obtain ⟨q1, q2⟩ := cells_all hcs
      obtain ⟨v0, rfl⟩ : ∃ v, cs = [v] := by
        match cs, q1 with
        | [v], _ => exact ⟨v, rfl⟩
      obtain ⟨ba, bl, bc, rfl⟩ := slice_form Tryd.underlying26 ht
      have hzb : Rows.uptoBulk z.1 ≤ 1048576 := by
        have := bulk_part (List.mem_map_of_mem (f := (·.1)) (List.mem_of_getElem? hz))
        simp only [Rows.uptoBulk] at hM
        omega
      obtain ⟨zz, F, hF⟩ := bag_f B hB hT ht hzb
      have h4 := q2 0 _ rfl
      rw [add_zero] at h4
      exact ⟨z, ⟨ba, bl, bc, zz, F.map Ct.cn⟩, hz, h4, ⟨F, hF, rfl⟩, bag_len ht⟩
    obtain ⟨Q, hl, hQ⟩ := list_of (fun i (q : Qd) => ∃ z, elems[i]? = some z ∧ (w.cell? (a'.add (i * 1)) = some (Value.slice q.a q.l q.c)) ∧ (∃ F, BagF w q.a q.l q.c q.z F ∧ q.X = F.map Ct.cn) ∧ q.l * 3 ≤ Rows.uptoBulk z.1) l (fun i hi => by
      obtain ⟨z, q, g⟩ := one i hi
      exact ⟨q, z, g⟩)
    refine ⟨Q, hl.symm, fun hp => ?_, fun q hq => ?_, ?_, ?_⟩
    · obtain ⟨b, off, sp⟩ := a'
      have hsp : sp = none ∧ b < w.heap.size := by
        obtain ⟨z, q, _, q2, _⟩ := one 0 hp
        rw [Nat.zero_mul, add_zero] at q2
        exact spot_none q2
      obtain ⟨rfl, hb⟩ := hsp
      refine ⟨b, off, rfl, hb, fun i q hq => ?_⟩
      obtain ⟨z, _, h4, _⟩ := hQ i q hq
      rw [add_none, Nat.mul_one] at h4
      exact h4
    · obtain ⟨i, hi⟩ := List.getElem?_of_mem hq
      obtain ⟨z, _, _, h4, _⟩ := hQ i q hi
      exact h4
    · have h5 := sum_bulk elems Q (by omega) fun i z q hz hq => by
        obtain ⟨z2, h3, _, _, h4⟩ := hQ i q hq
        rw [hz] at h3
        injection h3 with h3
        subst h3
        exact h4
      simp only [Rows.uptoBulk]
      omega
    · have h5 := bulk_len (q := 1) (elems.map (·.1)) fun d _ => bulk_pos d
      rw [List.length_map, hlen] at h5
      simp only [Rows.uptoBulk]
      omega

/-- A guest that reads, of bulk that isn't too great. -/
theorem guest_f (B : Nat) (hB : B ≤ w.heap.size) (hT : Tabs B w) {fuel : Nat} {cs : List Value} {x : DataW H × List MemPlace} (h : DataW.trod enc Tryd.prog w base spare held fuel 24 cs = some x) (hM : Rows.uptoBulk x.1 ≤ 1048576) :
    ∃ v a l c f t, cs = [.int .i64 v, .slice a l c, .bool f, .int .i64 t] ∧ ∃ Q, QIn w Q a l ∧ (∀ q ∈ Q, ∃ F, BagF w q.a q.l q.c q.z F ∧ q.X = F.map Ct.cn) ∧ qN Q ≤ 400000 := by
  obtain ⟨xs, m, rfl, rfl, hlen, hxs, hf⟩ := DataW.trod_struct Tryd.underlying24 h
  rw [cells4g] at hlen
  obtain ⟨c0, c1, c2, c3, rfl⟩ := len4g hlen
  have f0 : DataW.trod enc Tryd.prog w base spare held m 3 (([c0, c1, c2, c3].drop 0).take (Tryd.prog.cellsOf 3)) = xs[0]? := hf 0 _ rfl
  have f1 : DataW.trod enc Tryd.prog w base spare held m 22 (([c0, c1, c2, c3].drop 1).take (Tryd.prog.cellsOf 22)) = xs[1]? := hf 1 _ rfl
  have f2 : DataW.trod enc Tryd.prog w base spare held m 4 (([c0, c1, c2, c3].drop 2).take (Tryd.prog.cellsOf 4)) = xs[2]? := hf 2 _ rfl
  have f3 : DataW.trod enc Tryd.prog w base spare held m 3 (([c0, c1, c2, c3].drop 3).take (Tryd.prog.cellsOf 3)) = xs[3]? := hf 3 _ rfl
  have hx : xs.length = 4 := hxs
  obtain ⟨y0, hy0⟩ : ∃ y, xs[0]? = some y := ⟨xs[0], by simp [hx]⟩
  obtain ⟨y1, hy1⟩ : ∃ y, xs[1]? = some y := ⟨xs[1], by simp [hx]⟩
  obtain ⟨y2, hy2⟩ : ∃ y, xs[2]? = some y := ⟨xs[2], by simp [hx]⟩
  obtain ⟨y3, hy3⟩ : ∃ y, xs[3]? = some y := ⟨xs[3], by simp [hx]⟩
  rw [hy0, cells1j] at f0
  rw [hy1, cells1bs] at f1
  rw [hy2, cells1bo] at f2
  rw [hy3, cells1j] at f3
  have g0 : DataW.trod enc Tryd.prog w base spare held m 3 [c0] = some y0 := f0
  have g1 : DataW.trod enc Tryd.prog w base spare held m 22 [c1] = some y1 := f1
  have g2 : DataW.trod enc Tryd.prog w base spare held m 4 [c2] = some y2 := f2
  have g3 : DataW.trod enc Tryd.prog w base spare held m 3 [c3] = some y3 := f3
  obtain ⟨v, e0, _, _⟩ := DataW.trod_int Tryd.underlying3 g0
  obtain ⟨a, l, c, rfl⟩ := slice_form Tryd.underlying22 g1
  obtain ⟨f, e2, _⟩ := DataW.trod_bool Tryd.underlying4 g2
  obtain ⟨t, e3, _, _⟩ := DataW.trod_int Tryd.underlying3 g3
  simp only [List.cons.injEq, and_true] at e0 e2 e3
  subst e0 e2 e3
  have hb1 := bulk_part (List.mem_map_of_mem (f := (·.1)) (List.mem_of_getElem? hy1))
  simp only [Rows.uptoBulk] at hM
  obtain ⟨Q, q1, q2, q3, q4, q5⟩ := bags_f B hB hT g1 (by omega)
  exact ⟨v, a, l, c, f, t, rfl, Q, ⟨⟨q1, by omega, q2⟩, fun q hq => (by obtain ⟨F, g5, g6⟩ := q3 q hq; rw [g6]; exact g5.z), by omega⟩, q3, by omega⟩
end

section
variable {P : Program} (w : World)

theorem append_types (t t2 ty : TypeId) (e e2 : TypeId) (ht : P.underlying t = some (.slice e)) (h2 : P.underlying t2 = some (.slice e2)) (s x : Value) : (Builtin.append_ #[t, t2] ty #[s, x]).run P w = (Builtin.append_ #[t, t] ty #[s, x]).run P w := by
  cases s <;> simp [Builtin.append_, run_underlying ht, run_underlying h2]

theorem wpList_append_two {ops : Array Oper} {rest : List Oper} {o : Oper} {a : Act} {Q : Exit → Act → World → Prop} (hgd : o.guard = none) (s x : Operand) (t t2 : TypeId)
    (ho : o.op = .call { callee := .builtin .append, args := #[s, x], argTypes := #[t, t2] })
    (base : Nat) (e e2 : TypeId) (i : TypeInfo) (z : Value) (size bytes : Nat) (ht : P.underlying t = some (.slice e)) (ht2 : P.underlying t2 = some (.slice e2)) (hi : P.info? e = some i) (hz : i.zero = some z)
    (hsize : i.size = size) (hby : i.bytes = bytes) (hzs : z.cells.size = size) (hsz : 0 < size)
    (v : Value) (n : Nat) (xs : List Value) (hs : a.eval s = v) (hown : w.ownsRow base e size v n xs)
    (ax : Option Addr) (m c : Nat) (news : List Value) (hx : a.eval x = .slice ax m c) (hl : news.length = m * size) (hnews : ∀ j u, news[j]? = some u → ∃ ad, ax = some ad ∧ w.cell? (ad.add j) = some u) (h1 : ∀ u ∈ news, u.oneCell' = true)
    (h63 : n + m ≤ maxLen) (hbytes : (n + m) * bytes ≤ 140737488355328) (hbase : base ≤ w.heap.size)
    (h : ∀ v' w', w'.ownsRow base e size v' (n + m) (xs ++ news) → w.grownBy w' v.ownBlock → (v'.ownBlock = v.ownBlock ∨ v'.ownBlock = some w.heap.size) → wpList P ops Q rest (a.put o.dst v') w') : wpList P ops Q (o :: rest) a w := by
  refine wpList_plain hgd fun _ hK => ?_
  obtain ⟨v', w', hr, h2, h3, h4⟩ := run_append_both (P := P) w t o.type base e i z size bytes ht hi hz hsize hby hzs hsz v n xs hown ax m c news hl hnews h1 h63 hbytes hbase
  rw [← append_types w t t2 o.type e e2 ht ht2] at hr
  unfold Oper.wp execOp
  simp only [ho, resolve, invoke, builtin, Sem.run_bind, Sem.run_pure, Result.andThen_ok, List.map_toArray, List.map_cons, List.map_nil, hs, hx, hr]
  exact hK _ _ (h v' w' h2 h3 h4)
end

set_option linter.unusedSimpArgs false

set_option maxHeartbeats 16000000 in
set_option maxRecDepth 100000 in
theorem bagOf_wild (D : List Ct) (a : Option Addr) (l c : Nat) (w : World) (h : CtsAt w D a l) (hr : ∀ x ∈ D, LiesS w x.L x.a x.l ∧ wtL x.L ≤ 1099511627776) :
    Calls Tryd.prog 14 #[.slice a l c] w fun e w' => (∃ v F, e = .returned v ∧ w'.ownsRow w.heap.size 55 2 v F.length (ctRow F)) ∧ Below w.heap.size w w' := by
  have hn : D.length ≤ 1000000 := by rw [← h.1]; exact h.2.1
  have b0 : Below w.heap.size w (w.alloc (.cells #[.slice a l c] 25)) := (Below.refl _ _).alloc (Nat.le_refl _) _
  have h0 := alloc_new w (.cells #[.slice a l c] 25)
  have z0 : (w.alloc (.cells #[.slice a l c] 25)).heap.size = w.heap.size + 1 := by simp
  have HCL := toHid (cloneC_any D a l c _ (h.below b0))
  have y0 := cell_of h0 0
  simp at y0
  have HB0 := toHid b0
  have H0 := toHid h0
  have HZ0 := toHid z0
  have HR := toHid hr
  clear b0 h0 z0 h hr
  go_enter Tryd.func14, Tryd.ntmps14
  go_wp2_with fail
  refine HCL.out.mono ?_
  rintro e w1 ⟨⟨v0, rfl, hown⟩, k1⟩
  obtain ⟨va, vc, rfl⟩ := row_slice hown
  have hb1 := (k1.block _ (blkF_lt H0.out)).trans H0.out
  have r0 := cell_of hb1 0
  have f0 := free_of hb1 0
  simp at r0
  have hl1 : w.heap.size < w1.heap.size := blkF_lt hb1
  have hbx2 := set_oneB hb1 (.slice va D.length vc)
  have hk2 : Below w.heap.size w (w1.setCell ⟨w.heap.size, 0, none⟩ (.slice va D.length vc)) := ((HB0.out.trans (k1.mono HB0.out.size))).setCell (p := ⟨w.heap.size, 0, none⟩) (Nat.le_refl _) (.slice va D.length vc)
  have hown2 : (w1.setCell ⟨w.heap.size, 0, none⟩ (.slice va D.length vc)).ownsRow (w.heap.size + 1) 55 2 (.slice va D.length vc) D.length (ctRow D) := by
    rw [HZ0.out] at hown
    exact rowK1 hown fun g hg => Below.heap_setCell _ _ _ g (by show g ≠ w.heap.size; have := (rowLt hown hg).1; omega)
  have hs2 : (w1.setCell ⟨w.heap.size, 0, none⟩ (.slice va D.length vc)).heap.size = w1.heap.size := by simp
  obtain ⟨W2, hW2⟩ : ∃ z, z = w1.setCell ⟨w.heap.size, 0, none⟩ (.slice va D.length vc) := ⟨_, rfl⟩
  rw [← hW2] at hbx2 hk2 hown2 hs2
  have HSO := toHid (sort_own D (w.heap.size + 1) w.heap.size (.slice va D.length vc) W2 (by rw [hs2]; omega) (by omega) hn hown2 hbx2 fun x hx => ⟨LieA.kept hk2.size (fun i hi _ => ⟨by omega, hk2.block i hi⟩) _ _ _ (LieA.kept (A := fun _ => True) (A' := fun i => i < w.heap.size) (Nat.le_refl _) (fun i _ hi => ⟨hi, rfl⟩) _ _ _ (LiesS.lie _ _ _ (HR.out x hx).1)), (HR.out x hx).2⟩)
  have HBX2 := toHid hbx2
  have HK2 := toHid hk2
  have x0 := cell_of hbx2 0
  simp at x0
  have hl2 := blkF_lt hbx2
  have hXs : w1.setCell ⟨w.heap.size, 0, none⟩ (.slice va D.length vc) = W2 := hW2.symm
  clear hown hown2 hbx2 hk2 hs2 hW2 k1 hb1 y0
  go_wp2_with fail
  refine HSO.out.mono ?_
  rintro e w3 ⟨rfl, ⟨E, hp, hs, hrow⟩, k3⟩
  have HBX3 := toHid ((k3.block _ (by omega)).trans HBX2.out)
  have HK3 := toHid (HK2.out.trans (k3.mono (by omega)))
  have HP := toHid hp
  have HS := toHid hs
  obtain ⟨n, hnn⟩ : ∃ n, n = E.length := ⟨_, rfl⟩
  have hnD : D.length = n := by rw [hnn]; exact hp.length_eq.symm
  rw [hnD] at hrow HBX3
  have HAT := toHid (ctsOwn (R := E) (by rw [← hnn]; exact hrow) (by omega))
  have HNN := toHid hnn
  have hn6 : n ≤ 1000000 := by omega
  have HRE : Hid (∀ x ∈ E, LiesS w3 x.L x.a x.l ∧ wtL x.L ≤ 1099511627776) := fun x hx => ⟨LiesS.below HK3.out _ _ _ (HR.out x (HP.out.mem_iff.1 hx)).1, (HR.out x (HP.out.mem_iff.1 hx)).2⟩
  have x3 := cell_of HBX3.out 0
  simp at x3
  have hl3 := blkF_lt HBX3.out
  clear hp hs hrow k3 x0 hl2 hXs hl1 r0 f0 hnn hnD HSO HBX2 HK2 HCL HB0 H0 HZ0
  obtain ⟨i0, hi0, hz0, hsz0, hby0⟩ := ct_info
  go_wp2_with fail
  go_loopg [3, 4] n (fun q s3 s4 wr => ∃ (i : Nat) (v2 : Value) (F : List Ct), i ≤ n ∧ n - i ≤ q ∧ s4 = .int .i64 i ∧ v2 = s3 ∧ F.length ≤ i ∧ wr.ownsRow w3.heap.size 55 2 v2 F.length (ctRow F) ∧ Below w3.heap.size w3 wr)
  case atStart => exact ⟨0, _, [], Nat.zero_le _, by omega, rfl, rfl, Nat.zero_le _, World.ownsRow_nil _ _ _ _, Below.refl _ _⟩
  case round =>
    clear x3 hl3
    obtain ⟨i, v2, F, hi, hq, rfl, rfl, hfl, ho, hk⟩ := hrel
    have HFL := toHid hfl
    have HO := toHid ho
    have HK := toHid hk
    have hbx := (hk.block _ (blkF_lt HBX3.out)).trans HBX3.out
    have b0 := cell_of hbx 0
    simp at b0
    have hbl := blkF_lt hbx
    clear hfl ho
    by_cases hlt : i < n
    · have hil : (i : Int) < n := by omega
      obtain ⟨x, hx, _⟩ := drop_get (L := E) (i := i) (by have := HNN.out; omega)
      obtain ⟨g, off, hva, hg, hc⟩ := HAT.out.2.2 (by omega)
      subst hva
      have c0 := (hk.cell (p := ⟨g, off + i * 2, none⟩) hg).trans (hc i x hx).1
      have HX := toHid hx
      have HG := toHid hg
      have HCC := toHid hc
      have hgl : g < wr.heap.size := Nat.lt_of_lt_of_le hg hk.size
      have HN := toHid (alloc_new wr (cBox x 0))
      have HA : Hid (Below wr.heap.size wr (wr.alloc (cBox x 0))) := (Below.refl _ _).alloc (Nat.le_refl _) _
      have HWO : Hid (w3.heap.size ≤ wr.heap.size) := hk.size
      clear hx hc hk hbx hg
      go_wp2_with fail
      obtain ⟨wo, hwo⟩ : ∃ z, z = wr := ⟨_, rfl⟩
      subst hwo
      obtain ⟨W1, hW1⟩ : ∃ z, z = wo.alloc (cBox x 0) := ⟨_, rfl⟩
      have HW1 := toHid hW1
      rw [← hW1] at HN HA ⊢
      clear hW1 b0 hbl c0 hgl
      go_loopg [4] (n - i) (fun q s4 wq => ∃ (j : Nat) (N : Int), i ≤ j ∧ j ≤ n ∧ n - j ≤ q ∧ s4 = .int .i64 j ∧ wq.heap[wo.heap.size]? = some (cBox x N) ∧ Rg wo.heap.size W1 wq)
      case atStart => exact ⟨i, 0, Nat.le_refl _, hi, Nat.le_refl _, rfl, HN.out, Rg.refl _ _⟩
      case round =>
        clear HN
        obtain ⟨j, N, hij, hj, hq2, rfl, hcb, hrg⟩ := hrel
        have hw1 : W1.heap.size = wo.heap.size + 1 := by rw [HW1.out]; simp
        have hold : ∀ k, k < w3.heap.size → wr.heap[k]? = w3.heap[k]? := fun k hk => (hrg.block k (by have := HWO.out; omega) (by have := HWO.out; omega)).trans ((HA.out.block k (by have := HWO.out; omega)).trans (HK.out.block k hk))
        have kw : Below w3.heap.size w3 wr := ⟨hrg.os.trans (HA.out.os.trans HK.out.os), hrg.tape.trans (HA.out.tape.trans HK.out.tape), hrg.output.trans (HA.out.output.trans HK.out.output), Nat.le_trans (Nat.le_trans HK.out.size HA.out.size) hrg.size, hold⟩
        have hbx := (hold _ (blkF_lt HBX3.out)).trans HBX3.out
        have hbl := blkF_lt hbx
        have hcl := blkF_lt hcb
        have hgl : g < wr.heap.size := Nat.lt_of_lt_of_le HG.out kw.size
        have b0 := cell_of hbx 0
        have q0 := cell_of hcb 0
        simp at b0 q0
        have HBX := toHid hbx
        have HCB := toHid hcb
        have HRG := toHid hrg
        have HKW := toHid kw
        obtain ⟨β, hb1, hb2⟩ : ∃ β : Bool, (β = true → j < n ∧ ∃ y, E[j]? = some y ∧ ordL y.L x.L = 0) ∧ (β = false → j = n ∨ ∃ y, E[j]? = some y ∧ ordL y.L x.L ≠ 0) ∧ (∀ y, j < n → E[j]? = some y → β = decide (ordL y.L x.L = 0)) ∧ (¬ j < n → β = false) := by
          by_cases hjn : j < n
          · obtain ⟨y, hy, _⟩ := drop_get (L := E) (i := j) (by have := HNN.out; omega)
            refine ⟨decide (ordL y.L x.L = 0), fun h => ⟨hjn, y, hy, by simpa using h⟩, fun h => .inr ⟨y, hy, by simpa using h⟩, fun y' _ hy' => ?_, fun h => absurd hjn h⟩
            rw [hy] at hy'
            injection hy' with hy'
            rw [hy']
          · exact ⟨false, fun h => (by cases h), fun _ => .inl (by omega), fun y h => absurd h hjn, fun _ => rfl⟩
        have HB1 := toHid hb1
        have HB2 := toHid hb2
        clear hold kw hbx hcb hrg hb1 hb2
        go_upto_region 7 with fail
        go_cut [36] (fun s36 wz => s36 = .bool β ∧ Below wr.heap.size wr wz)
        case first =>
          by_cases hjn : j < n
          · have hjI : (j : Int) < n := by omega
            obtain ⟨y, hy, _⟩ := drop_get (L := E) (i := j) (by have := HNN.out; omega)
            have e0 := (HKW.out.cell (p := ⟨g, off + j * 2, none⟩) HG.out).trans (HCC.out j y hy).1
            have D0' : Below wr.heap.size wr wr.drew := (Below.refl _ _).drew
            have hxm := HRE.out x (List.mem_of_getElem? HX.out)
            have hym := HRE.out y (List.mem_of_getElem? hy)
            have HC := toHid (compareRows_ref y.L x.L y.a y.l y.c x.a x.l x.c wr.drew (LiesS.below (HKW.out.drew) _ _ _ hym.1) (LiesS.below (HKW.out.drew) _ _ _ hxm.1) hym.2 hxm.2)
            have HBB := toHid (HB2.out.2.1 y hjn hy)
            generalize ordL y.L x.L = z at HC HBB
            clear hxm hym hy
            go_region_held3 (fun W' => W'.cell? ⟨w.heap.size, 0, none⟩ = some (.slice (some ⟨g, off, none⟩) n vc) ∧ W'.cell? ⟨g, off + j * 2, none⟩ = some (.slice y.a y.l y.c) ∧ W'.cell? ⟨wo.heap.size, 0, none⟩ = some (.slice x.a x.l x.c))
              (first
                | exact ⟨b0, e0, q0⟩
                | exact ⟨(k1.cell (p := ⟨w.heap.size, 0, none⟩) hbl).trans b0, (k1.cell (p := ⟨g, off + j * 2, none⟩) hgl).trans e0, (k1.cell (p := ⟨wo.heap.size, 0, none⟩) hcl).trans q0⟩
                | go_keep)
              (first
                | (go_at_call 24; go_fit HC.out; rintro e u1 ⟨rfl, h1⟩; have k1 : Below wr.heap.size wr u1 := D0'.trans h1))
            all_goals
              go_wp2_with fail
              go_meet
              exact ⟨by rw [HBB.out]; congr 1, k1⟩
          · have hjI : ¬ (j : Int) < n := by omega
            have HBB := toHid (HB2.out.2.2 hjn)
            go_quiet (fail)
            go_wp2_with fail
            go_meet
            exact ⟨by rw [HBB.out], drewB _ _⟩
        case rest =>
          obtain ⟨rfl, kz⟩ := hcut
          have hcb := (kz.block _ hcl).trans HCB.out
          have hbx := (kz.block _ hbl).trans HBX.out
          have HRG1 := toHid (HRG.out.trans (Rg.of_below kz))
          have HKW1 := toHid (HKW.out.trans (kz.mono HKW.out.size))
          have HKZ := toHid kz
          clear b0 q0 hbl hcl kz
          have b0 := cell_of hbx 0
          have q0 := cell_of hcb 0
          have q1 := cell_of hcb 1
          have fq1 := free_of hcb 1
          simp at b0 q0 q1
          have hbl := blkF_lt hbx
          have hcl := blkF_lt hcb
          have HCB1 := toHid hcb
          clear hbx hcb
          generalize wc = wd at *
          cases hbb : β with
          | true =>
            obtain ⟨hjn, y, hy, hz⟩ := HB1.out hbb
            have e1 := (HKW1.out.cell (p := ⟨g, off + j * 2 + 1, none⟩) HG.out).trans (HCC.out j y hy).2
            have hjI : (j : Int) < n := by omega
            obtain ⟨N2, hN2⟩ : ∃ N2, N2 = IntKind.i64.wrap (N + y.n) := ⟨_, rfl⟩
            have hwm : IntKind.i64.wrap (N + y.n) = N2 := hN2.symm
            have hwm2 : wrap64 (N + y.n) = N2 := by rw [hN2, IntKind.wrap_i64]; unfold wrap64; omega
            clear hN2
            have hgl1 : g < wd.heap.size := Nat.lt_of_lt_of_le HG.out HKW1.out.size
            have HCB2 : Hid ((wd.setCell ⟨wo.heap.size, 1, none⟩ (.int .i64 N2)).heap[wo.heap.size]? = some (cBox x N2)) := by
              have := set_here HCB1.out 1 (.int .i64 N2)
              exact this
            have HRG2 : Hid (Rg wo.heap.size W1 (wd.setCell ⟨wo.heap.size, 1, none⟩ (.int .i64 N2))) := by
              have k := (Below.refl wo.heap.size wd).setCell (p := ⟨wo.heap.size, 1, none⟩) (Nat.le_refl _) (.int .i64 N2)
              refine HRG1.out.trans ⟨k.os, k.tape, k.output, k.size, fun i hi hn => Below.heap_setCell _ _ _ i hn⟩
            clear hy hz
            go_wp2_with fail
            go_region
            all_goals
              go_wp2_with fail
              go_roundg (n - (j + 1))
              case measure => omega
              case rel => exact ⟨j + 1, N2, by omega, by omega, Nat.le_refl _, by go_num, HCB2.out, ⟨HRG2.out.os, HRG2.out.tape, HRG2.out.output, HRG2.out.size, HRG2.out.block⟩⟩
          | false =>
            have hlt2 : i < j := by
              rcases Nat.lt_or_ge i j with h | h
              · exact h
              · exfalso
                have h1 : j = i := by omega
                rcases HB2.out.1 hbb with h | ⟨y, hy, hne⟩
                · omega
                · rw [h1, HX.out] at hy
                  injection hy with hy
                  subst hy
                  exact hne (ordL_self _)
            have hw1 : W1.heap.size = wo.heap.size + 1 := by rw [HW1.out]; simp
            have HOD : Hid (wd.ownsRow w3.heap.size 55 2 v2 F.length (ctRow F)) := rowK1 HO.out fun k hk => (HRG1.out.block k (by have := (rowLt HO.out hk).2; omega) (by have := (rowLt HO.out hk).2; omega)).trans (HA.out.block k (rowLt HO.out hk).2)
            have hml : F.length ≤ 1000000 := by have := HFL.out; omega
            by_cases hN : N = 0
            · have hN' : (N != 0) = false := by simp [hN]
              clear hN hw1
              go_wp2_with fail
              go_roundg (n - j)
              case measure => omega
              case rel => exact ⟨j, v2, F, hj, Nat.le_refl _, rfl, rfl, by have := HFL.out; omega, HOD.out, HKW1.out⟩
            · have hN' : (N != 0) = true := by simp [hN]
              obtain ⟨m, hm⟩ : ∃ m, m = F.length := ⟨_, rfl⟩
              have HM := toHid hm
              have HB2' : Hid (Below wd.heap.size wd (wd.alloc (cBox x N))) := (Below.refl _ _).alloc (Nat.le_refl _) _
              have HN2 := toHid (alloc_new wd (cBox x N))
              have HOA : Hid ((wd.alloc (cBox x N)).ownsRow w3.heap.size 55 2 v2 m (ctRow F)) := hm ▸ rowK1 HOD.out fun k hk => HB2'.out.block k (rowLt HOD.out hk).2
              rw [← hm] at hml
              clear hN hm hw1
              go_wp2_with (at_builtin; (refine wpList_append_both _ (by rfl) _ _ _ (by rfl) w3.heap.size 55 i0 _ 2 32 Tryd.underlying26 hi0 hz0 hsz0 hby0 rfl (by omega) v2 m (ctRow F) (by rfl) HOA.out (some ⟨wd.heap.size, 0, none⟩) 1 1 [.slice x.a x.l x.c, .int .i64 N] (by rfl) (by rfl) (fun j u hu => ⟨_, rfl, World.news_of_block (cs := #[.slice x.a x.l x.c, .int .i64 N]) (t := 55) (fr := (0, 0)) HN2.out j u hu⟩) (by simp [Value.oneCell']) (by unfold maxLen; omega) (by omega) (Nat.le_trans HKW1.out.size HB2'.out.size) ?_; intro v' w5 hown5 hgrow hob))
              have HKF : Hid (Below w3.heap.size w3 w5) := (HKW1.out.trans (HB2'.out.mono HKW1.out.size)).grown hgrow (Nat.le_trans HKW1.out.size HB2'.out.size) (fun k hk => (rowLt HOA.out hk).1)
              have HOW : Hid (w5.ownsRow w3.heap.size 55 2 v' (F ++ [{ x with n := N }]).length (ctRow (F ++ [{ x with n := N }]))) := by
                rw [ctRow_snoc, List.length_append, List.length_singleton, ← HM.out]
                exact hown5
              clear hown5 hgrow hob
              go_wp2_with fail
              go_roundg (n - j)
              case measure => omega
              case rel => exact ⟨j, v', _, hj, Nat.le_refl _, rfl, rfl, by rw [List.length_append, List.length_singleton]; have := HFL.out; omega, HOW.out, HKF.out⟩
    · have he : i = n := by omega
      subst he
      have hil : ¬ ((i : Int) < i) := by omega
      have HFIN : Hid (wr.ownsRow w.heap.size 55 2 v2 F.length (ctRow F)) := by
        have h1 := HO.out
        have h3 := HK3.out.size
        exact ⟨h1.1, h1.2.elim .inl fun ⟨g, cap, cur, e1, e2, e3⟩ => .inr ⟨g, cap, cur, e1, by omega, e3⟩⟩
      have HKK := toHid (HK3.out.trans (HK.out.mono HK3.out.size))
      go_wp2_with fail
      go_ret
      exact ⟨⟨v2, rfl, F, HFIN.out⟩, HKK.out⟩

set_option linter.unusedSimpArgs false

/-- The reference's check of counts that lie in memory. -/
theorem ref_check {B : Nat} {w : World} (hB : B ≤ w.heap.size) (hT : Tabs B w) {F : List Ct} {a : Option Addr} {l c : Nat} (hat : CtsAt w F a l) (hF : ∀ x ∈ F, (LiesS w x.L x.a x.l ∧ x.l ≤ x.c) ∧ InL x.L ∧ wtL x.L ≤ 1099511627776) : (Calls Tryd.prog 10 #[.slice a l c] w fun e w' => e = .returned (.int .i64 (bagX (F.map Ct.cn))) ∧ Below w.heap.size w w') ∧ (bagX (F.map Ct.cn) = 0 → RB w (F.map Ct.cn) a l) := by
  obtain ⟨O, o1, o2, o3⟩ := told_all B w hB hT F fun x hx => ⟨(hF x hx).1.1, (hF x hx).2.1, (hF x hx).2.2⟩
  have e : (O.map fun y => y.1.cn) = F.map Ct.cn := by rw [← o1, List.map_map]; rfl
  have hE := bagE_is o3
  rw [e] at hE
  refine ⟨?_, fun h0 => ?_⟩
  · rw [← hE]
    exact checkBag_ref O a l c w w ⟨by rw [o1]; exact hat, o2⟩ (Below.refl _ _)
  · have hf := (fit_iff o3).1 (hE.trans h0)
    rw [e] at hf
    exact rb_mk hB hT hf hat fun x hx => (hF x hx).1

/-- Counts that are held together, as far as the laws read them. -/
structure MW (w : World) (Ls : List Cn) (M : List Ct) : Prop where
  cn : M.map Ct.cn = Ls
  lies : ∀ x ∈ M, (LiesS w x.L x.a x.l ∧ x.l ≤ x.c) ∧ InL x.L ∧ wtL x.L ≤ 1099511627776

theorem MW.snoc {w : World} {Ls Xs : List Cn} {M F : List Ct} (h : MW w Ls M) (k : MW w Xs F) : MW w (Ls ++ Xs) (M ++ F) := by
  refine ⟨by rw [List.map_append, h.cn, k.cn], fun x hx => ?_⟩
  rcases List.mem_append.1 hx with hx | hx
  · exact h.lies x hx
  · exact k.lies x hx

set_option maxHeartbeats 16000000 in
set_option maxRecDepth 100000 in
theorem law_take (v : Int) (Q : List Qd) (a : Option Addr) (l c : Nat) (f : Bool) (t : Int) (D : List Ct) (zb u : Int) (ba : Option Addr) (bl bc : Nat) (w : World) (hT : Tabs w.heap.size w) (hQ : QIn w Q a l) (hQF : ∀ q ∈ Q, ∃ F, BagF w q.a q.l q.c q.z F ∧ q.X = F.map Ct.cn) (hb : BagF w ba bl bc zb D) (hN : qN Q ≤ 400000) (hbl : bl ≤ 400000) :
    Calls Tryd.prog 4 #[gV v a l c f t, .slice ba bl bc, .int .i64 u] w fun e w' => e = .returned (.bool true) ∧ Below w.heap.size w w' := by
  have b0 : Below w.heap.size w (w.alloc (gObj v a l c f t)) := (Below.refl _ _).alloc (Nat.le_refl _) _
  have h0 := alloc_new w (gObj v a l c f t)
  obtain ⟨z, hz⟩ : ∃ z, z = guE v t f Q := ⟨_, rfl⟩
  obtain ⟨R, hR⟩ : ∃ R, R = if z = 0 then zb else z := ⟨_, rfl⟩
  obtain ⟨bd, hbd⟩ : ∃ bd, bd = if R = 0 then (if u < t then 9 else 0) else R := ⟨_, rfl⟩
  obtain ⟨Ls, hLs⟩ : ∃ Ls, Ls = if f = true then D.map Ct.cn else (Q.map (·.X)).flatten := ⟨_, rfl⟩
  have hmx : l ≤ 2000000 := hQ.at'.2.1
  have HTK := toHid (take_any w.heap.size v Q a l c f t (D.map Ct.cn) zb R u ba bl bc (w.alloc (gObj v a l c f t)) b0.size (hT.below b0) (hQ.below b0) (hb.z.below b0) (by rw [← hz]; exact hR))
  have HBD := toHid hbd
  have HLS := toHid hLs
  have HZE := toHid hz
  have HR := toHid hR
  have HTB := toHid hT
  have HQ := toHid hQ
  have HQF := toHid hQF
  have HBG := toHid hb
  have HNQ := toHid hN
  have HB0 := toHid b0
  have H0 := toHid h0
  have HQL := toHid hQ.at'.1
  clear b0 h0 hz hR hT hQ hb hQF hbd hLs hN
  go_enter Tryd.func4, Tryd.ntmps4
  go_upto_region 1 with fail
  generalize w.alloc (gObj v a l c f t) = W at HTK HB0 H0 ⊢
  have HBU := toHid HB0.out.size
  generalize hbu : w.heap.size = bu at H0 ⊢
  have x0 := cell_of H0.out 0
  have x1 := cell_of H0.out 1
  have x2 := cell_of H0.out 2
  have x3 := cell_of H0.out 3
  simp at x0 x1 x2 x3
  have hlx := blkB_lt H0.out
  go_wp2_with fail
  refine HTK.out.mono ?_
  rintro e w1 ⟨⟨v', t', sa, sl, sc, fr, ze, rfl, h1, h2, h3⟩, k1⟩
  have HB1 := toHid (HB0.out.trans (k1.mono HB0.out.size))
  have HX1 := toHid ((k1.block bu hlx).trans H0.out)
  have hbad : bd ≠ 0 → ze = bd := fun h => by
    rcases h1 with ⟨g, g2⟩ | ⟨g, g2, g3⟩ | ⟨g, g2, _⟩ | ⟨g, g2, _⟩
    · rw [g2, HBD.out, if_neg g]
    · rw [g3, HBD.out, if_pos g, if_pos g2]
    · exact absurd (by rw [HBD.out, if_pos g, if_neg (by omega)]) h
    · exact absurd (by rw [HBD.out, if_pos g, if_neg (by omega)]) h
  have hgood : bd = 0 → R = 0 ∧ Told w1 (cnt Ls) sa sl ze := fun h => by
    have hr : R = 0 := by
      by_cases hr : R = 0
      · exact hr
      · rw [HBD.out, if_neg hr] at h
        exact h
    have hu : ¬ u < t := fun hu => by
      rw [HBD.out, if_pos hr, if_pos hu] at h
      cases h
    refine ⟨hr, ?_⟩
    rcases h1 with ⟨g, g2⟩ | ⟨g, g2, g3⟩ | ⟨g, g2, g3, g4, g5⟩ | ⟨g, g2, g3, g4⟩
    · exact absurd hr g
    · exact absurd g2 hu
    · have e1 : Ls = D.map Ct.cn := by rw [HLS.out, if_pos g3]
      have hrb := g5.rb HB1.out.size (HTB.out.below HB1.out)
      rw [e1]
      exact ⟨_, hrb.1.bag, fun _ => rfl, .inl ⟨bagX_fit hrb.1, g4, hrb⟩⟩
    · have e1 : Ls = (Q.map (·.X)).flatten := by rw [HLS.out, if_neg (by rw [g3]; simp)]
      rw [e1]
      exact g4.told HB1.out.size (HTB.out.below HB1.out)
  have HBAD := toHid hbad
  have HGOOD := toHid hgood
  have H2 := toHid h2
  have H3 := toHid h3
  clear h1 h2 h3 hbad hgood k1 HTK x0 x1 x2 x3 hlx H0
  go_upto_region 2 with fail
  have a1 : Below w1.heap.size w1 (w1.alloc (gObj v' none 0 0 false t')) := (Below.refl _ _).alloc (Nat.le_refl _) _
  have h1 := alloc_new w1 (gObj v' none 0 0 false t')
  have HX2 := toHid ((a1.block bu (blkB_lt HX1.out)).trans HX1.out)
  have HB2 := toHid (HB1.out.trans (a1.mono HB1.out.size))
  have HGOOD2 : Hid (bd = 0 → R = 0 ∧ Told (w1.alloc (gObj v' none 0 0 false t')) (cnt Ls) sa sl ze) := fun h => ⟨(HGOOD.out h).1, (HGOOD.out h).2.below a1⟩
  generalize w1.alloc (gObj v' none 0 0 false t') = W2 at HX2 HB2 h1 HGOOD2 ⊢
  have HV2 := toHid h1
  generalize hbv : w1.heap.size = bv at HV2 ⊢
  clear a1 h1 HX1 HGOOD
  have x0 := cell_of HX2.out 0
  have x1 := cell_of HX2.out 1
  have x2 := cell_of HX2.out 2
  have x3 := cell_of HX2.out 3
  simp at x0 x1 x2 x3
  have hlx := blkB_lt HX2.out
  have HC := toHid (checkG_ref v Q a l c f t W2 (HQ.out.below HB2.out))
  rw [← HZE.out] at HC
  go_wp2_with fail
  refine HC.out.mono ?_
  rintro e w3 ⟨rfl, k3⟩
  have HB3 := toHid (HB2.out.trans (k3.mono HB2.out.size))
  have HK3 := toHid k3
  clear k3 x0 x1 x2 x3 hlx HC
  go_upto_if 28 with fail
  go_cut [11] (fun s11 wx => s11 = .int .i64 R ∧ Below w3.heap.size w3 wx)
  case first =>
    by_cases hz0 : z = 0
    · have hze : (z == 0) = true := by simp [hz0]
      have HRB : Hid (R = zb) := by
        show _ = _
        rw [HR.out, if_pos hz0]
      have HC := toHid (HBG.out.z.ref w3 HB3.out)
      clear hz0
      go_wp2_with fail
      refine HC.out.mono ?_
      rintro e w4 ⟨rfl, k4⟩
      have HK4 := toHid k4
      clear k4
      go_wp2_with fail
      go_meet
      exact ⟨by rw [HRB.out], HK4.out⟩
    · have hze : (z == 0) = false := by simp [hz0]
      have HRB : Hid (R = z) := by
        show _ = _
        rw [HR.out, if_neg hz0]
      clear hz0
      go_wp2_with fail
      go_meet
      exact ⟨by rw [HRB.out], Below.refl _ _⟩
  case rest =>
    obtain ⟨rfl, k4⟩ := hcut
    have HB4 := toHid (HB3.out.trans (k4.mono HB3.out.size))
    have hk24 := HK3.out.trans (k4.mono HK3.out.size)
    have HX4 := toHid ((hk24.block bu (blkB_lt HX2.out)).trans HX2.out)
    have HV4 := toHid ((hk24.block bv (blkB_lt HV2.out)).trans HV2.out)
    have HGOOD4 : Hid (bd = 0 → R = 0 ∧ Told wc (cnt Ls) sa sl ze) := fun h => ⟨(HGOOD2.out h).1, (HGOOD2.out h).2.below hk24⟩
    clear k4 hk24 HX2 HV2 HGOOD2 HK3
    generalize wc = w4 at *
    have x1 := cell_of HX4.out 1
    have x2 := cell_of HX4.out 2
    have x3 := cell_of HX4.out 3
    simp at x1 x2 x3
    have hlx := blkB_lt HX4.out
    obtain ⟨β, hβ⟩ : ∃ β, β = (decide (R = 0) && decide (u < t)) := ⟨_, rfl⟩
    have HBE := toHid hβ
    clear hβ
    go_upto_region 5 with fail
    go_cut [38] (fun s38 wx => s38 = .bool β ∧ wx = w4)
    case first =>
      by_cases hr : R = 0
      · have hre : (R == 0) = true := by simp [hr]
        have HE : Hid (β = decide (u < t)) := by
          show _ = _
          rw [HBE.out, hr]
          simp
        clear hr
        go_wp2_with fail
        go_meet
        exact ⟨by rw [HE.out], rfl⟩
      · have hre : (R == 0) = false := by simp [hr]
        have HE : Hid (β = false) := by
          show _ = _
          rw [HBE.out]
          simp [hr]
        clear hr
        go_wp2_with fail
        go_meet
        exact ⟨by rw [HE.out], rfl⟩
    case rest =>
    obtain ⟨rfl, rfl⟩ := hcut
    go_upto_if 38 with fail
    go_cut [11] (fun s11 wx => s11 = .int .i64 bd ∧ wx = wc)
    case first =>
      cases hb : β with
      | true =>
        have h5 := HBE.out
        rw [hb] at h5
        simp at h5
        have HE : Hid (bd = 9) := by
          show _ = _
          rw [HBD.out, if_pos h5.1, if_pos h5.2]
        clear h5
        go_wp2_with fail
        go_meet
        exact ⟨by rw [HE.out], rfl⟩
      | false =>
        have h5 := HBE.out
        rw [hb] at h5
        simp at h5
        have HE : Hid (bd = R) := by
          show _ = _
          rw [HBD.out]
          by_cases hr : R = 0
          · rw [if_pos hr, if_neg (by have := h5 hr; omega), hr]
          · rw [if_neg hr]
        clear h5
        go_wp2_with fail
        go_meet
        exact ⟨by rw [HE.out], rfl⟩
    case rest =>
      obtain ⟨rfl, hww⟩ := hcut
      subst hww
      generalize wc = wk at *
      have hlw : bl ≤ 400000 := hbl
      have HNL : Hid (qN Q ≤ 400000) := HNQ.out
      have x1 := cell_of HX4.out 1
      have x2 := cell_of HX4.out 2
      simp at x1 x2
      have hlx := blkB_lt HX4.out
      obtain ⟨i0, hi0, hzc0, hsz0, hby0⟩ := ct_info
      have HI0 := toHid hi0
      have HIZ := toHid hzc0
      have HIS := toHid hsz0
      have HIB := toHid hby0
      have HOK : Hid (bd = 0 → ∀ c ∈ Ls, RightR c.1 ∧ -1099511627776 ≤ c.2 ∧ c.2 ≤ 1099511627776) := fun h c hc => by
        have hr := (HGOOD4.out h).1
        obtain ⟨hz0, hzb0⟩ := guE_two HR.out hr
        have hfit : ∃ X, Fit X ∧ c ∈ X := by
          rw [HLS.out] at hc
          split at hc
          · exact ⟨_, (HBG.out.z.right hzb0).1, hc⟩
          · obtain ⟨X, hX, hcX⟩ := List.mem_flatten.1 hc
            obtain ⟨q, hq, rfl⟩ := List.mem_map.1 hX
            obtain ⟨_, _, hqs, _⟩ := guE_zero (HZE.out.symm.trans hz0)
            exact ⟨_, ((HQ.out.bags q hq).right (hqs q hq).1).1, hcX⟩
        obtain ⟨X, hX, hcX⟩ := hfit
        exact ⟨hX.rows c hcX, hX.small c hcX⟩
      clear hi0 hzc0 hsz0 hby0
      go_wp2_with fail
      go_loopg [12, 42] l (fun g s12 s42 wr => ∃ (i : Nat) (M : List Ct) (ov : Value), i ≤ l ∧ l - i ≤ g ∧ ov = s12 ∧ s42 = .int .i64 i ∧ MW w ((Q.take i).map (·.X)).flatten M ∧ M.length = qN (Q.take i) ∧ wr.ownsRow wk.heap.size 55 2 ov M.length (ctRow M) ∧ Below wk.heap.size wk wr)
      case atStart => exact ⟨0, [], _, Nat.zero_le _, by omega, rfl, rfl, ⟨rfl, fun x hx => (by cases hx)⟩, rfl, World.ownsRow_nil _ _ _ _, Below.refl _ _⟩
      case round =>
        clear x1 x2 hlx
        obtain ⟨i, M, ov, hi, hg, rfl, rfl, hmw, hml, how, hbw⟩ := hrel
        have HMW := toHid hmw
        have HOW := toHid how
        have HBW := toHid hbw
        have HML := toHid hml
        have HBT := toHid (HB4.out.trans (hbw.mono HB4.out.size))
        clear hmw how hbw hml
        by_cases hlt : i < l
        · have hil : (i : Int) < l := by omega
          obtain ⟨b, off, rfl, hbb, hcc⟩ := HQ.out.at'.2.2 (by omega)
          obtain ⟨q, hq, _⟩ := drop_get (L := Q) (i := i) (by have := HQL.out; omega)
          have d0 := (HBT.out.cell (p := ⟨b, off + i, none⟩) hbb).trans (hcc i q hq)
          have hblr : b < wr.heap.size := Nat.lt_of_lt_of_le hbb HBT.out.size
          obtain ⟨F, hF, hXF⟩ := HQF.out q (List.mem_of_getElem? hq)
          have hnx := qN_next hq
          have hle := qN_take Q (i + 1)
          have HNX : Hid (M.length + q.l = qN (Q.take (i + 1))) := by
            show _ = _
            rw [hnx, HML.out]
          have HFL : Hid ((ctRow F).length = q.l * 2) := by
            show _ = _
            rw [hF.at'.1]
            exact ctRow_len F
          have HFN : Hid (F.length = q.l) := hF.at'.1.symm
          have HNEW : Hid (∀ j u, (ctRow F)[j]? = some u → ∃ ad, q.a = some ad ∧ wr.cell? (ad.add j) = some u) := (hF.at'.below HBT.out).news
          have HONE := toHid (ctRow_one F)
          have HMW2 : Hid (MW w ((Q.take (i + 1)).map (·.X)).flatten (M ++ F)) := by
            have e1 : Q.take (i + 1) = Q.take i ++ [q] := by rw [List.take_add_one, hq]; rfl
            show MW _ _ _
            rw [e1, List.map_append, List.flatten_append]
            refine HMW.out.snoc ⟨?_, fun x hx => hF.lies x hx⟩
            simp [hXF]
          have hsum : M.length + q.l ≤ 400000 := by have := HNX.out; have := HNL.out; omega
          have HBy : (M.length + q.l) * 32 ≤ 140737488355328 := by omega
          have HBm : M.length + q.l ≤ maxLen := by unfold maxLen; omega
          have hwz : wk.heap.size ≤ wr.heap.size := HBW.out.size
          clear hcc hq hF hXF hnx hle
          go_wp2_with (at_builtin; refine wpList_append_two _ (by rfl) _ _ 25 26 (by rfl) wk.heap.size 55 55 i0 _ 2 32 Tryd.underlying25 Tryd.underlying26 HI0.out HIZ.out HIS.out HIB.out rfl (by omega) ov M.length (ctRow M) (by rfl) HOW.out q.a q.l q.c (ctRow F) (by rfl) HFL.out HNEW.out HONE.out HBm HBy hwz ?_; intro v9 w9 hown9 hgrow9 hob9)
          have HOW9 : Hid (w9.ownsRow wk.heap.size 55 2 v9 (M ++ F).length (ctRow (M ++ F))) := by
            have e2 : ctRow (M ++ F) = ctRow M ++ ctRow F := by simp [ctRow]
            show World.ownsRow _ _ _ _ _ _ _
            rw [List.length_append, HFN.out, e2]
            exact hown9
          have HBW9 : Hid (Below wk.heap.size wk w9) := HBW.out.grown hgrow9 hwz (fun j hj => (rowLt HOW.out hj).1)
          clear hown9 hgrow9 hob9 d0
          go_wp2_with fail
          go_roundg (l - (i + 1))
          case measure => omega
          case rel => exact ⟨i + 1, M ++ F, v9, by omega, Nat.le_refl _, rfl, by go_num, HMW2.out, by rw [List.length_append, HFN.out]; exact HNX.out, HOW9.out, HBW9.out⟩
        · have he : i = l := by omega
          subst he
          have hT : Q.take i = Q := List.take_of_length_le (by have := HQL.out; omega)
          rw [hT] at HMW HML
          have HX9 := toHid ((HBW.out.block bu (blkB_lt HX4.out)).trans HX4.out)
          have HV9 := toHid ((HBW.out.block bv (blkB_lt HV4.out)).trans HV4.out)
          have HGOOD9 : Hid (bd = 0 → R = 0 ∧ Told wr (cnt Ls) sa sl ze) := fun h => ⟨(HGOOD4.out h).1, (HGOOD4.out h).2.below HBW.out⟩
          have hwz : wk.heap.size ≤ wr.heap.size := HBW.out.size
          obtain ⟨va, vc, rfl⟩ := row_slice HOW.out
          have HCT := toHid (ctsOwn HOW.out (by have := HML.out; have := HNL.out; omega))
          have HMN : Hid (M.length ≤ 400000) := by have := HML.out; have := HNL.out; show _ ≤ _; omega
          have x0 := cell_of HX9.out 0
          have x2 := cell_of HX9.out 2
          simp at x0 x2
          have hlx := blkB_lt HX9.out
          obtain ⟨gf, hgf⟩ : ∃ gf, gf = f := ⟨_, rfl⟩
          rw [← hgf] at x2
          have HGF := toHid hgf
          clear hT HGOOD4 HX4 HV4 hgf
          go_upto_if 51 with fail
          go_cut [12, 51] (fun s12 s51 wx => (∃ da dl dc D2, s12 = .slice da dl dc ∧ MW w Ls D2 ∧ CtsAt wr D2 da dl ∧ dl ≤ 400000) ∧ (∃ bb, s51 = .bool bb) ∧ wx = wr)
          case first =>
            cases gf with
            | true =>
              have HLD : Hid (MW w Ls D) := ⟨by rw [HLS.out, if_pos HGF.out.symm], HBG.out.lies⟩
              have HCD := toHid (HBG.out.at'.below HBT.out)
              go_wp2_with fail
              go_meet
              exact ⟨⟨_, _, _, D, rfl, HLD.out, HCD.out, hlw⟩, ⟨_, rfl⟩, rfl⟩
            | false =>
              have HLD : Hid (MW w Ls M) := by
                have h5 := HMW.out
                rw [← show Ls = (Q.map (·.X)).flatten by rw [HLS.out, if_neg (by rw [← HGF.out]; simp)]] at h5
                exact h5
              go_wp2_with fail
              go_meet
              exact ⟨⟨_, _, _, M, rfl, HLD.out, HCT.out, HMN.out⟩, ⟨_, rfl⟩, rfl⟩
          case rest =>
            obtain ⟨⟨da, dl, dc, D2, rfl, hmw2, hct2, hdl⟩, ⟨bb, rfl⟩, hww⟩ := hcut
            subst hww
            have HMW2 := toHid hmw2
            have HCT2 := toHid hct2
            have HBTc := toHid HBT.out
            clear hmw2 hct2 HMW HOW HCT HMN
            have HLI : Hid (∀ x ∈ D2, LiesS wc x.L x.a x.l ∧ wtL x.L ≤ 1099511627776) := fun x hx => ⟨LiesS.below HBTc.out _ _ _ (HMW2.out.lies x hx).1.1, (HMW2.out.lies x hx).2.2⟩
            by_cases hbd0 : bd = 0
            case neg =>
              have hbe : (bd == 0) = false := by simp [hbd0]
              have hbn : (bd != 0) = true := by simp [hbd0]
              have hze := HBAD.out hbd0
              obtain ⟨rfl, rfl, rfl, rfl⟩ := H2.out (by rw [hze]; exact hbd0)
              have hzz : (ze == bd) = true := by simp [hze]
              have HWB := toHid (bagOf_wild D2 da dl dc wc HCT2.out HLI.out)
              clear hbd0 hze
              go_wp2_with fail
              refine HWB.out.mono ?_
              rintro e w6 ⟨⟨vv, F, rfl, hrow⟩, k6⟩
              have HB6 := toHid (HBTc.out.trans (k6.mono HBTc.out.size))
              have HV6 := toHid ((k6.block bv (blkB_lt HV9.out)).trans HV9.out)
              clear hrow k6 HWB x0 x2 hlx
              go_wp2_with fail
              refine (waits_true w.heap.size w6 HB6.out.size (HTB.out.below HB6.out)).mono ?_
              rintro e wA ⟨rfl, kA⟩
              have HBA := toHid (HB6.out.trans (kA.mono HB6.out.size))
              have HVA := toHid ((kA.block bv (blkB_lt HV6.out)).trans HV6.out)
              clear kA
              go_wp2_with fail
              refine (waits_true w.heap.size wA HBA.out.size (HTB.out.below HBA.out)).mono ?_
              rintro e wB ⟨rfl, kB⟩
              have HBB := toHid (HBA.out.trans (kB.mono HBA.out.size))
              have HVB := toHid ((kB.block bv (blkB_lt HVA.out)).trans HVA.out)
              clear kB HVA
              have y0 := cell_of HVB.out 0
              have y1 := cell_of HVB.out 1
              have y2 := cell_of HVB.out 2
              have y3 := cell_of HVB.out 3
              simp at y0 y1 y2 y3
              have hly := blkB_lt HVB.out
              have HSG := toHid (sameG_any [] 0 0 false none none 0 0 0 0 wB (GQ.nil _) (GQ.nil _))
              go_wp2_with fail
              refine HSG.out.mono ?_
              rintro e wC ⟨rfl, kC⟩
              have HBC := toHid (HBB.out.trans (kC.mono HBB.out.size))
              clear kC HSG y0 y1 y2 y3 hly
              go_wp2_with fail
              go_ret
              exact ⟨rfl, HBC.out⟩
            subst hbd0
            have hok := HOK.out rfl
            obtain ⟨hr0, htold⟩ := HGOOD9.out rfl
            have HTOLD := toHid htold
            have hcn : ∀ x ∈ D2, x.cn ∈ Ls := fun x hx => by
              rw [← HMW2.out.cn]
              exact List.mem_map.2 ⟨x, hx, rfl⟩
            have habs : absS D2 ≤ 2305843009213693952 := by
              have h1 := absS_small (m := 1099511627776) D2 fun x hx => by
                have h2 := (hok _ (hcn x hx)).2
                have h3 : -1099511627776 ≤ x.n := h2.1
                have h4 : x.n ≤ 1099511627776 := h2.2
                omega
              have h2 : D2.length * 1099511627776 ≤ 400000 * 1099511627776 := Nat.mul_le_mul_right _ (by rw [← HCT2.out.1]; exact hdl)
              omega
            have HBO := toHid (bagOf_ref D2 da dl dc wc HCT2.out HLI.out habs)
            have HD2 : Hid (D2.length ≤ 400000) := by show _ ≤ _; rw [← HCT2.out.1]; exact hdl
            clear hok hcn habs htold hr0
            go_wp2_with fail
            refine HBO.out.mono ?_
            rintro e w6 ⟨⟨vv, E, rfl, hp, hs, hrow⟩, k6⟩
            have HB6 := toHid (HBTc.out.trans (k6.mono HBTc.out.size))
            have HV6 := toHid ((k6.block bv (blkB_lt HV9.out)).trans HV9.out)
            have HX6 := toHid ((k6.block bu (blkB_lt HX9.out)).trans HX9.out)
            have hT6 := HTOLD.out.below k6
            obtain ⟨hb1, hb2⟩ := ref_bag hp hs
            obtain ⟨ea, ec, rfl⟩ := row_slice hrow
            have hSl : (nzC (tgCs E)).length ≤ 400000 := Nat.le_trans (ref_len E) (by rw [hp.length_eq]; exact HD2.out)
            have hSat := ctsOwn hrow (by omega)
            have hSm := ref_mem (P := fun x => (LiesS w6 x.L x.a x.l ∧ x.l ≤ x.c) ∧ InL x.L ∧ wtL x.L ≤ 1099511627776) (fun p n h => h) hp fun x hx => ⟨⟨LiesS.below HB6.out _ _ _ (HMW2.out.lies x hx).1.1, (HMW2.out.lies x hx).1.2⟩, (HMW2.out.lies x hx).2⟩
            generalize nzC (tgCs E) = S at hb1 hb2 hSl hSat hSm ⊢
            obtain ⟨hck, hright⟩ := ref_check (c := ec) HB6.out.size (HTB.out.below HB6.out) hSat hSm
            obtain ⟨Z, zz1, zz2, zz3⟩ := hT6
            have hZS : Z = S.map Ct.cn := bag_ext _ _ zz1 hb1 fun r => by rw [zz2, hb2, HMW2.out.cn]
            subst hZS
            have HCK := toHid hck
            have HRT := toHid hright
            have HZ3 := toHid zz3
            generalize bagX (S.map Ct.cn) = bx at HCK HRT HZ3
            generalize hSn : S.length = sn at HCK HRT ⊢
            clear hb1 hb2 hSat hSm hck hright zz1 zz2 zz3 hp hs hrow k6 HBO x0 x2 hlx HTOLD hSn
            go_wp2_with fail
            refine HCK.out.mono ?_
            rintro e w7 ⟨rfl, k7⟩
            have HB7 := toHid (HB6.out.trans (k7.mono HB6.out.size))
            have HV7 := toHid ((k7.block bv (blkB_lt HV6.out)).trans HV6.out)
            have HX7 := toHid ((k7.block bu (blkB_lt HX6.out)).trans HX6.out)
            have HK7 := toHid k7
            clear k7 HCK
            by_cases hbx : bx = 0
            case neg =>
              have hbn : (bx != 0) = true := by simp [hbx]
              obtain ⟨hze, hsl0⟩ : ze = bx ∧ sl = 0 := by
                rcases HZ3.out with ⟨h, _⟩ | ⟨_, h, h2⟩
                · exact absurd h hbx
                · exact ⟨h, h2⟩
              obtain ⟨rfl, rfl, rfl, rfl⟩ := H2.out (by rw [hze]; exact hbx)
              have hzz : (ze == bx) = true := by simp [hze]
              clear hbx hze hsl0
              go_wp2_with fail
              refine (waits_true w.heap.size w7 HB7.out.size (HTB.out.below HB7.out)).mono ?_
              rintro e wA ⟨rfl, kA⟩
              have HBA := toHid (HB7.out.trans (kA.mono HB7.out.size))
              have HVA := toHid ((kA.block bv (blkB_lt HV7.out)).trans HV7.out)
              clear kA
              go_wp2_with fail
              refine (waits_true w.heap.size wA HBA.out.size (HTB.out.below HBA.out)).mono ?_
              rintro e wB ⟨rfl, kB⟩
              have HBB := toHid (HBA.out.trans (kB.mono HBA.out.size))
              have HVB := toHid ((kB.block bv (blkB_lt HVA.out)).trans HVA.out)
              clear kB HVA
              have y0 := cell_of HVB.out 0
              have y1 := cell_of HVB.out 1
              have y2 := cell_of HVB.out 2
              have y3 := cell_of HVB.out 3
              simp at y0 y1 y2 y3
              have hly := blkB_lt HVB.out
              have HSG := toHid (sameG_any [] 0 0 false none none 0 0 0 0 wB (GQ.nil _) (GQ.nil _))
              go_wp2_with fail
              refine HSG.out.mono ?_
              rintro e wC ⟨rfl, kC⟩
              have HBC := toHid (HBB.out.trans (kC.mono HBB.out.size))
              clear kC HSG y0 y1 y2 y3 hly
              go_wp2_with fail
              go_ret
              exact ⟨rfl, HBC.out⟩
            subst hbx
            obtain ⟨rfl, hrz⟩ : ze = 0 ∧ RB w6 (S.map Ct.cn) sa sl := by
              rcases HZ3.out with ⟨_, h, h2⟩ | ⟨h, _⟩
              · exact ⟨h, h2⟩
              · exact absurd rfl h
            obtain ⟨rfl, rfl, rfl⟩ := H3.out rfl
            have hrs := HRT.out rfl
            have HRZ7 := toHid (hrz.below HK7.out)
            have HRS7 := toHid (hrs.below HK7.out)
            clear hrz hrs
            go_wp2_with fail
            refine (waits_true w.heap.size w7 HB7.out.size (HTB.out.below HB7.out)).mono ?_
            rintro e wA ⟨rfl, kA⟩
            have HBA := toHid (HB7.out.trans (kA.mono HB7.out.size))
            have HVA := toHid ((kA.block bv (blkB_lt HV7.out)).trans HV7.out)
            have HXA := toHid ((kA.block bu (blkB_lt HX7.out)).trans HX7.out)
            have HSB := toHid (same_rb (c := sc) (c' := ec) (HRZ7.out.below kA) (HRS7.out.below kA))
            clear kA
            have x0 := cell_of HXA.out 0
            have x1 := cell_of HXA.out 1
            have x2 := cell_of HXA.out 2
            have x3 := cell_of HXA.out 3
            simp at x0 x1 x2 x3
            have hlx := blkB_lt HXA.out
            have hff : (fr == fr) = true := by simp
            go_wp2_with fail
            refine HSB.out.mono ?_
            rintro e wB ⟨rfl, kB⟩
            have HBB := toHid (HBA.out.trans (kB.mono HBA.out.size))
            have HVB := toHid ((kB.block bv (blkB_lt HVA.out)).trans HVA.out)
            have HXB := toHid ((kB.block bu (blkB_lt HXA.out)).trans HXA.out)
            clear kB HSB x0 x1 x2 x3 hlx HVA HXA
            have x0 := cell_of HXB.out 0
            have x1 := cell_of HXB.out 1
            have x2 := cell_of HXB.out 2
            have x3 := cell_of HXB.out 3
            simp at x0 x1 x2 x3
            have y0 := cell_of HVB.out 0
            have y1 := cell_of HVB.out 1
            have y2 := cell_of HVB.out 2
            have y3 := cell_of HVB.out 3
            simp at y0 y1 y2 y3
            have hlx := blkB_lt HXB.out
            have hly := blkB_lt HVB.out
            have HSG := toHid (sameG_any [] v' t' false none none 0 0 0 0 wB (GQ.nil _) (GQ.nil _))
            go_wp2_with fail
            refine HSG.out.mono ?_
            rintro e wC ⟨rfl, kC⟩
            have HBC := toHid (HBB.out.trans (kC.mono HBB.out.size))
            clear kC HSG x0 x1 x2 x3 y0 y1 y2 y3 hlx hly
            go_wp2_with fail
            go_ret
            exact ⟨rfl, HBC.out⟩
end Go.Proofs.YtmjeanpjiogkiaaDoor
