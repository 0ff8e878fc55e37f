/-
  What is proved here: a map keyed by pairs, as the block that it is: looking up, counting one more.
-/
import Derived.Test.YtkdadaggolcboaaDoorRMap
import Derived.ChangeKeysEq
import Derived.WideKeyRuns
namespace Go.Proofs.YtkdadaggolcboaaDoor
open Go.RowKit Go.MapKept
set_option linter.unusedVariables false
set_option linter.unusedSimpArgs false

abbrev pkey (p : Int × Int) : Value := .agg #[.int .i64 p.1, .int .i64 p.2]
abbrev PE := (Int × Int) × Value × Nat
def toE (t : PE) : MapEntry := ⟨pkey t.1, t.2.1, t.2.2⟩

def pget (p : Int × Int) : List PE → Option Value
  | [] => none
  | t :: l => if p = t.1 then some t.2.1 else pget p l

def pidx (p : Int × Int) : List PE → Nat → Option (Nat × Value)
  | [], _ => none
  | t :: l, i => if p = t.1 then some (i, t.2.1) else pidx p l (i + 1)

theorem check_p (b : Bool) (p : Int × Int) (w : World) : (Instr.checkKey b 10000 34 (pkey p)).run Tryd.prog w = .ok () w := by kernel_rfl

theorem part_0 (x y : Int) (w : World) : (part 3 #[.int .i64 x, .int .i64 y] 0).run Tryd.prog w = .ok (.int .i64 x) w := by kernel_rfl
theorem part_1 (x y : Int) (w : World) : (part 3 #[.int .i64 x, .int .i64 y] 1).run Tryd.prog w = .ok (.int .i64 y) w := by kernel_rfl

theorem equal_p (p q : Int × Int) (w : World) : (Op.equal 34 (pkey p) (pkey q)).run Tryd.prog w = .ok (decide (p = q)) w := by
  obtain ⟨a, b⟩ := p
  obtain ⟨c, d⟩ := q
  have hc : Tryd.prog.cellsOf 3 = 1 := by kernel_rfl
  cases hi : Tryd.prog.info? 3 with
  | none =>
    have : (Tryd.prog.info? 3).isSome = true := by kernel_rfl
    rw [hi] at this
    cases this
  | some i =>
    have h : (Op.equal 34 (pkey (a, b)) (pkey (c, d))).run Tryd.prog w = (Op.eqItems 9999 3 (Tryd.prog.cellsOf 3) #[.int .i64 a, .int .i64 b] #[.int .i64 c, .int .i64 d] (List.range 2)).run Tryd.prog w := run_equalIn_array w 9999 _ _ Tryd.underlying34 hi
    have e1 : ∀ x y : Int, (Op.equalIn 9999 3 (.int .i64 x) (.int .i64 y)).run Tryd.prog w = .ok (x == y) w := fun x y => run_equalIn_int w 9998 _ _ _ x y Tryd.underlying3
    rw [h, hc, show List.range 2 = [0, 1] from rfl]
    simp only [Op.eqItems, Sem.run_bind, Nat.zero_mul, Nat.one_mul, part_0, part_1, Result.andThen_ok, e1]
    cases h1 : (a == c) with
    | false =>
      have : ¬ a = c := by simpa using h1
      simp [this]
    | true =>
      have : a = c := by simpa using h1
      simp only [Bool.not_true, Bool.false_eq_true, if_false, Sem.run_bind, Nat.one_mul, part_1, Result.andThen_ok, e1]
      cases h2 : (b == d) with
      | false =>
        have : ¬ b = d := by simpa using h2
        simp [this]
      | true =>
        have : b = d := by simpa using h2
        simp [*]

theorem run_find_p (p : Int × Int) (w : World) : ∀ (L : List PE) (i : Nat), (Instr.findAsking 34 (pkey p) (L.map toE) i).run Tryd.prog w = .ok (pidx p L i) w
  | [], i => rfl
  | t :: l, i => by
    have ih := run_find_p p w l (i + 1)
    show (Instr.findAsking 34 (pkey p) (toE t :: l.map toE) i).run Tryd.prog w = _
    unfold Instr.findAsking
    simp only [Sem.run_bind]
    rw [show (toE t).key = pkey t.1 from rfl, equal_p p t.1 w]
    simp only [Result.andThen_ok, pidx]
    by_cases h : p = t.1
    · simp [h, toE]
    · simp only [h, decide_false, Bool.false_eq_true, if_false]
      exact ih

theorem run_findKey_p (p : Int × Int) (w : World) (L : List PE) : (Instr.findKey 34 (pkey p) (L.map toE)).run Tryd.prog w = .ok (pidx p L 0) w := (run_findKey_eq (P := Tryd.prog) (w := w) (k := 34) (by rw [Tryd.underlying34]) (pkey p) (L.map toE)).trans (run_find_p p w L 0)

theorem pidx_get (p : Int × Int) : ∀ (L : List PE) (i : Nat), (pidx p L i).map (·.2) = pget p L
  | [], i => rfl
  | t :: l, i => by
    unfold pidx pget
    by_cases h : p = t.1
    · simp [h]
    · simp only [h, if_false]
      exact pidx_get p l (i + 1)

/-- The map at block r: how often each pair was counted. -/
def MapP (w : World) (r : Nat) (f : Int × Int → Nat) : Prop := ∃ (L : List PE) (clk : Nat), w.heap[r]? = some (.map (L.map toE).toArray clk) ∧ (∀ t ∈ L, t.2.2 < clk) ∧ (L.map (·.2.2)).Nodup ∧ ∀ p, (pget p L).getD (.int .i64 0) = .int .i64 (f p)

theorem MapP.lt {w : World} {r : Nat} {f : Int × Int → Nat} (h : MapP w r f) : r < w.heap.size := by
  obtain ⟨L, clk, h1, _⟩ := h
  exact (Array.getElem?_eq_some_iff.1 h1).1

theorem MapP.of {w w' : World} {r : Nat} {f : Int × Int → Nat} (h : MapP w r f) (e : w'.heap[r]? = w.heap[r]?) : MapP w' r f := by
  obtain ⟨L, clk, h1, h2⟩ := h
  exact ⟨L, clk, e.trans h1, h2⟩

theorem mapP_new {w : World} {r : Nat} (h : w.heap[r]? = some (.map #[] 0)) : MapP w r (fun _ => 0) := ⟨[], 0, h, fun t ht => (by cases ht), List.nodup_nil, fun p => rfl⟩

theorem zero_intP (w : World) : (zeroValue 3).run Tryd.prog w = .ok (.int .i64 0) w := by kernel_rfl

theorem run_lookup_p {w : World} {r : Nat} {f : Int × Int → Nat} (h : MapP w r f) (p : Int × Int) : (Instr.lookup 60 (.map (some r)) (pkey p) false).run Tryd.prog w = .ok (.int .i64 (f p)) w := by
  obtain ⟨L, clk, hr, h1, h2, h3⟩ := h
  have h0 := Go.MapKept.run_getObj_map (P := Tryd.prog) hr
  have hk := run_findKey_p p w L
  have hg := pidx_get p L 0
  have hp := h3 p
  unfold Instr.lookup
  simp only [Sem.run_bind, run_underlying Tryd.underlying60, Result.andThen, h0, Sem.run_pure, check_p, List.toList_toArray, hk]
  cases hx : pidx p L 0 with
  | none =>
    rw [hx] at hg
    rw [← hg] at hp
    simp only [Sem.run_bind, zero_intP, Result.andThen, Sem.run_pure]
    rw [← hp]
    rfl
  | some q =>
    rw [hx] at hg
    rw [← hg] at hp
    simp only [Sem.run_pure, Result.andThen]
    rw [← hp]
    rfl

/-- The entry at place j with another value. -/
def setV (L : List PE) (j : Nat) (v : Value) : List PE := L.modify j fun t => (t.1, v, t.2.2)

theorem pidx_spec (p : Int × Int) (v' : Value) : ∀ (L : List PE) (i k : Nat) (v : Value), pidx p L i = some (k, v) → ∃ j t, k = i + j ∧ L[j]? = some t ∧ t.1 = p ∧ t.2.1 = v ∧ ∀ q, pget q (setV L j v') = if q = p then some v' else pget q L
  | [], i, k, v, h => by cases h
  | t :: l, i, k, v, h => by
    unfold pidx at h
    by_cases hp : p = t.1
    · rw [if_pos hp] at h
      injection h with h
      injection h with h1 h2
      refine ⟨0, t, by omega, rfl, hp.symm, h2, fun q => ?_⟩
      have e : setV (t :: l) 0 v' = (t.1, v', t.2.2) :: l := rfl
      rw [e]
      unfold pget
      by_cases hq : q = p
      · subst hq
        simp [hp]
      · have hq2 : ¬ q = t.1 := fun e => hq (e.trans hp.symm)
        simp [hq, hq2]
    · rw [if_neg hp] at h
      obtain ⟨j, t', h1, h2, h3, h4, h5⟩ := pidx_spec p v' l (i + 1) k v h
      refine ⟨j + 1, t', by omega, by simpa using h2, h3, h4, fun q => ?_⟩
      have e : setV (t :: l) (j + 1) v' = t :: setV l j v' := rfl
      rw [e]
      unfold pget
      by_cases hq : q = t.1
      · have : ¬ q = p := fun e => hp (e.symm.trans hq)
        simp [hq, Ne.symm hp]
      · simp only [hq, if_false]
        exact h5 q

theorem pidx_push (p : Int × Int) (z : Value) (c : Nat) : ∀ (L : List PE) (i : Nat), pidx p L i = none → pidx p (L ++ [(p, z, c)]) i = some (i + L.length, z) ∧ ∀ q, q ≠ p → pget q (L ++ [(p, z, c)]) = pget q L
  | [], i, _ => ⟨by simp [pidx], fun q hq => by simp [pget, hq]⟩
  | t :: l, i, h => by
    unfold pidx at h
    by_cases hp : p = t.1
    · rw [if_pos hp] at h
      cases h
    · rw [if_neg hp] at h
      obtain ⟨h1, h2⟩ := pidx_push p z c l (i + 1) h
      refine ⟨?_, fun q hq => ?_⟩
      · show pidx p (t :: (l ++ [(p, z, c)])) i = _
        unfold pidx
        rw [if_neg hp, h1]
        simp
        omega
      · show pget q (t :: (l ++ [(p, z, c)])) = _
        unfold pget
        rw [h2 q hq]

theorem find_born : ∀ (L : List PE) (j : Nat) (t : PE), L[j]? = some t → (L.map (·.2.2)).Nodup → (L.map toE).findIdx? (fun e => (e.born : Int) == (t.2.2 : Int)) = some j
  | [], j, t, h, _ => by simp at h
  | x :: l, 0, t, h, _ => by
    simp at h
    subst h
    simp [List.findIdx?_cons, toE]
  | x :: l, j + 1, t, h, hn => by
    have h' : l[j]? = some t := by simpa using h
    rw [List.map_cons, List.nodup_cons] at hn
    have ih := find_born l j t h' hn.2
    have hne : ¬ x.2.2 = t.2.2 := fun e => hn.1 (e ▸ List.mem_map.2 ⟨t, List.mem_of_getElem? h', rfl⟩)
    rw [List.map_cons, List.findIdx?_cons, ih]
    have : ((toE x).born : Int) == (t.2.2 : Int) ↔ False := by simp [toE]; omega
    simp [toE, hne]
    omega

theorem setV_toE (L : List PE) (j : Nat) (v : Value) : (L.map toE).modify j (fun e => { e with val := v }) = (setV L j v).map toE := by
  unfold setV
  induction L generalizing j with
  | nil => simp
  | cons t l ih =>
    cases j with
    | zero => simp [toE]
    | succ j => simp [ih]

theorem setV_born (L : List PE) (j : Nat) (v : Value) : (setV L j v).map (·.2.2) = L.map (·.2.2) := by
  unfold setV
  induction L generalizing j with
  | nil => simp
  | cons t l ih =>
    cases j with
    | zero => simp
    | succ j => simp [ih]

theorem keep_toE (L : List PE) (j : Nat) (t : PE) (h : L[j]? = some t) (p : Int × Int) (hp : t.1 = p) : (L.map toE).modify j (fun e => { e with key := pkey p }) = L.map toE := by
  induction L generalizing j with
  | nil => simp
  | cons x l ih =>
    cases j with
    | zero =>
      simp at h
      subst h
      subst hp
      simp [toE]
    | succ j =>
      have := ih j (by simpa using h)
      simp [this]

theorem sameBits_p (p : Int × Int) : Instr.sameBits 10000 (pkey p) (pkey p) = true := by
  show (_ && _) = true
  simp [Instr.sameBits]

theorem stays_p (p : Int × Int) (w : World) : (Instr.keyThatStays (pkey p) (pkey p)).run Tryd.prog w = .ok (pkey p) w := by
  unfold Instr.keyThatStays
  rw [if_pos (sameBits_p p)]
  rfl

/-- One more of a pair: the entry, then what is stored in it. -/
theorem run_count_p {w : World} {r : Nat} {f : Int × Int → Nat} (h : MapP w r f) (p : Int × Int) (v' : Value) : ∃ (stamp : Int) (v : Value) (o1 : Obj), (Instr.mapEntry 60 (.map (some r)) (pkey p)).run Tryd.prog w = .ok (.tuple #[v, .int .i64 stamp]) (putB w r o1) ∧ (∀ w1 : World, w1.heap[r]? = some o1 → MapP w1 r f) ∧ ∀ w1 : World, w1.heap[r]? = some o1 → ∃ o2, (Instr.entryStore 60 (.map (some r)) (.int .i64 stamp) v').run Tryd.prog w1 = .ok () (putB w1 r o2) ∧ (v' = .int .i64 ((f p : Int) + 1) → ∀ w2 : World, w2.heap[r]? = some o2 → MapP w2 r (fun q => if q = p then f q + 1 else f q)) := by
  obtain ⟨L, clk, hr, h1, h2, h3⟩ := h
  have h0 := Go.MapKept.run_getObj_map (P := Tryd.prog) hr
  have hk := run_findKey_p p w L
  have store : ∀ (L1 : List PE) (clk1 j : Nat) (v : Value), (∀ t ∈ L1, t.2.2 < clk1) → (L1.map (·.2.2)).Nodup → pidx p L1 0 = some (j, v) → (∀ q, q ≠ p → pget q L1 = pget q L) → ∃ t, L1[j]? = some t ∧ t.1 = p ∧ t.2.1 = v ∧ ∀ w1 : World, w1.heap[r]? = some (.map (L1.map toE).toArray clk1) → ∃ o2, (Instr.entryStore 60 (.map (some r)) (.int .i64 (t.2.2 : Int)) v').run Tryd.prog w1 = .ok () (putB w1 r o2) ∧ (v' = .int .i64 ((f p : Int) + 1) → ∀ w2 : World, w2.heap[r]? = some o2 → MapP w2 r (fun q => if q = p then f q + 1 else f q)) := by
    intro L1 clk1 j v q1 q2 q3 q4
    obtain ⟨j', t, e1, e2, e3, e4, e5⟩ := pidx_spec p v' L1 0 j v q3
    rw [Nat.zero_add] at e1
    subst e1
    refine ⟨t, e2, e3, e4, fun w1 hw1 => ⟨.map ((setV L1 j v').map toE).toArray clk1, ?_, fun hv w2 hw2 => ⟨setV L1 j v', clk1, hw2, fun x hx => ?_, by rw [setV_born]; exact q2, fun q => ?_⟩⟩⟩
    · have g0 := Go.MapKept.run_getObj_map (P := Tryd.prog) hw1
      have g1 := Go.MapKept.run_setObj_map (P := Tryd.prog) (.map ((setV L1 j v').map toE).toArray clk1) hw1
      have g2 : ((L1.map toE).toArray).findIdx? (fun e => (e.born : Int) == (t.2.2 : Int)) = some j := by
        rw [List.findIdx?_toArray]
        exact find_born L1 j t e2 q2
      have g3 : ((L1.map toE).toArray).modify j (fun e => { e with val := v' }) = ((setV L1 j v').map toE).toArray := by
        rw [← setV_toE, List.modify_toArray]
      unfold Instr.entryStore
      simp only [Sem.run_bind, g0, Result.andThen, asInt, asIntOf, Sem.run_pure, g2, g3, g1]
      rfl
    · have hb : x.2.2 ∈ (setV L1 j v').map (·.2.2) := List.mem_map.2 ⟨x, hx, rfl⟩
      rw [setV_born] at hb
      obtain ⟨y, hy, e⟩ := List.mem_map.1 hb
      have := q1 y hy
      omega
    · rw [e5 q]
      by_cases hq : q = p
      · subst hq
        simp [hv]
      · simp only [hq, if_false]
        rw [q4 q hq]
        exact h3 q
  cases hx : pidx p L 0 with
  | some jv =>
    obtain ⟨j, v⟩ := jv
    obtain ⟨t, e2, e3, e4, hst⟩ := store L clk j v h1 h2 hx (fun _ _ => rfl)
    refine ⟨(t.2.2 : Int), v, .map (L.map toE).toArray clk, ?_, fun w1 hw1 => ⟨L, clk, hw1, h1, h2, h3⟩, hst⟩
    have g1 := Go.MapKept.run_setObj_map (P := Tryd.prog) (.map (L.map toE).toArray clk) hr
    have g2 : ((L.map toE).toArray)[j]? = some (toE t) := by simp [e2]
    have g3 : ((L.map toE).toArray).modify j (fun e => { e with key := pkey p }) = (L.map toE).toArray := by
      rw [List.modify_toArray, keep_toE L j t e2 p e3]
    have g4 : (toE t).key = pkey p := by rw [← e3]; rfl
    unfold Instr.mapEntry
    simp only [Sem.run_bind, run_underlying Tryd.underlying60, Result.andThen, h0, check_p, List.toList_toArray, hk, hx, g2, Option.map_some, Option.getD_some, g4, stays_p, g3, g1, Sem.run_pure]
    rfl
  | none =>
    obtain ⟨p1, p2⟩ := pidx_push p (.int .i64 0) clk L 0 hx
    rw [Nat.zero_add] at p1
    have b1 : ∀ x ∈ L ++ [((p, Value.int .i64 0, clk) : PE)], x.2.2 < clk + 1 := fun x hx2 => by
      rcases List.mem_append.1 hx2 with hx2 | hx2
      · have := h1 x hx2
        omega
      · simp at hx2
        subst hx2
        exact Nat.lt_succ_self _
    have b2 : ((L ++ [((p, Value.int .i64 0, clk) : PE)]).map (·.2.2)).Nodup := by
      rw [List.map_append, List.nodup_append]
      refine ⟨h2, by simp, fun a ha b hb => ?_⟩
      simp at hb
      subst hb
      obtain ⟨y, hy, rfl⟩ := List.mem_map.1 ha
      have := h1 y hy
      omega
    have b3 : ∀ q, (pget q (L ++ [((p, Value.int .i64 0, clk) : PE)])).getD (.int .i64 0) = .int .i64 (f q) := fun q => by
      by_cases hq : q = p
      · subst hq
        have g1 := pidx_get q (L ++ [((q, Value.int .i64 0, clk) : PE)]) 0
        rw [p1] at g1
        rw [← g1]
        have g2 := pidx_get q L 0
        rw [hx] at g2
        have g3 := h3 q
        rw [← g2] at g3
        exact g3
      · rw [p2 q hq]
        exact h3 q
    obtain ⟨t, e2, e3, e4, hst⟩ := store (L ++ [(p, .int .i64 0, clk)]) (clk + 1) L.length (.int .i64 0) b1 b2 p1 p2
    have ht : t = ((p, Value.int .i64 0, clk) : PE) := by simpa using e2.symm
    subst ht
    refine ⟨(clk : Int), .int .i64 0, .map ((L ++ [((p, Value.int .i64 0, clk) : PE)]).map toE).toArray (clk + 1), ?_, fun w1 hw1 => ⟨_, _, hw1, b1, b2, b3⟩, hst⟩
    have g1 := Go.MapKept.run_setObj_map (P := Tryd.prog) (.map ((L ++ [((p, Value.int .i64 0, clk) : PE)]).map toE).toArray (clk + 1)) hr
    have g3 : ((L.map toE).toArray).push { key := pkey p, val := .int .i64 0, born := clk } = ((L ++ [((p, Value.int .i64 0, clk) : PE)]).map toE).toArray := by
      simp [toE]
    unfold Instr.mapEntry
    simp only [Sem.run_bind, run_underlying Tryd.underlying60, Result.andThen, h0, check_p, List.toList_toArray, hk, hx, zero_intP, g3, g1, Sem.run_pure]
    rfl
end Go.Proofs.YtkdadaggolcboaaDoor
