/-
  What is proved here: what the texts RMapP, RWithout, GProp, GProp2, GKnows prove, in one text.
-/
import Derived.Test.YtebbjmjgojekdaaGreatDoorRMap
import Derived.ChangeKeysEq
import Derived.WideKeyRuns
import Derived.Test.YtebbjmjgojekdaaGreatDoorQCAK
import Derived.Deep.RegionLaw
import Derived.Test.YtebbjmjgojekdaaGreatDoorQCAI
import Derived.Test.YtebbjmjgojekdaaGreatDoorQCAE
namespace Go.Proofs.YtebbjmjgojekdaaGreatDoor
open Go.RowKit
set_option linter.unusedVariables false

open Go.RowKit Go.MapKept
set_option linter.unusedVariables false
set_option linter.unusedSimpArgs false

abbrev pkey (p : Int × Int) : Value := .agg #[.int .i64 p.1, .int .i64 p.2]
abbrev PE := (Int × Int) × Value × Nat
def toE (t : PE) : MapEntry := ⟨pkey t.1, t.2.1, t.2.2⟩

def pget (p : Int × Int) : List PE → Option Value
  | [] => none
  | t :: l => if p = t.1 then some t.2.1 else pget p l

def pidx (p : Int × Int) : List PE → Nat → Option (Nat × Value)
  | [], _ => none
  | t :: l, i => if p = t.1 then some (i, t.2.1) else pidx p l (i + 1)

theorem check_p (b : Bool) (p : Int × Int) (w : World) : (Instr.checkKey b 10000 33 (pkey p)).run Tryz.prog w = .ok () w := by kernel_rfl

theorem part_0 (x y : Int) (w : World) : (part 3 #[.int .i64 x, .int .i64 y] 0).run Tryz.prog w = .ok (.int .i64 x) w := by kernel_rfl
theorem part_1 (x y : Int) (w : World) : (part 3 #[.int .i64 x, .int .i64 y] 1).run Tryz.prog w = .ok (.int .i64 y) w := by kernel_rfl

theorem equal_p (p q : Int × Int) (w : World) : (Op.equal 33 (pkey p) (pkey q)).run Tryz.prog w = .ok (decide (p = q)) w := by
  obtain ⟨a, b⟩ := p
  obtain ⟨c, d⟩ := q
  have hc : Tryz.prog.cellsOf 3 = 1 := by kernel_rfl
  cases hi : Tryz.prog.info? 3 with
  | none =>
    have : (Tryz.prog.info? 3).isSome = true := by kernel_rfl
    rw [hi] at this
    cases this
  | some i =>
    have h : (Op.equal 33 (pkey (a, b)) (pkey (c, d))).run Tryz.prog w = (Op.eqItems 9999 3 (Tryz.prog.cellsOf 3) #[.int .i64 a, .int .i64 b] #[.int .i64 c, .int .i64 d] (List.range 2)).run Tryz.prog w := run_equalIn_array w 9999 _ _ Tryz.underlying33 hi
    have e1 : ∀ x y : Int, (Op.equalIn 9999 3 (.int .i64 x) (.int .i64 y)).run Tryz.prog w = .ok (x == y) w := fun x y => run_equalIn_int w 9998 _ _ _ x y Tryz.underlying3
    rw [h, hc, show List.range 2 = [0, 1] from rfl]
    simp only [Op.eqItems, Sem.run_bind, Nat.zero_mul, Nat.one_mul, part_0, part_1, Result.andThen_ok, e1]
    cases h1 : (a == c) with
    | false =>
      have : ¬ a = c := by simpa using h1
      simp [this]
    | true =>
      have : a = c := by simpa using h1
      simp only [Bool.not_true, Bool.false_eq_true, if_false, Sem.run_bind, Nat.one_mul, part_1, Result.andThen_ok, e1]
      cases h2 : (b == d) with
      | false =>
        have : ¬ b = d := by simpa using h2
        simp [this]
      | true =>
        have : b = d := by simpa using h2
        simp [*]

theorem run_find_p (p : Int × Int) (w : World) : ∀ (L : List PE) (i : Nat), (Instr.findAsking 33 (pkey p) (L.map toE) i).run Tryz.prog w = .ok (pidx p L i) w
  | [], i => rfl
  | t :: l, i => by
    have ih := run_find_p p w l (i + 1)
    show (Instr.findAsking 33 (pkey p) (toE t :: l.map toE) i).run Tryz.prog w = _
    unfold Instr.findAsking
    simp only [Sem.run_bind]
    rw [show (toE t).key = pkey t.1 from rfl, equal_p p t.1 w]
    simp only [Result.andThen_ok, pidx]
    by_cases h : p = t.1
    · simp [h, toE]
    · simp only [h, decide_false, Bool.false_eq_true, if_false]
      exact ih

theorem run_findKey_p (p : Int × Int) (w : World) (L : List PE) : (Instr.findKey 33 (pkey p) (L.map toE)).run Tryz.prog w = .ok (pidx p L 0) w := (run_findKey_eq (P := Tryz.prog) (w := w) (k := 33) (by rw [Tryz.underlying33]) (pkey p) (L.map toE)).trans (run_find_p p w L 0)

theorem pidx_get (p : Int × Int) : ∀ (L : List PE) (i : Nat), (pidx p L i).map (·.2) = pget p L
  | [], i => rfl
  | t :: l, i => by
    unfold pidx pget
    by_cases h : p = t.1
    · simp [h]
    · simp only [h, if_false]
      exact pidx_get p l (i + 1)

/-- The map at block r: how often each pair was counted. -/
def MapP (w : World) (r : Nat) (f : Int × Int → Nat) : Prop := ∃ (L : List PE) (clk : Nat), w.heap[r]? = some (.map (L.map toE).toArray clk) ∧ (∀ t ∈ L, t.2.2 < clk) ∧ (L.map (·.2.2)).Nodup ∧ ∀ p, (pget p L).getD (.int .i64 0) = .int .i64 (f p)

theorem MapP.lt {w : World} {r : Nat} {f : Int × Int → Nat} (h : MapP w r f) : r < w.heap.size := by
  obtain ⟨L, clk, h1, _⟩ := h
  exact (Array.getElem?_eq_some_iff.1 h1).1

theorem MapP.of {w w' : World} {r : Nat} {f : Int × Int → Nat} (h : MapP w r f) (e : w'.heap[r]? = w.heap[r]?) : MapP w' r f := by
  obtain ⟨L, clk, h1, h2⟩ := h
  exact ⟨L, clk, e.trans h1, h2⟩

theorem mapP_new {w : World} {r : Nat} (h : w.heap[r]? = some (.map #[] 0)) : MapP w r (fun _ => 0) := ⟨[], 0, h, fun t ht => (by cases ht), List.nodup_nil, fun p => rfl⟩

theorem zero_intP (w : World) : (zeroValue 3).run Tryz.prog w = .ok (.int .i64 0) w := by kernel_rfl

theorem run_lookup_p {w : World} {r : Nat} {f : Int × Int → Nat} (h : MapP w r f) (p : Int × Int) : (Instr.lookup 132 (.map (some r)) (pkey p) false).run Tryz.prog w = .ok (.int .i64 (f p)) w := by
  obtain ⟨L, clk, hr, h1, h2, h3⟩ := h
  have h0 := Go.MapKept.run_getObj_map (P := Tryz.prog) hr
  have hk := run_findKey_p p w L
  have hg := pidx_get p L 0
  have hp := h3 p
  unfold Instr.lookup
  simp only [Sem.run_bind, run_underlying Tryz.underlying132, Result.andThen, h0, Sem.run_pure, check_p, List.toList_toArray, hk]
  cases hx : pidx p L 0 with
  | none =>
    rw [hx] at hg
    rw [← hg] at hp
    simp only [Sem.run_bind, zero_intP, Result.andThen, Sem.run_pure]
    rw [← hp]
    rfl
  | some q =>
    rw [hx] at hg
    rw [← hg] at hp
    simp only [Sem.run_pure, Result.andThen]
    rw [← hp]
    rfl

/-- The entry at place j with another value. -/
def setV (L : List PE) (j : Nat) (v : Value) : List PE := L.modify j fun t => (t.1, v, t.2.2)

theorem pidx_spec (p : Int × Int) (v' : Value) : ∀ (L : List PE) (i k : Nat) (v : Value), pidx p L i = some (k, v) → ∃ j t, k = i + j ∧ L[j]? = some t ∧ t.1 = p ∧ t.2.1 = v ∧ ∀ q, pget q (setV L j v') = if q = p then some v' else pget q L
  | [], i, k, v, h => by cases h
  | t :: l, i, k, v, h => by
    unfold pidx at h
    by_cases hp : p = t.1
    · rw [if_pos hp] at h
      injection h with h
      injection h with h1 h2
      refine ⟨0, t, by omega, rfl, hp.symm, h2, fun q => ?_⟩
      have e : setV (t :: l) 0 v' = (t.1, v', t.2.2) :: l := rfl
      rw [e]
      unfold pget
      by_cases hq : q = p
      · subst hq
        simp [hp]
      · have hq2 : ¬ q = t.1 := fun e => hq (e.trans hp.symm)
        simp [hq, hq2]
    · rw [if_neg hp] at h
      obtain ⟨j, t', h1, h2, h3, h4, h5⟩ := pidx_spec p v' l (i + 1) k v h
      refine ⟨j + 1, t', by omega, by simpa using h2, h3, h4, fun q => ?_⟩
      have e : setV (t :: l) (j + 1) v' = t :: setV l j v' := rfl
      rw [e]
      unfold pget
      by_cases hq : q = t.1
      · have : ¬ q = p := fun e => hp (e.symm.trans hq)
        simp [hq, Ne.symm hp]
      · simp only [hq, if_false]
        exact h5 q

theorem pidx_push (p : Int × Int) (z : Value) (c : Nat) : ∀ (L : List PE) (i : Nat), pidx p L i = none → pidx p (L ++ [(p, z, c)]) i = some (i + L.length, z) ∧ ∀ q, q ≠ p → pget q (L ++ [(p, z, c)]) = pget q L
  | [], i, _ => ⟨by simp [pidx], fun q hq => by simp [pget, hq]⟩
  | t :: l, i, h => by
    unfold pidx at h
    by_cases hp : p = t.1
    · rw [if_pos hp] at h
      cases h
    · rw [if_neg hp] at h
      obtain ⟨h1, h2⟩ := pidx_push p z c l (i + 1) h
      refine ⟨?_, fun q hq => ?_⟩
      · show pidx p (t :: (l ++ [(p, z, c)])) i = _
        unfold pidx
        rw [if_neg hp, h1]
        simp
        omega
      · show pget q (t :: (l ++ [(p, z, c)])) = _
        unfold pget
        rw [h2 q hq]

theorem find_born : ∀ (L : List PE) (j : Nat) (t : PE), L[j]? = some t → (L.map (·.2.2)).Nodup → (L.map toE).findIdx? (fun e => (e.born : Int) == (t.2.2 : Int)) = some j
  | [], j, t, h, _ => by simp at h
  | x :: l, 0, t, h, _ => by
    simp at h
    subst h
    simp [List.findIdx?_cons, toE]
  | x :: l, j + 1, t, h, hn => by
    have h' : l[j]? = some t := by simpa using h
    rw [List.map_cons, List.nodup_cons] at hn
    have ih := find_born l j t h' hn.2
    have hne : ¬ x.2.2 = t.2.2 := fun e => hn.1 (e ▸ List.mem_map.2 ⟨t, List.mem_of_getElem? h', rfl⟩)
    rw [List.map_cons, List.findIdx?_cons, ih]
    have : ((toE x).born : Int) == (t.2.2 : Int) ↔ False := by simp [toE]; omega
    simp [toE, hne]
    omega

theorem setV_toE (L : List PE) (j : Nat) (v : Value) : (L.map toE).modify j (fun e => { e with val := v }) = (setV L j v).map toE := by
  unfold setV
  induction L generalizing j with
  | nil => simp
  | cons t l ih =>
    cases j with
    | zero => simp [toE]
    | succ j => simp [ih]

theorem setV_born (L : List PE) (j : Nat) (v : Value) : (setV L j v).map (·.2.2) = L.map (·.2.2) := by
  unfold setV
  induction L generalizing j with
  | nil => simp
  | cons t l ih =>
    cases j with
    | zero => simp
    | succ j => simp [ih]

theorem keep_toE (L : List PE) (j : Nat) (t : PE) (h : L[j]? = some t) (p : Int × Int) (hp : t.1 = p) : (L.map toE).modify j (fun e => { e with key := pkey p }) = L.map toE := by
  induction L generalizing j with
  | nil => simp
  | cons x l ih =>
    cases j with
    | zero =>
      simp at h
      subst h
      subst hp
      simp [toE]
    | succ j =>
      have := ih j (by simpa using h)
      simp [this]

theorem sameBits_p (p : Int × Int) : Instr.sameBits 10000 (pkey p) (pkey p) = true := by
  show (_ && _) = true
  simp [Instr.sameBits]

theorem stays_p (p : Int × Int) (w : World) : (Instr.keyThatStays (pkey p) (pkey p)).run Tryz.prog w = .ok (pkey p) w := by
  unfold Instr.keyThatStays
  rw [if_pos (sameBits_p p)]
  rfl

/-- One more of a pair: the entry, then what is stored in it. -/
theorem run_count_p {w : World} {r : Nat} {f : Int × Int → Nat} (h : MapP w r f) (p : Int × Int) (v' : Value) : ∃ (stamp : Int) (v : Value) (o1 : Obj), (Instr.mapEntry 132 (.map (some r)) (pkey p)).run Tryz.prog w = .ok (.tuple #[v, .int .i64 stamp]) (putB w r o1) ∧ (∀ w1 : World, w1.heap[r]? = some o1 → MapP w1 r f) ∧ ∀ w1 : World, w1.heap[r]? = some o1 → ∃ o2, (Instr.entryStore 132 (.map (some r)) (.int .i64 stamp) v').run Tryz.prog w1 = .ok () (putB w1 r o2) ∧ (v' = .int .i64 ((f p : Int) + 1) → ∀ w2 : World, w2.heap[r]? = some o2 → MapP w2 r (fun q => if q = p then f q + 1 else f q)) := by
  obtain ⟨L, clk, hr, h1, h2, h3⟩ := h
  have h0 := Go.MapKept.run_getObj_map (P := Tryz.prog) hr
  have hk := run_findKey_p p w L
  have store : ∀ (L1 : List PE) (clk1 j : Nat) (v : Value), (∀ t ∈ L1, t.2.2 < clk1) → (L1.map (·.2.2)).Nodup → pidx p L1 0 = some (j, v) → (∀ q, q ≠ p → pget q L1 = pget q L) → ∃ t, L1[j]? = some t ∧ t.1 = p ∧ t.2.1 = v ∧ ∀ w1 : World, w1.heap[r]? = some (.map (L1.map toE).toArray clk1) → ∃ o2, (Instr.entryStore 132 (.map (some r)) (.int .i64 (t.2.2 : Int)) v').run Tryz.prog w1 = .ok () (putB w1 r o2) ∧ (v' = .int .i64 ((f p : Int) + 1) → ∀ w2 : World, w2.heap[r]? = some o2 → MapP w2 r (fun q => if q = p then f q + 1 else f q)) := by
    intro L1 clk1 j v q1 q2 q3 q4
    obtain ⟨j', t, e1, e2, e3, e4, e5⟩ := pidx_spec p v' L1 0 j v q3
    rw [Nat.zero_add] at e1
    subst e1
    refine ⟨t, e2, e3, e4, fun w1 hw1 => ⟨.map ((setV L1 j v').map toE).toArray clk1, ?_, fun hv w2 hw2 => ⟨setV L1 j v', clk1, hw2, fun x hx => ?_, by rw [setV_born]; exact q2, fun q => ?_⟩⟩⟩
    · have g0 := Go.MapKept.run_getObj_map (P := Tryz.prog) hw1
      have g1 := Go.MapKept.run_setObj_map (P := Tryz.prog) (.map ((setV L1 j v').map toE).toArray clk1) hw1
      have g2 : ((L1.map toE).toArray).findIdx? (fun e => (e.born : Int) == (t.2.2 : Int)) = some j := by
        rw [List.findIdx?_toArray]
        exact find_born L1 j t e2 q2
      have g3 : ((L1.map toE).toArray).modify j (fun e => { e with val := v' }) = ((setV L1 j v').map toE).toArray := by
        rw [← setV_toE, List.modify_toArray]
      unfold Instr.entryStore
      simp only [Sem.run_bind, g0, Result.andThen, asInt, asIntOf, Sem.run_pure, g2, g3, g1]
      rfl
    · have hb : x.2.2 ∈ (setV L1 j v').map (·.2.2) := List.mem_map.2 ⟨x, hx, rfl⟩
      rw [setV_born] at hb
      obtain ⟨y, hy, e⟩ := List.mem_map.1 hb
      have := q1 y hy
      omega
    · rw [e5 q]
      by_cases hq : q = p
      · subst hq
        simp [hv]
      · simp only [hq, if_false]
        rw [q4 q hq]
        exact h3 q
  cases hx : pidx p L 0 with
  | some jv =>
    obtain ⟨j, v⟩ := jv
    obtain ⟨t, e2, e3, e4, hst⟩ := store L clk j v h1 h2 hx (fun _ _ => rfl)
    refine ⟨(t.2.2 : Int), v, .map (L.map toE).toArray clk, ?_, fun w1 hw1 => ⟨L, clk, hw1, h1, h2, h3⟩, hst⟩
    have g1 := Go.MapKept.run_setObj_map (P := Tryz.prog) (.map (L.map toE).toArray clk) hr
    have g2 : ((L.map toE).toArray)[j]? = some (toE t) := by simp [e2]
    have g3 : ((L.map toE).toArray).modify j (fun e => { e with key := pkey p }) = (L.map toE).toArray := by
      rw [List.modify_toArray, keep_toE L j t e2 p e3]
    have g4 : (toE t).key = pkey p := by rw [← e3]; rfl
    unfold Instr.mapEntry
    simp only [Sem.run_bind, run_underlying Tryz.underlying132, Result.andThen, h0, check_p, List.toList_toArray, hk, hx, g2, Option.map_some, Option.getD_some, g4, stays_p, g3, g1, Sem.run_pure]
    rfl
  | none =>
    obtain ⟨p1, p2⟩ := pidx_push p (.int .i64 0) clk L 0 hx
    rw [Nat.zero_add] at p1
    have b1 : ∀ x ∈ L ++ [((p, Value.int .i64 0, clk) : PE)], x.2.2 < clk + 1 := fun x hx2 => by
      rcases List.mem_append.1 hx2 with hx2 | hx2
      · have := h1 x hx2
        omega
      · simp at hx2
        subst hx2
        exact Nat.lt_succ_self _
    have b2 : ((L ++ [((p, Value.int .i64 0, clk) : PE)]).map (·.2.2)).Nodup := by
      rw [List.map_append, List.nodup_append]
      refine ⟨h2, by simp, fun a ha b hb => ?_⟩
      simp at hb
      subst hb
      obtain ⟨y, hy, rfl⟩ := List.mem_map.1 ha
      have := h1 y hy
      omega
    have b3 : ∀ q, (pget q (L ++ [((p, Value.int .i64 0, clk) : PE)])).getD (.int .i64 0) = .int .i64 (f q) := fun q => by
      by_cases hq : q = p
      · subst hq
        have g1 := pidx_get q (L ++ [((q, Value.int .i64 0, clk) : PE)]) 0
        rw [p1] at g1
        rw [← g1]
        have g2 := pidx_get q L 0
        rw [hx] at g2
        have g3 := h3 q
        rw [← g2] at g3
        exact g3
      · rw [p2 q hq]
        exact h3 q
    obtain ⟨t, e2, e3, e4, hst⟩ := store (L ++ [(p, .int .i64 0, clk)]) (clk + 1) L.length (.int .i64 0) b1 b2 p1 p2
    have ht : t = ((p, Value.int .i64 0, clk) : PE) := by simpa using e2.symm
    subst ht
    refine ⟨(clk : Int), .int .i64 0, .map ((L ++ [((p, Value.int .i64 0, clk) : PE)]).map toE).toArray (clk + 1), ?_, fun w1 hw1 => ⟨_, _, hw1, b1, b2, b3⟩, hst⟩
    have g1 := Go.MapKept.run_setObj_map (P := Tryz.prog) (.map ((L ++ [((p, Value.int .i64 0, clk) : PE)]).map toE).toArray (clk + 1)) hr
    have g3 : ((L.map toE).toArray).push { key := pkey p, val := .int .i64 0, born := clk } = ((L ++ [((p, Value.int .i64 0, clk) : PE)]).map toE).toArray := by
      simp [toE]
    unfold Instr.mapEntry
    simp only [Sem.run_bind, run_underlying Tryz.underlying132, Result.andThen, h0, check_p, List.toList_toArray, hk, hx, zero_intP, g3, g1, Sem.run_pure]
    rfl

set_option linter.unusedSimpArgs false

/-- A row of pairs that may be read. -/
def PrsAt (w : World) (L : List (Int × Int)) (a : Option Addr) (l : Nat) : Prop := l = L.length ∧ l ≤ 1000000 ∧ (0 < l → ∃ b off, a = some ⟨b, off, none⟩ ∧ b < w.heap.size ∧ ∀ i p, L[i]? = some p → w.cell? ⟨b, off + i * 2, none⟩ = some (.int .i64 p.1) ∧ w.cell? ⟨b, off + i * 2 + 1, none⟩ = some (.int .i64 p.2))

theorem PrsAt.below {w w' : World} (k : Below w.heap.size w w') {L : List (Int × Int)} {a : Option Addr} {l : Nat} (h : PrsAt w L a l) : PrsAt w' L a l := by
  obtain ⟨h1, h2, h3⟩ := h
  refine ⟨h1, h2, fun h0 => ?_⟩
  obtain ⟨b, off, e, hb, hc⟩ := h3 h0
  refine ⟨b, off, e, Nat.lt_of_lt_of_le hb k.size, fun i p hp => ?_⟩
  obtain ⟨c0, c1⟩ := hc i p hp
  exact ⟨(k.cell (p := ⟨b, off + i * 2, none⟩) hb).trans c0, (k.cell (p := ⟨b, off + i * 2 + 1, none⟩) hb).trans c1⟩

def countP2 (L : List (Int × Int)) (p : Int × Int) : Nat := L.countP fun q => decide (q = p)

theorem count_take {L : List (Int × Int)} {i : Nat} {x : Int × Int} (h : L[i]? = some x) : (fun q => if q = x then countP2 (L.take i) q + 1 else countP2 (L.take i) q) = countP2 (L.take (i + 1)) := by
  funext q
  unfold countP2
  rw [List.take_add_one, h]
  by_cases hq : q = x
  · subst hq
    simp
  · have : ¬ x = q := fun e => hq e.symm
    simp [hq, this]

theorem less_take {L : List (Int × Int)} {j : Nat} {x : Int × Int} (h : L[j]? = some x) (M : List (Int × Int)) : lessP (L.take (j + 1)) M = if countP2 M x = 0 then lessP (L.take j) M ++ [x] else lessP (L.take j) M := by
  unfold lessP
  rw [List.take_add_one, h]
  simp only [Option.toList_some, List.filter_append]
  have hc : countP2 M x = 0 ↔ M.contains x = false := by
    unfold countP2
    rw [List.countP_eq_zero]
    constructor
    · intro hh
      cases hx : M.contains x with
      | false => rfl
      | true =>
        have hm : x ∈ M := by simpa using hx
        exact absurd (hh x hm) (by simp)
    · intro hh y hy e
      have e : y = x := by simpa using e
      subst e
      have : M.contains y = true := by simpa using hy
      rw [hh] at this
      cases this
  by_cases h0 : countP2 M x = 0
  · rw [if_pos h0]
    have hnm : ¬ x ∈ M := by simpa using hc.1 h0
    simp [hnm]
  · rw [if_neg h0]
    have : M.contains x = true := by
      cases hx : M.contains x with
      | true => rfl
      | false => exact absurd (hc.2 hx) h0
    have hm : x ∈ M := by simpa using this
    simp [hm]

theorem run_among (w : World) : (Instr.makeMap 132 none).run Tryz.prog w = .ok (.map (some w.heap.size)) (w.alloc (.map #[] 0)) := rfl

set_option maxHeartbeats 4000000 in
set_option maxRecDepth 100000 in
theorem without_any (L M : List (Int × Int)) (a : Option Addr) (l c : Nat) (a' : Option Addr) (l' c' : Nat) (w : World) (hL : PrsAt w L a l) (hM : PrsAt w M a' l') :
    Calls Tryz.prog 41 #[.slice a l c, .slice a' l' c'] w fun e w' => ∃ v, e = .returned v ∧ w'.ownsRow w.heap.size 33 2 v (lessP L M).length (pcells (lessP L M)) ∧ Below w.heap.size w w' := by
  obtain ⟨hl1, hl2, hl3⟩ := hL
  obtain ⟨hm1, hm2, hm3⟩ := hM
  have HL1 := toHid hl1
  have HL3 := toHid hl3
  have HM1 := toHid hm1
  have HM3 := toHid hm3
  clear hl1 hl3 hm1 hm3
  have hmm := fun X : World => run_among X
  go_enter Tryz.func41, Tryz.ntmps41
  go_wp2_with fail
  go_loopg [14] l' (fun g s14 wr => ∃ (i : Nat), i ≤ l' ∧ l' - i ≤ g ∧ s14 = .int .i64 i ∧ MapP wr w.heap.size (countP2 (M.take i)) ∧ Below w.heap.size w wr)
  case atStart => exact ⟨0, Nat.zero_le _, by omega, rfl, mapP_new (alloc_new w (.map #[] 0)), (Below.refl _ _).alloc (Nat.le_refl _) _⟩
  case round =>
    obtain ⟨i, hi, hg, rfl, hmp, hbw⟩ := hrel
    by_cases hlt : i < l'
    · obtain ⟨b, off, ha, hb, hc⟩ := HM3.out (by omega)
      subst ha
      obtain ⟨x, hx, _⟩ := drop_get (L := M) (i := i) (by have := HM1.out; omega)
      obtain ⟨c0, c1⟩ := hc i x hx
      have d0 := (hbw.cell (p := ⟨b, off + i * 2, none⟩) hb).trans c0
      have d1 := (hbw.cell (p := ⟨b, off + i * 2 + 1, none⟩) hb).trans c1
      have HX := toHid hx
      have HMP := toHid hmp
      clear hc hx c0 c1 hmp
      have hil : (i : Int) < l' := by omega
      go_upto_region 5 with fail
      have HBX := toHid (alloc_new wr (.cells #[.int .i64 x.1, .int .i64 x.2] 33))
      have HBW := toHid (hbw.alloc hbw.size (.cells #[.int .i64 x.1, .int .i64 x.2] 33))
      have HMQ : Hid (MapP (wr.alloc (.cells #[.int .i64 x.1, .int .i64 x.2] 33)).drew w.heap.size (countP2 (M.take i))) := HMP.out.of (by
        exact Below.heap_alloc _ _ _ HMP.out.lt)
      generalize wr.alloc (.cells #[.int .i64 x.1, .int .i64 x.2] 33) = Wp at HBX HBW HMQ ⊢
      have hcb : countP2 (M.take i) x ≤ 1000000 := by
        refine Nat.le_trans List.countP_le_length ?_
        rw [List.length_take]
        omega
      have l1 := run_lookup_p HMQ.out x
      obtain ⟨stamp, v0, o1, m1, mm, hst⟩ := run_count_p HMQ.out x (.int .i64 ((countP2 (M.take i) x : Int) + 1))
      have hlt1 : w.heap.size < Wp.drew.heap.size := HMQ.out.lt
      have hh1 : (putB Wp.drew w.heap.size o1).heap[w.heap.size]? = some o1 := putB_here hlt1 o1
      have l2 := run_lookup_p (mm _ hh1) x
      obtain ⟨o2, s1, hfin⟩ := hst _ hh1
      have hh2 : (putB (putB Wp.drew w.heap.size o1) w.heap.size o2).heap[w.heap.size]? = some o2 := putB_here (by rw [putB_size]; exact hlt1) o2
      have HFIN := toHid (hfin rfl _ hh2)
      have HBF : Hid (Below w.heap.size w (putB (putB Wp.drew w.heap.size o1) w.heap.size o2)) := (HBW.out.drew.trans (putB_bel _ _ _ _ (Nat.le_refl _))).trans (putB_bel _ _ _ _ (Nat.le_refl _))
      have hne : wr.heap.size ≠ w.heap.size := by have := HMP.out.lt; omega
      have hbq : (putB Wp.drew w.heap.size o1).heap[wr.heap.size]? = some (.cells #[.int .i64 x.1, .int .i64 x.2] 33 (0, 0)) := (putB_other _ _ _ _ hne).trans HBX.out
      have y0 := cell_of HBX.out 0
      have y1 := cell_of HBX.out 1
      have z0 := cell_of hbq 0
      have z1 := cell_of hbq 1
      simp at y0 y1 z0 z1
      have hwrap : IntKind.i64.wrap ((countP2 (M.take i) x : Int) + 1) = (countP2 (M.take i) x : Int) + 1 := by
        simp [IntKind.wrap, IntKind.bits, IntKind.signed]
        omega
      have hpl : wr.heap.size < Wp.heap.size := blk_lt HBX.out
      clear hst hfin mm hh1 hh2 hbq d0 d1
      go_region_law (fail)
      all_goals
        clear l1 l2 m1 s1 y0 y1 z0 z1
        generalize putB (putB Wp.drew w.heap.size o1) w.heap.size o2 = WZ at HFIN HBF ⊢
        go_wp2_with fail
        go_roundg (l' - (i + 1))
        case measure => omega
        case rel => exact ⟨i + 1, by omega, by omega, by go_num, by rw [← count_take HX.out]; exact HFIN.out, HBF.out⟩
    · have he : i = l' := by omega
      subst he
      have htk : M.take i = M := List.take_of_length_le (by have := HM1.out; omega)
      rw [htk] at hmp
      have HMP := toHid hmp
      have HBW := toHid hbw
      clear hmp hbw HM1 HM3
      go_wp2_with fail
      obtain ⟨i0, hi0, hz0, hs0, hb0⟩ := pair_info
      have HLT := toHid HMP.out.lt
      go_loopg [8, 27] l (fun g s8 s27 wr => ∃ (j : Nat) (va : Option Addr) (n cap : Nat), j ≤ l ∧ l - j ≤ g ∧ s27 = .int .i64 j ∧ s8 = .slice va n cap ∧ wr.ownsRow (w.heap.size + 1) 33 2 (.slice va n cap) (lessP (L.take j) M).length (pcells (lessP (L.take j) M)) ∧ MapP wr w.heap.size (countP2 M) ∧ Below w.heap.size w wr)
      case atStart => exact ⟨0, none, 0, 0, Nat.zero_le _, by omega, rfl, rfl, World.ownsRow_nil _ _ _ _, HMP.out, HBW.out⟩
      case round =>
        clear HMP HBW HLT
        obtain ⟨j, va, n, cap, hj, hg2, rfl, rfl, hrow, hmp, hbw⟩ := hrel
        have HROW := toHid hrow
        have HMP := toHid hmp
        clear hrow hmp
        by_cases hlt : j < l
        · obtain ⟨b, off, ha, hb, hc⟩ := HL3.out (by omega)
          subst ha
          obtain ⟨x, hx, _⟩ := drop_get (L := L) (i := j) (by have := HL1.out; omega)
          obtain ⟨c0, c1⟩ := hc j x hx
          have d0 := (hbw.cell (p := ⟨b, off + j * 2, none⟩) hb).trans c0
          have d1 := (hbw.cell (p := ⟨b, off + j * 2 + 1, none⟩) hb).trans c1
          have HX := toHid hx
          have HBW := toHid (hbw.alloc hbw.size (.cells #[.int .i64 x.1, .int .i64 x.2] 33))
          have HLT := toHid HMP.out.lt
          clear hc hx c0 c1 hbw
          have hjl : (j : Int) < l := by omega
          go_upto_region 11 with fail
          have HBX := toHid (alloc_new wr (.cells #[.int .i64 x.1, .int .i64 x.2] 33))
          have HMQ : Hid (MapP (wr.alloc (.cells #[.int .i64 x.1, .int .i64 x.2] 33)) w.heap.size (countP2 M)) := HMP.out.of (Below.heap_alloc _ _ _ HMP.out.lt)
          have HRQ : Hid ((wr.alloc (.cells #[.int .i64 x.1, .int .i64 x.2] 33)).ownsRow (w.heap.size + 1) 33 2 (.slice va n cap) (lessP (L.take j) M).length (pcells (lessP (L.take j) M))) := row_kept1 HROW.out fun g hg => Below.heap_alloc _ _ _ (HROW.out.lt g hg).2
          generalize wr.alloc (.cells #[.int .i64 x.1, .int .i64 x.2] 33) = Wp at HBX HBW HMQ HRQ ⊢
          clear d0 d1
          have y0 := cell_of HBX.out 0
          have y1 := cell_of HBX.out 1
          simp at y0 y1
          have hpl : wr.heap.size < Wp.heap.size := blk_lt HBX.out
          have l1 := run_lookup_p HMQ.out x
          have HLS := toHid (less_take HX.out M)
          obtain ⟨cn, hcn⟩ : ∃ cn, cn = countP2 M x := ⟨_, rfl⟩
          rw [← hcn] at l1
          have HCN := toHid hcn
          clear hcn
          by_cases h0 : cn = 0
          · subst h0
            have hls : lessP (L.take (j + 1)) M = lessP (L.take j) M ++ [x] := by rw [HLS.out, if_pos HCN.out.symm]
            have hlen : (lessP (L.take j) M).length ≤ 1000000 := by
              refine Nat.le_trans (List.length_filter_le _ _) ?_
              rw [List.length_take]
              omega
            obtain ⟨nn, hnn⟩ : ∃ nn, nn = (lessP (L.take j) M).length := ⟨_, rfl⟩
            have HNN := toHid hnn
            have hrq := HRQ.out
            rw [← hnn] at hrq hlen
            have HR2 : Hid ((Wp.alloc (.cells #[.int .i64 x.1, .int .i64 x.2] 33)).ownsRow (w.heap.size + 1) 33 2 (.slice va n cap) nn (pcells (lessP (L.take j) M))) := row_kept1 hrq fun g hg => Below.heap_alloc _ _ _ (hrq.lt g hg).2
            have HN2 := toHid (alloc_new Wp (.cells #[.int .i64 x.1, .int .i64 x.2] 33))
            have HBQ := toHid (HBW.out.alloc HBW.out.size (.cells #[.int .i64 x.1, .int .i64 x.2] 33))
            have HLQ := toHid HMQ.out.lt
            clear hnn hrq
            go_wp2_with (at_builtin; refine wpList_append_both _ (by rfl) _ _ _ (by rfl) (w.heap.size + 1) 33 i0 _ 2 16 Tryz.underlying26 hi0 hz0 hs0 hb0 rfl (by omega) (.slice va n cap) nn (pcells (lessP (L.take j) M)) (by rfl) HR2.out (some ⟨Wp.heap.size, 0, none⟩) 1 1 [.int .i64 x.1, .int .i64 x.2] (by rfl) (by rfl) (fun q u hu => ⟨_, rfl, World.news_of_block (cs := #[.int .i64 x.1, .int .i64 x.2]) (t := 33) (fr := (0, 0)) HN2.out q u hu⟩) (by simp [Value.oneCell']) (by unfold maxLen; omega) (by omega) (by have := HLQ.out; simp; omega) ?_; intro v' w1 hown1 hgrow hob; obtain ⟨gg, cc, rfl, _, _⟩ := hown1.form (by omega))
            have hbl : Below w.heap.size w w1 := HBQ.out.grown hgrow (by have := HLQ.out; simp; omega) (fun k hk => by have := (HR2.out.lt k hk).1; omega)
            have hmp1 : MapP w1 w.heap.size (countP2 M) := HMQ.out.of ((hgrow.block _ (by have := HLQ.out; simp; omega) (fun e => by have := (HR2.out.lt _ e.symm).1; omega)).trans (Below.heap_alloc _ _ _ HLQ.out))
            have HOW1 := toHid hown1
            have HBL := toHid hbl
            have HM1 := toHid hmp1
            clear hown1 hgrow hob hbl hmp1 l1 y0 y1
            go_roundg (l - (j + 1))
            case measure => omega
            case rel =>
              refine ⟨j + 1, _, _, _, by omega, by omega, by go_num, rfl, ?_, HM1.out, HBL.out⟩
              rw [hls, pcells_snoc, List.length_append, List.length_singleton, ← HNN.out]
              exact HOW1.out
          · have hne : ((cn : Int) == 0) = false := by simp; omega
            have hls : lessP (L.take (j + 1)) M = lessP (L.take j) M := by rw [HLS.out, if_neg (by rw [← HCN.out]; exact h0)]
            go_wp2_with fail
            go_roundg (l - (j + 1))
            case measure => omega
            case rel => exact ⟨j + 1, _, _, _, by omega, by omega, by go_num, rfl, by rw [hls]; exact HRQ.out, HMQ.out, HBW.out⟩
        · have he : j = l := by omega
          subst he
          have htk : L.take j = L := List.take_of_length_le (by have := HL1.out; omega)
          rw [htk] at HROW
          go_wp2_with fail
          go_ret
          refine ⟨_, rfl, ?_, hbw⟩
          have := HROW.out
          exact ⟨this.1, this.2.imp id fun ⟨g, cap, cur, e1, e2, e3⟩ => ⟨g, cap, cur, e1, by omega, e3⟩⟩

/-- The properties of the node or edge of that number, and where they lie. -/
def Owner (N : List Nd) (E : List Ed) (id : Int) (P : List Pr) (pa : Option Addr) (pl pc : Nat) : Prop :=
  (∃ x ∈ N, x.id = id ∧ x.props = P ∧ x.pa = pa ∧ x.pl = pl ∧ x.pc = pc) ∨ (hasN N id = false ∧ ∃ x ∈ E, x.id = id ∧ x.props = P ∧ x.pa = pa ∧ x.pl = pl ∧ x.pc = pc)

def PoEnd (N : List Nd) (E : List Ed) (id : Int) (e : Ending) : Prop :=
  (∃ P pa pl pc, Owner N E id P pa pl pc ∧ e = .returned (.tuple #[.slice pa pl pc, .bool true])) ∨ (hasN N id = false ∧ id ∉ E.map Ed.id ∧ e = .returned (.tuple #[.slice none 0 0, .bool false]))

def findP (P : List Pr) (name : ByteArray) : Option Pr := P.find? (fun p => p.name.toList == name.toList)

def zvV : Value := .agg #[.int .i64 0, .int .i64 0, .string ⟨#[]⟩, .slice none 0 0]

def PropEnd (w' : World) (er : Int) (N : List Nd) (E : List Ed) (id : Int) (name : ByteArray) (tr : Pr → List T) (e : Ending) : Prop :=
  (er ≠ 0 ∧ e = .returned (.tuple #[zvV, .int .i64 er])) ∨ (er = 0 ∧ hasN N id = false ∧ id ∉ E.map Ed.id ∧ e = .returned (.tuple #[zvV, .int .i64 5])) ∨
  (er = 0 ∧ ∃ P pa pl pc, Owner N E id P pa pl pc ∧ ((findP P name = none ∧ e = .returned (.tuple #[zvV, .int .i64 0])) ∨ ∃ p a' c', findP P name = some p ∧ p ∈ P ∧ e = .returned (.tuple #[.agg #[.int .i64 p.k, .int .i64 p.n, .string p.s, .slice a' p.l c'], .int .i64 0]) ∧ p.l ≤ c' ∧ LiesS w' (tr p) a' p.l))

def SofEnd (P : List Pr) (name : ByteArray) (e : Ending) : Prop := (findP P name = none ∧ e = .returned zvV) ∨ ∃ p, findP P name = some p ∧ p ∈ P ∧ e = .returned (.agg #[.int .i64 p.k, .int .i64 p.n, .string p.s, .slice p.a p.l p.c])

set_option maxHeartbeats 4000000 in
set_option maxRecDepth 100000 in
theorem fresh_zero (w : World) : Calls Tryz.prog 128 #[.agg #[.int .i64 0, .int .i64 0, .string ⟨#[]⟩, .slice none 0 0]] w fun e w' => e = .returned zvV ∧ Below w.heap.size w w' := by
  have HV : Hid (∀ W, Calls Tryz.prog 158 #[.slice none 0 0] W fun e w' => e = .returned (.slice none 0 0) ∧ Below W.heap.size W w') := fun W => values_none none 0 W
  have b0 : Below w.heap.size w ((w.alloc (.cells #[.int .i64 0, .int .i64 0, .string ⟨#[]⟩, .slice none 0 0] 65)).alloc (.cells #[.int .i64 0, .int .i64 0, .string ⟨#[]⟩, .slice none 0 0] 65)) := ((Below.refl _ _).alloc (Nat.le_refl _) _).alloc (by simp) _
  have hx := (Below.heap_alloc (w.alloc (.cells #[.int .i64 0, .int .i64 0, .string ⟨#[]⟩, .slice none 0 0] 65)) (.cells #[.int .i64 0, .int .i64 0, .string ⟨#[]⟩, .slice none 0 0] 65) w.heap.size (by simp)).trans (alloc_new w (.cells #[.int .i64 0, .int .i64 0, .string ⟨#[]⟩, .slice none 0 0] 65))
  have hy := alloc_two w (.cells #[.int .i64 0, .int .i64 0, .string ⟨#[]⟩, .slice none 0 0] 65) (.cells #[.int .i64 0, .int .i64 0, .string ⟨#[]⟩, .slice none 0 0] 65)
  have z0 : ((w.alloc (.cells #[.int .i64 0, .int .i64 0, .string ⟨#[]⟩, .slice none 0 0] 65)).alloc (.cells #[.int .i64 0, .int .i64 0, .string ⟨#[]⟩, .slice none 0 0] 65)).heap.size = w.heap.size + 2 := by simp
  have HB := toHid b0
  have HX := toHid hx
  have HY := toHid hy
  have HZ := toHid z0
  clear b0 hx hy z0
  go_enter Tryz.func128, Tryz.ntmps128
  go_wp2_with fail
  refine (HV.out _).mono ?_
  generalize (w.alloc (.cells #[.int .i64 0, .int .i64 0, .string ⟨#[]⟩, .slice none 0 0] 65)).alloc (.cells #[.int .i64 0, .int .i64 0, .string ⟨#[]⟩, .slice none 0 0] 65) = W at HB HX HY HZ ⊢
  rintro e w1 ⟨rfl, k1⟩
  have s1 : w.heap.size + 2 ≤ w1.heap.size := by have := k1.size; rw [HZ.out] at this; exact this
  have c1 := HB.out.trans (k1.mono HB.out.size)
  have hv1 := (k1.block w.heap.size (by rw [HZ.out]; omega)).trans HX.out
  have hr1 := (k1.block (w.heap.size + 1) (by rw [HZ.out]; omega)).trans HY.out
  have hv2 := cell3_here hv1 (.slice none 0 0)
  have hr2 := (Below.heap_setCell w1 ⟨w.heap.size, 3, none⟩ (.slice none 0 0) (w.heap.size + 1) (by show w.heap.size + 1 ≠ w.heap.size; omega)).trans hr1
  have c2 : Below w.heap.size w (w1.setCell ⟨w.heap.size, 3, none⟩ (.slice none 0 0)) := c1.setCell (p := ⟨w.heap.size, 3, none⟩) (Nat.le_refl _) _
  have s2 : (w1.setCell ⟨w.heap.size, 3, none⟩ (.slice none 0 0)).heap.size = w1.heap.size := by simp [World.setCell]
  have x3 := cell_of hv1 3
  have f3 := free_of hv1 3
  simp at x3
  have hl1 : w.heap.size < w1.heap.size := by omega
  have HV2 := toHid hv2
  have HR2 := toHid hr2
  have HC2 := toHid c2
  have HS2 := toHid s2
  clear hv1 hr1 hv2 hr2 c2 s2 k1 c1
  obtain ⟨X, hX⟩ : ∃ X, X = w1.setCell ⟨w.heap.size, 3, none⟩ (.slice none 0 0) := ⟨_, rfl⟩
  rw [← hX] at HV2 HR2 HC2 HS2
  have q0 := cell_of HV2.out 0
  have q1 := cell_of HV2.out 1
  have q2 := cell_of HV2.out 2
  have q3 := cell_of HV2.out 3
  simp at q0 q1 q2 q3
  have r0 := cell_of HR2.out 0
  have r1 := cell_of HR2.out 1
  have r2 := cell_of HR2.out 2
  have r3 := cell_of HR2.out 3
  simp at r0 r1 r2 r3
  have g0 := free_of HR2.out 0
  have g1 := free_of HR2.out 1
  have g2 := free_of HR2.out 2
  have g3 := free_of HR2.out 3
  have hXs : w1.setCell ⟨w.heap.size, 3, none⟩ (.slice none 0 0) = X := hX.symm
  have HE := toHid (put4_here HR2.out (.int .i64 0) (.int .i64 0) (.string ⟨#[]⟩) (.slice none 0 0))
  have HBB := toHid (HC2.out.trans ((put4_bel X (w.heap.size + 1) (.int .i64 0) (.int .i64 0) (.string ⟨#[]⟩) (.slice none 0 0)).mono (by omega)))
  clear hX HV2 HR2 HC2 HS2
  go_wp2_with fail
  have eP : ∀ X : World, (((X.setCell ⟨w.heap.size + 1, 0, none⟩ (.int .i64 0)).setCell ⟨w.heap.size + 1, 1, none⟩ (.int .i64 0)).setCell ⟨w.heap.size + 1, 2, none⟩ (.string ⟨#[]⟩)).setCell ⟨w.heap.size + 1, 3, none⟩ (.slice none 0 0) = put4 X (w.heap.size + 1) (.int .i64 0) (.int .i64 0) (.string ⟨#[]⟩) (.slice none 0 0) := fun _ => rfl
  rw [eP]
  have E := HE.out
  have hbb := HBB.out
  clear HE HBB
  generalize put4 X (w.heap.size + 1) (.int .i64 0) (.int .i64 0) (.string ⟨#[]⟩) (.slice none 0 0) = Y at E hbb ⊢
  have t0 := cell_of E 0
  have t1 := cell_of E 1
  have t2 := cell_of E 2
  have t3 := cell_of E 3
  simp at t0 t1 t2 t3
  exact bodyPost_ret (v := zvV) (by simp [zvV, results, Tryz.results128, go_sem, t0, t1, t2, t3]) rfl ⟨rfl, hbb⟩

/-- How that graph lies in memory. -/
def KnowsAt (w : World) (lb pb nb eb : Nat) : Prop :=
  w.heap[lb]? = some (.cells #[.string ⟨#[65]⟩] 9 (0, 0)) ∧ w.heap[pb]? = some (.cells #[.string ⟨#[110]⟩, .int .i64 2, .int .i64 5, .string ⟨#[]⟩, .slice none 0 0] 102 (0, 0)) ∧
  w.heap[nb]? = some (.cells #[.int .i64 1, .slice (some ⟨lb, 0, none⟩) 1 1, .slice (some ⟨pb, 0, none⟩) 1 1, .int .i64 2, .slice none 0 0, .slice none 0 0] 72 (0, 0)) ∧
  w.heap[eb]? = some (.cells #[.int .i64 3, .int .i64 1, .int .i64 2, .string ⟨#[75]⟩, .slice none 0 0] 47 (0, 0))

def KnowsEnd (w' : World) (e : Ending) : Prop := ∃ lb pb nb eb, e = .returned (.agg #[.slice (some ⟨nb, 0, none⟩) 2 2, .slice (some ⟨eb, 0, none⟩) 1 1, .int .i64 4]) ∧ KnowsAt w' lb pb nb eb
end Go.Proofs.YtebbjmjgojekdaaGreatDoor
