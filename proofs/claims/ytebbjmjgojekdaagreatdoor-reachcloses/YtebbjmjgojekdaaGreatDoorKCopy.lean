/-
  What is proved here: copy between rows of elements of several cells, as one step; and what a row holds into which an element was laid, the others moved up.
-/
import Derived.Test.YtebbjmjgojekdaaGreatDoorQCAW
import Derived.Test.YtebbjmjgojekdaaGreatDoorQCAX
import Derived.Laws.CopyRow
import Derived.Deep.AppendLies
import Derived.Lib.AppendZerosOnto
import Derived.Lib.Overlaps
import Derived.Laws.Externs
namespace Go.Proofs.YtebbjmjgojekdaaGreatDoor
open Go.RowKit
set_option linter.unusedVariables false

theorem run_copy_more {P : Program} (w : World) (dT sT ty elem : TypeId) (g o dLen dCap : Nat) (a : Addr) (sLen sCap : Nat) (cur : Array Value) (t : TypeId) (cs : List Value) (i : TypeInfo) (k n : Nat)
    (hu : P.underlying dT = some (.slice elem)) (hi : P.info? elem = some i) (hk : i.size = k)
    (hg : w.heap[g]? = some (.cells cur t (0, 0))) (hn : n = Nat.min sLen dLen) (hl : cs.length = n * k)
    (hsrc : ∀ j v, cs[j]? = some v → w.cell? (a.add j) = some v) (hfit : o + cs.length ≤ cur.size) (h1 : ∀ v ∈ cs, v.oneCell' = true) :
    (Builtin.copy_ #[dT, sT] ty #[.slice (some ⟨g, o, none⟩) dLen dCap, .slice (some a) sLen sCap]).run P w =
      .ok (goInt n) (w.setRow g (cur.toList.take o ++ cs ++ cur.toList.drop (o + cs.length)).toArray) := by
  have hld := run_loadCells_list (P := P) w a cs hsrc
  have hst := run_storeCells_at P g o t cs 0 cur w hg (by simpa using hfit) h1
  rw [hl] at hld
  simp [Builtin.copy_, run_underlying hu, Builtin.lenOf, Builtin.firstCells, sizeOf, typeInfo, hi, hk, ← hn, hld, hst]

theorem wp_copy_eq {P : Program} (w : World) {o : Oper} {a : Act} {K : Act → World → Prop} {Q : Exit → Act → World → Prop} (d s : Operand) (t t' : TypeId)
    (ho : o.op = .call { callee := .builtin .copy, args := #[d, s], argTypes := #[t, t'] }) (v u : Value) (hd : a.eval d = v) (hs : a.eval s = u) (v' : Value) (w' : World)
    (hr : (Builtin.copy_ #[t, t'] o.type #[v, u]).run P w = .ok v' w') (h : K (a.put o.dst v') w') : o.wp P a w K Q := by
  unfold Oper.wp
  simp [execOp, ho, resolve, invoke, builtin, hd, hs, hr, Result.andThen]
  exact h

theorem list_copy_eq {P : Program} (w : World) {ops : Array Oper} {rest : List Oper} {o : Oper} {a : Act} {Q : Exit → Act → World → Prop} (hgd : o.guard = none) (d s : Operand) (t t' : TypeId)
    (ho : o.op = .call { callee := .builtin .copy, args := #[d, s], argTypes := #[t, t'] }) (v u : Value) (hd : a.eval d = v) (hs : a.eval s = u) (v' : Value) (w' : World)
    (hr : (Builtin.copy_ #[t, t'] o.type #[v, u]).run P w = .ok v' w') (h : wpList P ops Q rest (a.put o.dst v') w') : wpList P ops Q (o :: rest) a w :=
  wpList_plain hgd fun _ hK => wp_copy_eq w d s t t' ho v u hd hs v' w' hr (hK _ _ h)

theorem step_copy_eq {P : Program} {ops : Array Oper} {o : Oper} {a : Act} {w : World} {K : Act → World → Prop} {Q : Exit → Act → World → Prop} {E : Prop} (hgd : o.guard = none) (d s : Operand) (t t' : TypeId)
    (ho : o.op = .call { callee := .builtin .copy, args := #[d, s], argTypes := #[t, t'] }) (v u : Value) (hd : a.eval d = v) (hs : a.eval s = u) (v' : Value) (w' : World)
    (hr : (Builtin.copy_ #[t, t'] o.type #[v, u]).run P w = .ok v' w') (h : K (a.put o.dst v') w') :
    if Region.wanted o (yielded ops a.tmps) = true then Oper.wp P o a w K Q else E := by
  have hw : Region.wanted o (yielded ops a.tmps) = true := by simp [Region.wanted, hgd]
  rw [if_pos hw]
  exact wp_copy_eq w d s t t' ho v u hd hs v' w' hr h

theorem list_append_eqK {P : Program} (w : World) {ops : Array Oper} {rest : List Oper} {o : Oper} {a : Act} {Q : Exit → Act → World → Prop} (hgd : o.guard = none) (d s : Operand) (t t' : TypeId)
    (ho : o.op = .call { callee := .builtin .append, args := #[d, s], argTypes := #[t, t'] }) (v u : Value) (hd : a.eval d = v) (hs : a.eval s = u) (v' : Value) (w' : World)
    (hr : (Builtin.append_ #[t, t'] o.type #[v, u]).run P w = .ok v' w') (h : wpList P ops Q rest (a.put o.dst v') w') : wpList P ops Q (o :: rest) a w := by
  refine wpList_plain hgd fun _ hK => ?_
  unfold Oper.wp
  simp [execOp, ho, resolve, invoke, builtin, hd, hs, hr, Result.andThen]
  exact hK _ _ h

/-- An element laid into a list. -/
def insL {α : Type} (L : List α) (i : Nat) (x : α) : List α := L.take i ++ x :: L.drop i

theorem insL_len {α : Type} (L : List α) (i : Nat) (x : α) (hi : i ≤ L.length) : (insL L i x).length = L.length + 1 := by
  simp [insL]
  omega

theorem flat_ins {α : Type} (f : α → List Value) (L : List α) (i : Nat) (x : α) : ((insL L i x).map f).flatten = ((L.take i).map f).flatten ++ f x ++ ((L.drop i).map f).flatten := by
  simp [insL]

/-- In place: first the others are moved up, then it is laid down. -/
theorem shift_list {α : Type} (f : α → List Value) (k : Nat) (hk : ∀ x, (f x).length = k) (L : List α) (i : Nat) (x : α) (hi : i ≤ L.length) (cur cur1 cur2 : List Value) (hc : (L.length + 1) * k ≤ cur.length) (ht : cur.take (L.length * k) = (L.map f).flatten)
    (h1 : cur1 = cur.take ((i + 1) * k) ++ ((L.drop i).map f).flatten ++ cur.drop ((i + 1) * k + ((L.drop i).map f).flatten.length))
    (h2 : cur2 = cur1.take (i * k) ++ f x ++ cur1.drop (i * k + (f x).length)) : cur2.length = cur.length ∧ cur2.take ((L.length + 1) * k) = ((insL L i x).map f).flatten := by
  have hd : ((L.drop i).map f).flatten.length = (L.length - i) * k := by rw [flat_len f k hk, List.length_drop]
  have hx := hk x
  have e1 : (i + 1) * k = i * k + k := Nat.succ_mul i k
  have e2 : (L.length + 1) * k = L.length * k + k := Nat.succ_mul _ k
  have e3 : (L.length - i) * k + i * k = L.length * k := by rw [← Nat.add_mul]; congr 1; omega
  have hle : i * k ≤ L.length * k := Nat.mul_le_mul_right k hi
  have l1 : (cur.take ((i + 1) * k)).length = i * k + k := by rw [List.length_take]; omega
  have c1 : cur1.take (i * k) = ((L.take i).map f).flatten := by
    rw [h1, List.append_assoc, List.take_append_of_le_length (by omega), List.take_take, Nat.min_eq_left (by omega)]
    rw [show cur.take (i * k) = (cur.take (L.length * k)).take (i * k) by rw [List.take_take, Nat.min_eq_left hle], ht, flat_take f k hk L i hi]
  have c2 : cur1.drop (i * k + (f x).length) = ((L.drop i).map f).flatten ++ cur.drop ((i + 1) * k + ((L.drop i).map f).flatten.length) := by
    rw [h1, List.append_assoc, hx, ← l1, List.drop_left]
  have l2 : ((L.take i).map f).flatten.length = i * k := by rw [flat_len f k hk, List.length_take, Nat.min_eq_left hi]
  rw [c1, c2] at h2
  refine ⟨?_, ?_⟩
  · rw [h2]
    simp only [List.length_append, List.length_drop, hd, l2, hx]
    omega
  · rw [h2, flat_ins]
    have e : (L.length + 1) * k = (((L.take i).map f).flatten ++ f x ++ ((L.drop i).map f).flatten).length := by
      simp only [List.length_append, hd, l2, hx]
      omega
    rw [e, ← List.append_assoc, List.take_left]

/-- In a new row: first it is laid down, then the others behind it. -/
theorem grow_list {α : Type} (f : α → List Value) (k : Nat) (hk : ∀ x, (f x).length = k) (L : List α) (i : Nat) (x : α) (hi : i ≤ L.length) (cur cur1 cur2 : List Value) (hc : (L.length + 1) * k ≤ cur.length) (ht : cur.take (i * k) = ((L.take i).map f).flatten)
    (h1 : cur1 = cur.take (i * k) ++ f x ++ cur.drop (i * k + (f x).length))
    (h2 : cur2 = cur1.take ((i + 1) * k) ++ ((L.drop i).map f).flatten ++ cur1.drop ((i + 1) * k + ((L.drop i).map f).flatten.length)) : cur2.length = cur.length ∧ cur2.take ((L.length + 1) * k) = ((insL L i x).map f).flatten := by
  have hd : ((L.drop i).map f).flatten.length = (L.length - i) * k := by rw [flat_len f k hk, List.length_drop]
  have hx := hk x
  have e1 : (i + 1) * k = i * k + k := Nat.succ_mul i k
  have e2 : (L.length + 1) * k = L.length * k + k := Nat.succ_mul _ k
  have e3 : (L.length - i) * k + i * k = L.length * k := by rw [← Nat.add_mul]; congr 1; omega
  have hle : i * k ≤ L.length * k := Nat.mul_le_mul_right k hi
  have l2 : ((L.take i).map f).flatten.length = i * k := by rw [flat_len f k hk, List.length_take, Nat.min_eq_left hi]
  have hl1 : cur1.length = cur.length := by
    rw [h1, ht]
    simp only [List.length_append, List.length_drop, l2, hx]
    omega
  have c1 : cur1.take ((i + 1) * k) = ((L.take i).map f).flatten ++ f x := by
    have e : (i + 1) * k = (((L.take i).map f).flatten ++ f x).length := by rw [List.length_append, l2, hx]; omega
    rw [h1, ht, e, List.take_left]
  rw [c1] at h2
  refine ⟨?_, ?_⟩
  · rw [h2]
    simp only [List.length_append, List.length_drop, hd, l2, hx, hl1]
    omega
  · rw [h2, flat_ins]
    have e : (L.length + 1) * k = (((L.take i).map f).flatten ++ f x ++ ((L.drop i).map f).flatten).length := by
      simp only [List.length_append, hd, l2, hx]
      omega
    rw [e, List.take_left]
end Go.Proofs.YtebbjmjgojekdaaGreatDoor
