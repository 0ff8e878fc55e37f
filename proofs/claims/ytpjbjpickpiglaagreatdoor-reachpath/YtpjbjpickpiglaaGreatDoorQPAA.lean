/-
  What is proved here: what the texts RMap prove, in one text.
-/
import Derived.Test.YtpjbjpickpiglaaGreatDoorRows
import Derived.Maps.OwnOps
import Derived.MapKept
import Derived.RowKit
namespace Go.Proofs.YtpjbjpickpiglaaGreatDoor
open Go.RowKit
set_option linter.unusedVariables false

open Go.RowKit Go.MapKept
set_option linter.unusedVariables false
set_option linter.unusedSimpArgs false

/-- What stands at a key. -/
def ifind (n : Int) : List MapEntry → Option Value
  | [] => none
  | e :: es =>
    match e.key with
    | .int _ m => if (n == m) = true then some e.val else ifind n es
    | _ => ifind n es

/-- The same list with another value at a key that is there. -/
def iput (n : Int) (v : Value) : List MapEntry → List MapEntry
  | [] => []
  | e :: es =>
    match e.key with
    | .int _ m => if (n == m) = true then { e with key := .int .i64 n, val := v } :: es else e :: iput n v es
    | _ => e :: iput n v es

def IntKeys (es : List MapEntry) : Prop := ∀ e ∈ es, ∃ m, e.key = .int .i64 m

theorem isKey_int (n : Int) : IsKey (.int .i64) (.int .i64 n) := by simp [IsKey]

theorem findNow_int (n : Int) (v : Value) : ∀ (es : List MapEntry) (i : Nat), IntKeys es → (Instr.findNow (.int .i64) (.int .i64 n) es i = some none ∧ ifind n es = none) ∨ ∃ j x, Instr.findNow (.int .i64) (.int .i64 n) es i = some (some (i + j, x)) ∧ ifind n es = some x ∧ (∃ e, es[j]? = some e ∧ e.key = .int .i64 n) ∧ es.modify j (fun e => { e with key := .int .i64 n, val := v }) = iput n v es
  | [], i, _ => .inl ⟨rfl, rfl⟩
  | e :: es, i, h => by
    obtain ⟨m, hm⟩ := h e (List.mem_cons_self ..)
    have ih := findNow_int n v es (i + 1) (fun x hx => h x (List.mem_cons_of_mem _ hx))
    cases hst : (n == m) with
    | true =>
      have hnm : n = m := by simpa using hst
      refine .inr ⟨0, e.val, by simp [Instr.findNow, hm, Instr.sameNow, hst], by simp [ifind, hm, hst], ⟨e, rfl, by rw [hm, hnm]⟩, ?_⟩
      simp [iput, hm, hst]
    | false =>
      rcases ih with ⟨h1, h2⟩ | ⟨j, x, h1, h2, h3, h4⟩
      · exact .inl ⟨by simp [Instr.findNow, hm, Instr.sameNow, hst, h1], by simp [ifind, hm, hst, h2]⟩
      · refine .inr ⟨j + 1, x, ?_, by simp [ifind, hm, hst, h2], by simpa using h3, ?_⟩
        · simp [Instr.findNow, hm, Instr.sameNow, hst, h1]
          omega
        · simp [iput, hm, hst, h4]

theorem ifind_iput (n : Int) (v : Value) : ∀ (es : List MapEntry), IntKeys es → ∀ x, ifind n es = some x → (∀ m, ifind m (iput n v es) = if m = n then some v else ifind m es) ∧ IntKeys (iput n v es)
  | [], _, x, h => by cases h
  | e :: es, hk, x, h => by
    obtain ⟨m0, hm⟩ := hk e (List.mem_cons_self ..)
    have hk' : IntKeys es := fun y hy => hk y (List.mem_cons_of_mem _ hy)
    cases hst : (n == m0) with
    | true =>
      have hnm : n = m0 := by simpa using hst
      have e1 : iput n v (e :: es) = { e with key := .int .i64 n, val := v } :: es := by simp [iput, hm, hst]
      rw [e1]
      refine ⟨fun m => ?_, fun y hy => ?_⟩
      · by_cases hmn : m = n
        · simp [ifind, hmn]
        · simp [ifind, hm, hmn, ← hnm]
      · rcases List.mem_cons.1 hy with rfl | hy
        · exact ⟨n, rfl⟩
        · exact hk' y hy
    | false =>
      have hnm : ¬ n = m0 := by simpa using hst
      have h' : ifind n es = some x := by simpa [ifind, hm, hst] using h
      obtain ⟨i1, i2⟩ := ifind_iput n v es hk' x h'
      have e1 : iput n v (e :: es) = e :: iput n v es := by simp [iput, hm, hst]
      rw [e1]
      refine ⟨fun m => ?_, fun y hy => ?_⟩
      · by_cases hm0 : m = m0
        · simp [ifind, hm, hm0, Ne.symm hnm]
        · simp [ifind, hm, hm0, i1]
      · rcases List.mem_cons.1 hy with rfl | hy
        · exact ⟨m0, hm⟩
        · exact i2 y hy

theorem ifind_push (n : Int) (v : Value) (b : Nat) : ∀ (es : List MapEntry), IntKeys es → ifind n es = none → (∀ m, ifind m (es ++ [⟨.int .i64 n, v, b⟩]) = if m = n then some v else ifind m es)
  | [], _, _, m => by
    by_cases h : m = n
    · simp [ifind, h]
    · simp [ifind, h]
  | e :: es, hk, h, m => by
    obtain ⟨m0, hm⟩ := hk e (List.mem_cons_self ..)
    have hk' : IntKeys es := fun y hy => hk y (List.mem_cons_of_mem _ hy)
    have hne : ¬ n = m0 := by
      intro e0
      simp [ifind, hm, e0] at h
    have h' : ifind n es = none := by simpa [ifind, hm, hne] using h
    have ih := ifind_push n v b es hk' h' m
    by_cases hm0 : m = m0
    · simp [ifind, hm, hm0, Ne.symm hne]
    · simp [ifind, hm, hm0, ih]

/-- The map at block r says f. -/
def MapI (w : World) (r : Nat) (f : Int → Option Value) : Prop := ∃ es clk, w.heap[r]? = some (.map es clk) ∧ IntKeys es.toList ∧ ∀ n, ifind n es.toList = f n

theorem MapI.lt {w : World} {r : Nat} {f : Int → Option Value} (h : MapI w r f) : r < w.heap.size := by
  obtain ⟨es, clk, h1, _⟩ := h
  by_cases hr : r < w.heap.size
  · exact hr
  · rw [Array.getElem?_eq_none (by omega)] at h1
    cases h1

theorem MapI.of {w w' : World} {r : Nat} {f : Int → Option Value} (h : MapI w r f) (e : w'.heap[r]? = w.heap[r]?) : MapI w' r f := by
  obtain ⟨es, clk, h1, h2⟩ := h
  exact ⟨es, clk, e.trans h1, h2⟩

theorem mapI_new {w : World} {r clk : Nat} (h : w.heap[r]? = some (.map #[] clk)) : MapI w r (fun _ => none) := ⟨_, _, h, fun e he => by simp at he, fun _ => rfl⟩

theorem run_lookup_int {P : Program} {w : World} {t k e : TypeId} (ht : P.underlying t = some (.map k e)) (hk : P.underlying k = some (.int .i64)) {r : Nat} {f : Int → Option Value} (h : MapI w r f) (n : Int) {z : Value} (hz : (zeroValue e).run P w = .ok z w) (ok : Bool) :
    (Instr.lookup t (.map (some r)) (.int .i64 n) ok).run P w = .ok (if ok then .tuple #[(f n).getD z, .bool (f n).isSome] else (f n).getD z) w := by
  obtain ⟨es, clk, hr, hs, hf⟩ := h
  have h2 : ∀ b, (Instr.checkKey b 10000 k (.int .i64 n)).run P w = .ok () w := fun b => run_checkKey (P := P) (w := w) hk (isKey_int n) b 9999
  have h0 := Go.MapKept.run_getObj_map (P := P) hr
  rcases findNow_int n z es.toList 0 hs with ⟨h3, h4⟩ | ⟨j, x, h3, h4, _⟩
  · have h1 := run_findKey (w := w) hk h3
    rw [← hf n, h4]
    unfold Instr.lookup
    simp only [Sem.run_bind, run_underlying ht, Result.andThen, h0, Sem.run_pure, h2, h1]
    cases ok <;> simp [hz, Result.andThen]
  · have h1 := run_findKey (w := w) hk h3
    rw [← hf n, h4]
    unfold Instr.lookup
    simp only [Sem.run_bind, run_underlying ht, Result.andThen, h0, Sem.run_pure, h2, h1]
    cases ok <;> simp [hz, Result.andThen]

/-- The world with another block at r. -/
def putB (w : World) (r : Nat) (o : Obj) : World := { w with heap := w.heap.setIfInBounds r o }

theorem putB_size (w : World) (r : Nat) (o : Obj) : (putB w r o).heap.size = w.heap.size := by simp [putB]
theorem putB_here {w : World} {r : Nat} (h : r < w.heap.size) (o : Obj) : (putB w r o).heap[r]? = some o := by simp [putB, h]
theorem putB_other (w : World) (r : Nat) (o : Obj) (j : Nat) (h : j ≠ r) : (putB w r o).heap[j]? = w.heap[j]? := by simp [putB, Ne.symm h]
theorem putB_bel (B : Nat) (w : World) (r : Nat) (o : Obj) (h : B ≤ r) : Below B w (putB w r o) := ⟨rfl, rfl, rfl, by rw [putB_size]; exact Nat.le_refl _, fun j hj => putB_other w r o j (by omega)⟩

theorem run_update_int {P : Program} {w : World} {t k e : TypeId} (ht : P.underlying t = some (.map k e)) (hk : P.underlying k = some (.int .i64)) {r : Nat} {f : Int → Option Value} (h : MapI w r f) (n : Int) (v : Value) :
    ∃ o, (Instr.mapUpdate t (.map (some r)) (.int .i64 n) v).run P w = .ok () (putB w r o) ∧ ∀ w' : World, w'.heap[r]? = some o → MapI w' r (fun m => if m = n then some v else f m) := by
  obtain ⟨es, clk, hr, hs, hf⟩ := h
  have h2 : (Instr.checkKey false 10000 k (.int .i64 n)).run P w = .ok () w := run_checkKey (P := P) (w := w) hk (isKey_int n) false 9999
  have h0 := Go.MapKept.run_getObj_map (P := P) hr
  rcases findNow_int n v es.toList 0 hs with ⟨h3, h4⟩ | ⟨j, x, h3, h4, ⟨e0, h5, h6⟩, h7⟩
  · have h1 := run_findKey (w := w) hk h3
    have h8 := Go.MapKept.run_setObj_map (P := P) (.map (es.push ⟨.int .i64 n, v, clk⟩) (clk + 1)) hr
    refine ⟨.map (es.push ⟨.int .i64 n, v, clk⟩) (clk + 1), ?_, fun w' hw' => ⟨_, _, hw', ?_, fun m => ?_⟩⟩
    · unfold Instr.mapUpdate
      simp only [Sem.run_bind, run_underlying ht, Result.andThen, h0, h2, h1, h8]
      rfl
    · intro y hy
      simp only [Array.toList_push, List.mem_append, List.mem_singleton] at hy
      rcases hy with hy | rfl
      · exact hs y hy
      · exact ⟨n, rfl⟩
    · rw [Array.toList_push, ifind_push n v clk _ hs h4 m, hf m]
  · have h1 := run_findKey (w := w) hk h3
    have hj : es[j]? = some e0 := by simpa using h5
    have h8 := Go.MapKept.run_setObj_map (P := P) (.map (es.modify (0 + j) fun e => { e with key := .int .i64 n, val := v }) clk) hr
    have h9 := run_keyThatStays (P := P) (w := w) (isKey_int n)
    obtain ⟨q1, q2⟩ := ifind_iput n v es.toList hs x h4
    have hl : (es.modify (0 + j) fun e => { e with key := .int .i64 n, val := v }).toList = iput n v es.toList := by
      rw [Nat.zero_add, ← h7]
      simp
    refine ⟨.map (es.modify (0 + j) fun e => { e with key := .int .i64 n, val := v }) clk, ?_, fun w' hw' => ⟨_, _, hw', ?_, fun m => ?_⟩⟩
    · unfold Instr.mapUpdate
      simp only [Sem.run_bind, run_underlying ht, Result.andThen, h0, h2, h1, Nat.zero_add, hj, Option.map_some, Option.getD_some, h6, h9]
      rw [Nat.zero_add] at h8
      rw [h8]
      rfl
    · rw [hl]; exact q2
    · rw [hl, q1 m, hf m]
end Go.Proofs.YtpjbjpickpiglaaGreatDoor
