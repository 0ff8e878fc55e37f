/-
  What is proved here: what the texts RQ, RWk0, RLeave, HPut, RVisL prove, in one text.
-/
import Derived.Test.YtpjbjpickpiglaaGreatDoorQPAF
import Derived.ArgAppend
import Derived.Deep.RegionLaw
import Derived.Deep.LoopGhost
namespace Go.Proofs.YtpjbjpickpiglaaGreatDoor
open Go.RowKit
set_option linter.unusedVariables false

set_option linter.unusedSimpArgs false

theorem int_info0 : (Tryz.prog.info? 3).map (fun i => (i.zero, i.size, i.bytes)) = some (some (.int .i64 0), 1, 8) := by kernel_rfl

theorem int_info : ∃ i, Tryz.prog.info? 3 = some i ∧ i.zero = some (.int .i64 0) ∧ i.size = 1 ∧ i.bytes = 8 := by
  have h := int_info0
  cases hi : Tryz.prog.info? 3 with
  | none => rw [hi] at h; cases h
  | some i =>
    rw [hi] at h
    simp at h
    exact ⟨i, rfl, h.1, h.2.1, h.2.2⟩

theorem list_append_eq {P : Program} (w : World) {ops : Array Oper} {rest : List Oper} {o : Oper} {a : Act} {Q : Exit → Act → World → Prop} (hgd : o.guard = none) (d s : Operand) (t t' : TypeId)
    (ho : o.op = .call { callee := .builtin .append, args := #[d, s], argTypes := #[t, t'] }) (v u : Value) (hd : a.eval d = v) (hs : a.eval s = u) (v' : Value) (w' : World)
    (hr : (Builtin.append_ #[t, t'] o.type #[v, u]).run P w = .ok v' w') (h : wpList P ops Q rest (a.put o.dst v') w') : wpList P ops Q (o :: rest) a w := by
  refine wpList_plain hgd fun _ hK => ?_
  unfold Oper.wp
  simp [execOp, ho, resolve, invoke, builtin, hd, hs, hr, Result.andThen]
  exact hK _ _ h

/-- The block of a row. -/
def qblk : Value → Option Nat
  | .slice (some a) _ _ => some a.block
  | _ => none

def QRow (w : World) (B : Nat) (v : Value) (L : List Int) : Prop := ∃ g off cap, v = .slice (some ⟨g, off, none⟩) L.length cap ∧ B ≤ g ∧ g < w.heap.size ∧ L.length ≤ cap ∧ cap ≤ maxLen ∧ (∀ i x, L[i]? = some x → w.cell? ⟨g, off + i, none⟩ = some (.int .i64 x)) ∧ (∀ j, j < cap → (w.cell? ⟨g, off + j, none⟩).isSome = true ∧ w.frozen? ⟨g, off + j, none⟩ = false)

theorem QRow.kept {w w' : World} {B : Nat} {v : Value} {L : List Int} (h : QRow w B v L) (k : ∀ g, qblk v = some g → w'.heap[g]? = w.heap[g]?) (hz : w.heap.size ≤ w'.heap.size) : QRow w' B v L := by
  obtain ⟨g, off, cap, rfl, h1, h2, h3, h4, h5, h6⟩ := h
  have hk := k g rfl
  have hc : ∀ o, w'.cell? ⟨g, o, none⟩ = w.cell? ⟨g, o, none⟩ := fun o => World.cell?_of_block (w := w) (w' := w') (a := ⟨g, o, none⟩) hk
  have hf : ∀ o, w'.frozen? ⟨g, o, none⟩ = w.frozen? ⟨g, o, none⟩ := fun o => World.frozen?_of_block (w := w) (w' := w') (a := ⟨g, o, none⟩) hk
  exact ⟨g, off, cap, rfl, h1, by omega, h3, h4, fun i x hx => (hc _).trans (h5 i x hx), fun j hj => by rw [hc, hf]; exact h6 j hj⟩

theorem QRow.lt {w : World} {B : Nat} {v : Value} {L : List Int} (h : QRow w B v L) {g : Nat} (hg : qblk v = some g) : B ≤ g ∧ g < w.heap.size := by
  obtain ⟨g', off, cap, rfl, h1, h2, _⟩ := h
  injection hg with e
  subst e
  exact ⟨h1, h2⟩

/-- A row of one. -/
theorem qrow_one {w : World} {B p : Nat} {x : Int} (hB : B ≤ p) (h : w.heap[p]? = some (.cells #[.int .i64 x] 3 (0, 0))) : QRow w B (.slice (some ⟨p, 0, none⟩) 1 1) [x] := by
  refine ⟨p, 0, 1, rfl, hB, blk_lt h, Nat.le_refl _, by unfold maxLen; decide, fun i y hy => ?_, fun j hj => ?_⟩
  · cases i with
    | zero =>
      simp at hy
      subst hy
      exact cell_of h 0
    | succ i => simp at hy
  · have e : j = 0 := by omega
    subst e
    exact ⟨by rw [show w.cell? ⟨p, 0 + 0, none⟩ = some (.int .i64 x) from cell_of h 0]; rfl, free_of h 0⟩

theorem run_append_q {w : World} {B : Nat} {v : Value} {L : List Int} (h : QRow w B v L) (x : Int) (p : Nat) (hp : w.cell? ⟨p, 0, none⟩ = some (.int .i64 x)) (hB : B ≤ w.heap.size) (hL : L.length ≤ 100000) (ty : TypeId) :
    ∃ v' w', (Builtin.append_ #[26, 26] ty #[v, .slice (some ⟨p, 0, none⟩) 1 1]).run Tryz.prog w = .ok v' w' ∧ QRow w' B v' (L ++ [x]) ∧ w.grownBy w' (qblk v) ∧ (qblk v' = qblk v ∨ ∃ g, qblk v' = some g ∧ w.heap.size ≤ g) := by
  obtain ⟨i0, hi0, hz0, hs0, hb0⟩ := int_info
  obtain ⟨g, off, cap, rfl, h1, h2, h3, h4, h5, h6⟩ := h
  have hn : ∀ j u, [Value.int .i64 x][j]? = some u → w.cell? ((⟨p, 0, none⟩ : Addr).add j) = some u := fun j u hu => by
    cases j with
    | zero => simp at hu; subst hu; exact hp
    | succ j => simp at hu
  have hone : ∀ u ∈ [Value.int .i64 x], u.oneCell' = true := fun u hu => by
    simp at hu
    subst hu
    rfl
  by_cases hr : L.length + 1 ≤ cap
  · have hfit := h6 L.length (by omega)
    have hrun := run_append_room_cells (P := Tryz.prog) w 26 ty 3 i0 Tryz.underlying26 hi0 g off L.length cap ⟨p, 0, none⟩ 1 1 [.int .i64 x] (by rw [hs0]; rfl) hn hone hr
      (fun j hj => by
        have e : j = 0 := by simp at hj; omega
        subst e
        rw [hs0]
        simpa using hfit.1)
      (fun j hj => by
        have e : j = 0 := by simp at hj; omega
        subst e
        rw [hs0]
        simpa using hfit.2)
    rw [hs0, Nat.mul_one] at hrun
    have hsz : (w.setCells g (off + L.length) [.int .i64 x]).heap.size = w.heap.size := by simp [World.setCells]
    have hout : ∀ o, o ≠ off + L.length → (w.setCells g (off + L.length) [.int .i64 x]).cell? ⟨g, o, none⟩ = w.cell? ⟨g, o, none⟩ := fun o ho => World.cell?_setCells_out g _ _ w ⟨g, o, none⟩ (fun _ _ => by simp; omega)
    have hin : (w.setCells g (off + L.length) [.int .i64 x]).cell? ⟨g, off + L.length, none⟩ = some (.int .i64 x) := World.cell?_setCells_in g [.int .i64 x] (off + L.length) w (fun j hj => by
      have e : j = 0 := by simp at hj; omega
      subst e
      simpa using hfit.1) 0 (by simp)
    refine ⟨_, _, hrun, ⟨g, off, cap, by simp, h1, by omega, by simpa using hr, h4, fun i y hy => ?_, fun j hj => ?_⟩, ⟨rfl, rfl, rfl, by omega, fun k hk hne => ?_⟩, .inl rfl⟩
    · by_cases hi : i < L.length
      · rw [List.getElem?_append_left hi] at hy
        rw [hout _ (by omega)]
        exact h5 i y hy
      · have e : i = L.length := by
          have := (List.getElem?_eq_some_iff.1 hy).1
          simp at this
          omega
        subst e
        simp at hy
        subst hy
        exact hin
    · rw [World.frozen?_setCells]
      refine ⟨?_, (h6 j hj).2⟩
      by_cases e : j = L.length
      · subst e
        rw [hin]
        rfl
      · rw [hout _ (by omega)]
        exact (h6 j hj).1
    · show ((w.setCell ⟨g, off + L.length, none⟩ (.int .i64 x))).heap[k]? = _
      exact Below.heap_setCell _ _ _ _ (fun e => hne (by rw [show qblk (Value.slice (some ⟨g, off, none⟩) L.length cap) = some g from rfl]; exact congrArg some e))
  · obtain ⟨v', w', hrun, hown, hgr⟩ := run_append_arg_grows (P := Tryz.prog) w 26 ty 3 i0 (.int .i64 0) 1 8 Tryz.underlying26 hi0 hz0 hs0 hb0 rfl (by omega) ⟨g, off, none⟩ L.length cap (L.map fun y => .int .i64 y) (by simp) (fun j u hu => by
        rw [List.getElem?_map] at hu
        cases hy : L[j]? with
        | none => rw [hy] at hu; cases hu
        | some y =>
          rw [hy] at hu
          simp at hu
          subst hu
          rw [Addr.add_lit]
          exact h5 j y hy) ⟨p, 0, none⟩ 1 1 [.int .i64 x] rfl hn (by omega) (by unfold maxLen; omega) (by omega)
    refine ⟨v', w', hrun, ?_, ⟨hgr.os, hgr.tape, hgr.output, hgr.size, fun k hk _ => hgr.block k hk (by simp)⟩, ?_⟩
    · rcases hown.2 with ⟨_, e0⟩ | ⟨g', cap', cur, rfl, q1, q2, q3, q4, q5, q6⟩
      · omega
      · refine ⟨g', 0, cap', by simp, by omega, blk_lt q2, by simpa using q3, q4, fun i y hy => ?_, fun j hj => ?_⟩
        · have hlt := (List.getElem?_eq_some_iff.1 hy).1
          simp at hlt
          have e1 : cur[i]? = some (.int .i64 y) := by
            have : (cur.toList.take ((L.length + 1) * 1))[i]? = some (.int .i64 y) := by
              rw [q6]
              have e2 : (L.map fun y => Value.int .i64 y) ++ [.int .i64 x] = (L ++ [x]).map fun y => Value.int .i64 y := by simp
              rw [e2, List.getElem?_map, hy]
              rfl
            rw [List.getElem?_take] at this
            rw [if_pos (by omega)] at this
            simpa using this
          rw [Nat.zero_add]
          exact (cell_of q2 i).trans e1
        · rw [Nat.zero_add]
          refine ⟨?_, free_of q2 j⟩
          rw [cell_of q2 j]
          simp
          omega
    · rcases hown.2 with ⟨_, e0⟩ | ⟨g', cap', cur, rfl, q1, _⟩
      · omega
      · exact .inr ⟨g', rfl, q1⟩

set_option linter.unusedSimpArgs false

/-- All old blocks but O's are as they were. -/
structure Rst (O : Nat → Prop) (w w' : World) : Prop where
  os : w'.os = w.os
  tape : w'.tape = w.tape
  output : w'.output = w.output
  size : w.heap.size ≤ w'.heap.size
  block : ∀ k, k < w.heap.size → ¬ O k → w'.heap[k]? = w.heap[k]?

theorem Rst.refl (O : Nat → Prop) (w : World) : Rst O w w := ⟨rfl, rfl, rfl, Nat.le_refl _, fun _ _ _ => rfl⟩

theorem Rst.trans {O O' : Nat → Prop} {a b c : World} (h : Rst O a b) (k : Rst O' b c) (hO : ∀ j, O' j → O j ∨ a.heap.size ≤ j) : Rst O a c :=
  ⟨k.os.trans h.os, k.tape.trans h.tape, k.output.trans h.output, Nat.le_trans h.size k.size, fun i hi hn => (k.block i (Nat.lt_of_lt_of_le hi h.size) (fun hh => by
    rcases hO i hh with h1 | h1
    · exact hn h1
    · omega)).trans (h.block i hi hn)⟩

theorem Rst.of_below {O : Nat → Prop} {w w' : World} (h : Below w.heap.size w w') : Rst O w w' := ⟨h.os, h.tape, h.output, h.size, fun k hk _ => h.block k hk⟩

theorem Rst.below {w w' : World} {O : Nat → Prop} (h : Rst O w w') (hO : ∀ j, O j → w.heap.size ≤ j) : Below w.heap.size w w' := ⟨h.os, h.tape, h.output, h.size, fun k hk => h.block k hk fun hh => by have := hO k hh; omega⟩

/-- What is asked of the memory of a visitor. -/
structure Vis (Inv : World → (Nat → Prop) → List Ed → Prop) : Prop where
  lt : ∀ {W : World} {O : Nat → Prop} {out : List Ed}, Inv W O out → ∀ k, O k → k < W.heap.size
  kept : ∀ {W W' : World} {O : Nat → Prop} {out : List Ed}, Inv W O out → (∀ k, O k → W'.heap[k]? = W.heap[k]?) → W.heap.size ≤ W'.heap.size → Inv W' O out

/-- The memory of the walk: w is the world at its start. -/
structure WkI (Inv : World → (Nat → Prop) → List Ed → Prop) (O0 : Nat → Prop) (w wr : World) (v : Value) (op : List Int) (seen : Int → Nat) (out : List Ed) : Prop where
  q : QRow wr (w.heap.size + 1) v op
  sn : ∃ fs, MapI wr w.heap.size fs ∧ ∀ i, (fs i).getD (.int .i64 0) = .int .i64 (seen i)
  iv : ∃ O, Inv wr O out ∧ ¬ O w.heap.size ∧ (∀ g, qblk v = some g → ¬ O g) ∧ (∀ k, O k → O0 k ∨ w.heap.size ≤ k)
  rs : Rst O0 w wr

section
variable {Inv : World → (Nat → Prop) → List Ed → Prop} {O0 : Nat → Prop} {w wr wr' : World} {v v' : Value} {op : List Int} {seen : Int → Nat} {out : List Ed}

theorem WkI.lt (h : WkI Inv O0 w wr v op seen out) : w.heap.size < wr.heap.size := by
  obtain ⟨fs, h1, _⟩ := h.sn
  exact h1.lt

theorem WkI.below (hv : Vis Inv) (h : WkI Inv O0 w wr v op seen out) (k : Below wr.heap.size wr wr') : WkI Inv O0 w wr' v op seen out := by
  obtain ⟨O, i1, i2, i3, i4⟩ := h.iv
  obtain ⟨fs, s1, s2⟩ := h.sn
  exact ⟨h.q.kept (fun g hg => k.block g (h.q.lt hg).2) k.size, ⟨fs, s1.of (k.block _ s1.lt), s2⟩, ⟨O, hv.kept i1 (fun j hj => k.block j (hv.lt i1 j hj)) k.size, i2, i3, i4⟩, h.rs.trans (O' := fun _ => False) ⟨k.os, k.tape, k.output, k.size, fun j hj _ => k.block j hj⟩ (fun j hj => hj.elim)⟩

/-- Taken from the front. -/
theorem WkI.pop {i : Int} {op' : List Int} (h : WkI Inv O0 w wr v (i :: op') seen out) (hq : QRow wr (w.heap.size + 1) v' op') (hb : qblk v' = qblk v) : WkI Inv O0 w wr v' op' seen out := by
  obtain ⟨O, i1, i2, i3, i4⟩ := h.iv
  exact ⟨hq, h.sn, ⟨O, i1, i2, fun g hg => i3 g (hb ▸ hg), i4⟩, h.rs⟩

/-- One more is seen. -/
theorem WkI.see (hv : Vis Inv) (h : WkI Inv O0 w wr v op seen out) {o : Obj} {seen' : Int → Nat} (hm : ∃ fs, MapI (putB wr w.heap.size o) w.heap.size fs ∧ ∀ i, (fs i).getD (.int .i64 0) = .int .i64 (seen' i)) : WkI Inv O0 w (putB wr w.heap.size o) v op seen' out := by
  obtain ⟨O, i1, i2, i3, i4⟩ := h.iv
  have hlt := h.lt
  have hsz : wr.heap.size ≤ (putB wr w.heap.size o).heap.size := by rw [putB_size]; exact Nat.le_refl _
  refine ⟨h.q.kept (fun g hg => putB_other _ _ _ _ (by have := (h.q.lt hg).1; omega)) hsz, hm, ⟨O, hv.kept i1 (fun j hj => putB_other _ _ _ _ (fun e => i2 (e ▸ hj))) hsz, i2, i3, i4⟩, h.rs.trans (O' := fun j => j = w.heap.size) ⟨rfl, rfl, rfl, hsz, fun j hj hn => putB_other _ _ _ _ hn⟩ (fun j hj => .inr (by omega))⟩

/-- One more is told. -/
theorem WkI.told (hv : Vis Inv) (h : WkI Inv O0 w wr v op seen out) {O : Nat → Prop} (i1 : Inv wr O out) (i2 : ¬ O w.heap.size) (i3 : ∀ g, qblk v = some g → ¬ O g) (i4 : ∀ k, O k → O0 k ∨ w.heap.size ≤ k) {x : Ed} {O' : Nat → Prop} (n1 : Inv wr' O' (out ++ [x])) (n2 : ∀ k, O' k → O k ∨ wr.heap.size ≤ k) (n3 : Rst O wr wr') : WkI Inv O0 w wr' v op seen (out ++ [x]) := by
  obtain ⟨fs, s1, s2⟩ := h.sn
  have hlt := h.lt
  refine ⟨h.q.kept (fun g hg => n3.block g (h.q.lt hg).2 (i3 g hg)) n3.size, ⟨fs, s1.of (n3.block _ s1.lt i2), s2⟩, ⟨O', n1, fun hh => ?_, fun g hg hh => ?_, fun k hk => ?_⟩, h.rs.trans n3 i4⟩
  · rcases n2 _ hh with h1 | h1
    · exact i2 h1
    · omega
  · rcases n2 _ hh with h1 | h1
    · exact i3 g hg h1
    · have := (h.q.lt hg).2
      omega
  · rcases n2 _ hk with h1 | h1
    · exact i4 k h1
    · exact .inr (by omega)

/-- One more is open. -/
theorem WkI.push (hv : Vis Inv) (h : WkI Inv O0 w wr v op seen out) {i : Int} (hq : QRow wr' (w.heap.size + 1) v' (op ++ [i])) (hg : wr.grownBy wr' (qblk v)) (hb : qblk v' = qblk v ∨ ∃ g, qblk v' = some g ∧ wr.heap.size ≤ g) : WkI Inv O0 w wr' v' (op ++ [i]) seen out := by
  obtain ⟨O, i1, i2, i3, i4⟩ := h.iv
  obtain ⟨fs, s1, s2⟩ := h.sn
  have hlt := h.lt
  refine ⟨hq, ⟨fs, s1.of (hg.block _ s1.lt fun e => ?_), s2⟩, ⟨O, hv.kept i1 (fun j hj => hg.block j (hv.lt i1 j hj) (fun e => i3 j e.symm hj)) hg.size, i2, fun g hgg hh => ?_, i4⟩, h.rs.trans (O' := fun j => some j = qblk v) ⟨hg.os, hg.tape, hg.output, hg.size, fun j hj hn => hg.block j hj hn⟩ (fun j hj => .inr (by have := (h.q.lt hj.symm).1; omega))⟩
  · have := (h.q.lt e.symm).1
    omega
  · rcases hb with hb | ⟨g', hb, hgs⟩
    · exact i3 g (hb ▸ hgg) hh
    · rw [hb] at hgg
      injection hgg with e
      subst e
      have := hv.lt i1 _ hh
      omega
end

theorem QRow.parts {w : World} {B g off n cap : Nat} {L : List Int} (h : QRow w B (.slice (some ⟨g, off, none⟩) n cap) L) : n = L.length ∧ B ≤ g ∧ g < w.heap.size ∧ L.length ≤ cap ∧ cap ≤ maxLen ∧ (∀ i x, L[i]? = some x → w.cell? ⟨g, off + i, none⟩ = some (.int .i64 x)) ∧ (∀ j, j < cap → (w.cell? ⟨g, off + j, none⟩).isSome = true ∧ w.frozen? ⟨g, off + j, none⟩ = false) := by
  obtain ⟨g', off', cap', e, h1, h2, h3, h4, h5, h6⟩ := h
  injection e with e1 e2 e3
  injection e1 with e1
  injection e1 with e1 e4
  subst e1 e2 e3 e4
  exact ⟨rfl, h1, h2, h3, h4, h5, h6⟩

theorem QRow.pop1 {w : World} {B g off n cap : Nat} {i : Int} {L : List Int} (h : QRow w B (.slice (some ⟨g, off, none⟩) n cap) (i :: L)) : QRow w B (.slice (some ⟨g, off + 1, none⟩) L.length (cap - 1)) L := by
  obtain ⟨h0, h1, h2, h3, h4, h5, h6⟩ := h.parts
  rw [List.length_cons] at h3
  refine ⟨g, off + 1, cap - 1, rfl, h1, h2, by omega, by omega, fun j x hx => ?_, fun j hj => ?_⟩
  · have := h5 (j + 1) x (by simpa using hx)
    rwa [show off + (j + 1) = off + 1 + j from by omega] at this
  · have := h6 (j + 1) (by omega)
    rwa [show off + (j + 1) = off + 1 + j from by omega] at this

theorem QRow.pop0 {w : World} {B g off n cap : Nat} {i : Int} {L : List Int} (h : QRow w B (.slice (some ⟨g, off, none⟩) n cap) (i :: L)) (hc : cap ≤ 1) : QRow w B (.slice (some ⟨g, off, none⟩) L.length 0) L := by
  obtain ⟨h0, h1, h2, h3, h4, h5, h6⟩ := h.parts
  rw [List.length_cons] at h3
  have hl : L = [] := List.length_eq_zero_iff.1 (by omega)
  subst hl
  exact ⟨g, off, 0, rfl, h1, h2, Nat.zero_le _, Nat.zero_le _, fun j x hx => (by simp at hx), fun j hj => by omega⟩

theorem WkI.form {Inv : World → (Nat → Prop) → List Ed → Prop} {O0 : Nat → Prop} {w wr : World} {v : Value} {op : List Int} {seen : Int → Nat} {out : List Ed} (h : WkI Inv O0 w wr v op seen out) : ∃ g off cap, v = .slice (some ⟨g, off, none⟩) op.length cap := by
  obtain ⟨g, off, cap, e, _⟩ := h.q
  exact ⟨g, off, cap, e⟩

/-- The edges are where they were. -/
theorem OwnWays.rst {w w' : World} {B m : Nat} {W : Int → List Ed} {f : Int → Option Value} {O : Nat → Prop} (h : OwnWays w B m W f) (h1 : ¬ O m) (h2 : ∀ i g, (slot0 f i).ownBlock = some g → ¬ O g) (k : Rst O w w') : OwnWays w' B m W f :=
  ⟨h.map.of (k.block m h.map.lt h1), h.low, fun i => row_kept1 (h.row i) fun g hg => k.block g ((h.row i).lt g hg).2 (h2 i g hg), h.own, h.apart⟩

theorem edge_info0 : (Tryz.prog.info? 41).map (fun i => (i.zero, i.size, i.bytes)) = some (some (.agg #[.int .i64 0, .int .i64 0, .int .i64 0, .string ⟨#[]⟩, .slice none 0 0]), 5, 64) := by kernel_rfl

theorem edge_info : ∃ i, Tryz.prog.info? 41 = some i ∧ i.zero = some (.agg #[.int .i64 0, .int .i64 0, .int .i64 0, .string ⟨#[]⟩, .slice none 0 0]) ∧ i.size = 5 ∧ i.bytes = 64 := by
  have h := edge_info0
  cases hi : Tryz.prog.info? 41 with
  | none => rw [hi] at h; cases h
  | some i =>
    rw [hi] at h
    simp at h
    exact ⟨i, rfl, h.1, h.2.1, h.2.2⟩

theorem zero_edges (w : World) : (zeroValue 23).run Tryz.prog w = .ok (.slice none 0 0) w := by kernel_rfl

theorem run_ways (w : World) : (Instr.makeMap 51 none).run Tryz.prog w = .ok (.map (some w.heap.size)) (w.alloc (.map #[] 0)) := rfl

theorem leave_step {w Wp w1 : World} {B m : Nat} {W : Int → List Ed} {f : Int → Option Value} {x : Ed} {v' : Value} {o o' : Obj} (h : OwnWays Wp B m W f) (hb : Below B w Wp) (hBs : B ≤ Wp.heap.size) (hown : w1.ownsRow B 41 5 v' ((W x.frm).length + 1) (rowX (W x.frm) ++ x.cells)) (hgrow : (Wp.alloc o').drew.grownBy w1 (slot0 f x.frm).ownBlock) (hob : v'.ownBlock = (slot0 f x.frm).ownBlock ∨ v'.ownBlock = some (Wp.alloc o').drew.heap.size) (hmo : ∀ w' : World, w'.heap[m]? = some o → MapI w' m (fun j => if j = x.frm then some v' else f j)) :
    Below B w (putB w1 m o) ∧ OwnWays (putB w1 m o) B m (fun j => if j = x.frm then W x.frm ++ [x] else W j) (fun j => if j = x.frm then some v' else f j) := by
  have hsz : Wp.heap.size < w1.heap.size := by have := hgrow.size; simp at this; omega
  have hlt := h.map.lt
  refine ⟨(((hb.alloc hBs _).drew).grown hgrow (by simp; omega) (fun k hk => ((h.row x.frm).lt k hk).1)).trans (putB_bel _ _ _ _ h.low), h.put (w1 := w1) ⟨hgrow.os, hgrow.tape, hgrow.output, by omega, fun k hk hne => (hgrow.block k (by simp; omega) hne).trans (Below.heap_alloc Wp _ _ hk)⟩ hown ?_ (fun j hj => putB_other _ _ _ _ hj) (hmo _ (putB_here (by omega) _))⟩
  rcases hob with h0 | h0
  · exact .inl h0
  · exact .inr ⟨_, h0, by simp⟩

set_option maxHeartbeats 4000000 in
set_option maxRecDepth 100000 in
theorem leaving_any (E : List Ed) (a : Option Addr) (l c : Nat) (kind : ByteArray) (w : World) (hE : EdgesAt w E a l) (hl : l ≤ 1000) :
    Calls Tryz.prog 16 #[.slice a l c, .string kind] w fun e w' => e = .returned (.map (some w.heap.size)) ∧ (∃ f, OwnWays w' w.heap.size w.heap.size (wayF E kind) f) ∧ Below w.heap.size w w' := by
  obtain ⟨hle, hmx, hat⟩ := hE
  have HL := toHid hle
  have HAT := toHid hat
  clear hle hat
  have hmm := fun W : World => run_ways W
  go_enter Tryz.func16, Tryz.ntmps16
  go_wp2_with fail
  go_loopg [11] l (fun g s11 wr => ∃ (i : Nat) (f : Int → Option Value), i ≤ l ∧ l - i ≤ g ∧ s11 = .int .i64 i ∧ Below w.heap.size w wr ∧ OwnWays wr w.heap.size w.heap.size (wayF (E.take i) kind) f)
  case atStart =>
    refine ⟨0, fun _ => none, Nat.zero_le _, by omega, rfl, (Below.refl _ _).alloc (Nat.le_refl _) _, ⟨mapI_new (alloc_new w (.map #[] 0)), Nat.le_refl _, fun i => ?_, fun i => ?_, fun i j g _ h => ?_⟩⟩
    · exact World.ownsRow_nil _ _ _ _
    · intro h; cases h
    · cases h
  case round =>
    obtain ⟨i, f, hi, hg, rfl, hbw, how⟩ := hrel
    have HOW := toHid how
    clear how
    by_cases hlt : i < l
    · obtain ⟨b, off, ha, hb, hc⟩ := HAT.out (by omega)
      subst ha
      obtain ⟨x, hx, _⟩ := drop_get (L := E) (i := i) (by have := HL.out; omega)
      obtain ⟨hsz, c0, c1, c2, c3, c4⟩ := hc i x hx
      have qq : ∀ o, wr.cell? ⟨b, o, none⟩ = w.cell? ⟨b, o, none⟩ := fun o => hbw.cell (p := ⟨b, o, none⟩) hb
      have d0 := (qq _).trans c0
      have d1 := (qq _).trans c1
      have d2 := (qq _).trans c2
      have d3 := (qq _).trans c3
      have d4 := (qq _).trans c4
      have HX := toHid hx
      clear hc hx c0 c1 c2 c3 c4 qq
      have hil : (i : Int) < l := by omega
      go_upto_region 5 with fail
      have HRL : Hid (∀ g, (slot0 f x.frm).ownBlock = some g → g < wr.heap.size) := fun g hg => ((HOW.out.row x.frm).lt g hg).2
      have HBX := toHid (alloc_new wr (.cells #[.int .i64 x.id, .int .i64 x.frm, .int .i64 x.dst, .string x.typ, .slice x.pa x.pl x.pc] 41))
      have HBW := toHid (hbw.alloc hbw.size (.cells #[.int .i64 x.id, .int .i64 x.frm, .int .i64 x.dst, .string x.typ, .slice x.pa x.pl x.pc] 41))
      have HOP := toHid (HOW.out.below ((Below.refl _ _).alloc (Nat.le_refl _) (.cells #[.int .i64 x.id, .int .i64 x.frm, .int .i64 x.dst, .string x.typ, .slice x.pa x.pl x.pc] 41)))
      generalize wr.alloc (.cells #[.int .i64 x.id, .int .i64 x.frm, .int .i64 x.dst, .string x.typ, .slice x.pa x.pl x.pc] 41) = Wp at HBX HBW HOP ⊢
      clear HOW hbw d0 d1 d2 d3 d4
      have y0 := cell_of HBX.out 0
      have y1 := cell_of HBX.out 1
      have y2 := cell_of HBX.out 2
      have y3 := cell_of HBX.out 3
      have y4 := cell_of HBX.out 4
      simp at y0 y1 y2 y3 y4
      have hpl : wr.heap.size < Wp.heap.size := blk_lt HBX.out
      cases hgo : goesB kind x with
      | false =>
        have hk1 : kind.toList.isEmpty = false := by
          cases h : kind.toList.isEmpty with
          | false => rfl
          | true => simp [goesB, h] at hgo
        have hk2 : (kind.toList == x.typ.toList) = false := by
          cases h : (kind.toList == x.typ.toList) with
          | false => rfl
          | true => simp [goesB, h] at hgo
        have hk3 : ¬ kind.toList = [] := fun e => by rw [e] at hk1; cases hk1
        go_wp2_with fail
        go_roundg (l - (i + 1))
        case measure => omega
        case rel => exact ⟨i + 1, f, by omega, Nat.le_refl _, by go_num, HBW.out, by rw [way_take HX.out kind, if_neg (by rw [hgo]; decide)]; exact HOP.out⟩
      | true =>
        have hk : (kind.toList = [] ∧ kind.toList.isEmpty = true) ∨ (¬ kind.toList = [] ∧ kind.toList.isEmpty = false ∧ (kind.toList == x.typ.toList) = true) := by
          cases h : kind.toList.isEmpty with
          | true => exact .inl ⟨List.isEmpty_iff.1 h, rfl⟩
          | false => exact .inr ⟨(fun e => by rw [e] at h; cases h), rfl, by simpa [goesB, h] using hgo⟩
        have HK := toHid hk
        clear hk
        have hw1 : wayF (E.take (i + 1)) kind = fun j => if j = x.frm then wayF (E.take i) kind x.frm ++ [x] else wayF (E.take i) kind j := by rw [way_take HX.out kind, if_pos hgo]
        have hwl : (wayF (E.take i) kind x.frm).length ≤ i := Nat.le_trans (List.length_filter_le _ _) (by rw [List.length_take]; omega)
        generalize wayF (E.take i) kind = WW at HOP hw1 hwl
        obtain ⟨i0, hi0, hz0, hs0, hb0⟩ := edge_info
        have l1 := run_lookup_int (P := Tryz.prog) (w := Wp.drew) Tryz.underlying51 Tryz.underlying3 (HOP.out.below (Below.refl _ _).drew).map x.frm (zero_edges _) false
        have l2 := run_lookup_int (P := Tryz.prog) (w := (Wp.alloc (.cells #[.int .i64 x.id, .int .i64 x.frm, .int .i64 x.dst, .string x.typ, .slice x.pa x.pl x.pc] 41)).drew) Tryz.underlying51 Tryz.underlying3 (HOP.out.below ((Below.refl _ _).alloc (Nat.le_refl _) _).drew).map x.frm (zero_edges _) false
        simp only [Bool.false_eq_true, if_false] at l1 l2
        rcases HK.out with ⟨hk1, hk2⟩ | ⟨hk1, hk2, hk3⟩
        all_goals
          go_upto_region 6 with fail
          go_region_law (first
            | (refine step_append_both _ (by rfl) _ _ _ (by rfl) w.heap.size 41 i0 _ 5 64 Tryz.underlying23 hi0 hz0 hs0 hb0 rfl (by omega) (slot0 f x.frm) (WW x.frm).length (rowX (WW x.frm)) (by rfl) ((HOP.out.below ((Below.refl _ _).alloc (Nat.le_refl _) _).drew).row x.frm) (some ⟨Wp.heap.size, 0, none⟩) 1 1 x.cells (by rfl) (by rfl) (fun j u hu => ⟨_, rfl, World.news_of_block (cs := #[.int .i64 x.id, .int .i64 x.frm, .int .i64 x.dst, .string x.typ, .slice x.pa x.pl x.pc]) (t := 41) (fr := (0, 0)) (w := (Wp.alloc (.cells #[.int .i64 x.id, .int .i64 x.frm, .int .i64 x.dst, .string x.typ, .slice x.pa x.pl x.pc] 41)).drew) (alloc_new Wp _) j u hu⟩) (by simp [Ed.cells, Value.oneCell']) (by unfold maxLen; omega) (by omega) (by have := HBW.out.size; simp; omega) ?_; intro v' w1 hown1 hgrow hob
               have hm1 : w1.heap[w.heap.size]? = Wp.heap[w.heap.size]? := (hgrow.block w.heap.size (by have := HOP.out.map.lt; simp; omega) (fun e => HOP.out.own x.frm e.symm)).trans (Below.heap_alloc Wp _ _ HOP.out.map.lt)
               obtain ⟨o, hup, hmo⟩ := run_update_int (P := Tryz.prog) (w := w1) Tryz.underlying51 Tryz.underlying3 (HOP.out.map.of hm1) x.frm v'
               have z1 : w1.cell? ⟨wr.heap.size, 1, none⟩ = some (.int .i64 x.frm) := by
                 have hq : w1.heap[wr.heap.size]? = some (.cells #[.int .i64 x.id, .int .i64 x.frm, .int .i64 x.dst, .string x.typ, .slice x.pa x.pl x.pc] 41 (0, 0)) := (hgrow.block wr.heap.size (by simp; omega) (fun e => by have := HRL.out _ e.symm; omega)).trans ((Below.heap_alloc Wp _ _ hpl).trans HBX.out)
                 have := cell_of hq 1
                 simpa using this))
        all_goals
          clear hup z1 hm1 l1 l2
          have HS := toHid (leave_step HOP.out HBW.out HBW.out.size hown1 hgrow hob hmo)
          clear hown1 hgrow hob hmo y0 y1 y2 y3 y4 hpl
          generalize putB w1 w.heap.size o = WZ at HS ⊢
          go_wp2_with fail
          go_roundg (l - (i + 1))
          case measure => omega
          case rel => exact ⟨i + 1, _, by omega, by omega, by go_num, HS.out.1, by rw [hw1]; exact HS.out.2⟩
    · have he : i = l := by omega
      subst he
      go_wp2_with fail
      go_ret
      refine ⟨rfl, ⟨f, ?_⟩, hbw⟩
      have := HOW.out
      rw [List.take_of_length_le (by have := HL.out; omega)] at this
      exact this

/-- Cells of a block from one on are written. -/
def putL (w : World) (b : Nat) : Nat → List Value → World
  | _, [] => w
  | o, v :: vs => putL (w.setCell ⟨b, o, none⟩ v) b (o + 1) vs

theorem putL_size (b : Nat) : ∀ (vs : List Value) (o : Nat) (w : World), (putL w b o vs).heap.size = w.heap.size
  | [], _, _ => rfl
  | v :: vs, o, w => by
    show (putL (w.setCell ⟨b, o, none⟩ v) b (o + 1) vs).heap.size = _
    rw [putL_size b vs]
    simp [World.setCell]

theorem putL_other (b : Nat) : ∀ (vs : List Value) (o : Nat) (w : World) (i : Nat), i ≠ b → (putL w b o vs).heap[i]? = w.heap[i]?
  | [], _, _, _, _ => rfl
  | v :: vs, o, w, i, h => by
    show (putL (w.setCell ⟨b, o, none⟩ v) b (o + 1) vs).heap[i]? = _
    rw [putL_other b vs _ _ i h]
    exact Below.heap_setCell w ⟨b, o, none⟩ v i h

theorem putL_bel (b : Nat) : ∀ (vs : List Value) (o : Nat) (w : World), Below b w (putL w b o vs)
  | [], _, w => Below.refl _ _
  | v :: vs, o, w => ((Below.refl b w).setCell (p := ⟨b, o, none⟩) (Nat.le_refl _) v).trans (putL_bel b vs (o + 1) _)

theorem set_here {w : World} {b : Nat} {cs : Array Value} {t : TypeId} (h : w.heap[b]? = some (.cells cs t (0, 0))) (o : Nat) (v : Value) : (w.setCell ⟨b, o, none⟩ v).heap[b]? = some (.cells (cs.setIfInBounds o v) t (0, 0)) := by
  simp [World.setCell, Array.getElem?_modify, h]

def setL (cs : Array Value) : Nat → List Value → Array Value
  | _, [] => cs
  | o, v :: vs => setL (cs.setIfInBounds o v) (o + 1) vs

theorem putL_here {b : Nat} {t : TypeId} : ∀ (vs : List Value) (o : Nat) (w : World) (cs : Array Value), w.heap[b]? = some (.cells cs t (0, 0)) → (putL w b o vs).heap[b]? = some (.cells (setL cs o vs) t (0, 0))
  | [], _, _, _, h => h
  | v :: vs, o, w, cs, h => putL_here vs (o + 1) _ _ (set_here h o v)

/-- What is allowed and isn't that block stays. -/
theorem Keep.put {A A' : Nat → Prop} {w w' : World} (k : Keep A A' w w') (b o : Nat) (vs : List Value) (hb : ∀ i, A' i → i ≠ b) : Keep A A' w (putL w' b o vs) :=
  ⟨by rw [putL_size]; exact k.1, fun i hA hi => ⟨(k.2 i hA hi).1, (putL_other b vs o w' i (hb i (k.2 i hA hi).1)).trans (k.2 i hA hi).2⟩⟩

set_option linter.unusedSimpArgs false

abbrev edV (x : Ed) : Value := .agg #[.int .i64 x.id, .int .i64 x.frm, .int .i64 x.dst, .string x.typ, .slice x.pa x.pl x.pc]

/-- What is kept behind these visits. -/
def lastF : List Ed → Int → Option Value
  | [], _ => none
  | x :: l, i => match lastF l i with
    | some v => some v
    | none => if i = x.dst then some (edV x) else none

theorem last_snoc (l : List Ed) (x : Ed) : lastF (l ++ [x]) = fun i => if i = x.dst then some (edV x) else lastF l i := by
  induction l with
  | nil => funext i; simp [lastF]
  | cons y l ih =>
    funext i
    have := congrFun ih i
    show (match lastF (l ++ [x]) i with | some v => some v | none => if i = y.dst then some (edV y) else none) = _
    rw [this]
    by_cases h : i = x.dst
    · simp [h]
    · simp [h, lastF]

def LInv (bl mb : Nat) (W : World) (O : Nat → Prop) (out : List Ed) : Prop := W.heap[bl]? = some (.cells #[.map (some mb)] 49 (0, 0)) ∧ MapI W mb (lastF out) ∧ ∀ k, O k ↔ k = bl ∨ k = mb

theorem vis_l (bl mb : Nat) : Vis (LInv bl mb) where
  lt := by
    rintro W O out ⟨h1, h2, h3⟩ k hk
    rcases (h3 k).1 hk with rfl | rfl
    · exact blk_lt h1
    · exact h2.lt
  kept := by
    rintro W W' O out ⟨h1, h2, h3⟩ hk hs
    exact ⟨(hk bl ((h3 bl).2 (.inl rfl))).trans h1, h2.of (hk mb ((h3 mb).2 (.inr rfl))), h3⟩

set_option maxHeartbeats 4000000 in
set_option maxRecDepth 100000 in
theorem path1_any (bl mb : Nat) (hbm : bl ≠ mb) (X : World) (O : Nat → Prop) (out : List Ed) (x : Ed) (h : LInv bl mb X O out) :
    Calls Tryz.prog 17 #[.agg #[.int .i64 x.id, .int .i64 x.frm, .int .i64 x.dst, .string x.typ, .slice x.pa x.pl x.pc], .pointer (some ⟨bl, 0, none⟩)] X fun e w' => e = .returned (.tuple #[]) ∧ ∃ O', LInv bl mb w' O' (out ++ [x]) ∧ (∀ k, O' k → O k ∨ X.heap.size ≤ k) ∧ Rst O X w' := by
  obtain ⟨h1, h2, h3⟩ := h
  have hb1 : Below X.heap.size X (X.alloc (.cells #[.int .i64 x.id, .int .i64 x.frm, .int .i64 x.dst, .string x.typ, .slice x.pa x.pl x.pc] 41)) := (Below.refl _ _).alloc (Nat.le_refl _) _
  have hbl := (hb1.block bl (blk_lt h1)).trans h1
  have hmm := h2.of (hb1.block mb h2.lt)
  have y0 := cell_of hbl 0
  simp at y0
  obtain ⟨o, hup, hmo⟩ := run_update_int (P := Tryz.prog) Tryz.underlying49 Tryz.underlying3 hmm x.dst (edV x)
  have HF : Hid (LInv bl mb (putB (X.alloc (.cells #[.int .i64 x.id, .int .i64 x.frm, .int .i64 x.dst, .string x.typ, .slice x.pa x.pl x.pc] 41)) mb o) O (out ++ [x])) := ⟨(putB_other _ _ _ _ hbm).trans hbl, by rw [last_snoc]; exact hmo _ (putB_here hmm.lt o), h3⟩
  have HR : Hid (Rst O X (putB (X.alloc (.cells #[.int .i64 x.id, .int .i64 x.frm, .int .i64 x.dst, .string x.typ, .slice x.pa x.pl x.pc] 41)) mb o)) := ⟨rfl, rfl, rfl, by rw [putB_size]; exact hb1.size, fun k hk hn => (putB_other _ _ _ _ (fun e => hn ((h3 k).2 (.inr e)))).trans (hb1.block k hk)⟩
  clear h1 h2 h3 hb1 hbl hmm hmo
  go_enter Tryz.func17, Tryz.ntmps17
  go_wp2_with fail
  go_end0
  exact ⟨rfl, O, HF.out, fun k hk => .inl hk, HR.out⟩
end Go.Proofs.YtpjbjpickpiglaaGreatDoor
