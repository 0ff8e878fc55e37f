/-
  What is proved here: what the texts TApp, RWays, RQ prove, in one text.
-/
import Derived.Test.YtkdadaggolcboaaDoorHData
import Derived.Deep.AppendLies
import Derived.Laws.OwnMore
import Derived.Test.YtkdadaggolcboaaDoorRMap
import Derived.Test.YtkdadaggolcboaaDoorQRAE
import Derived.ArgAppend
namespace Go.Proofs.YtkdadaggolcboaaDoor
open Go.RowKit
set_option linter.unusedVariables false

section
variable {P : Program} (w : World)

theorem run_append_both (t ty : TypeId) (base : Nat) (e : TypeId) (i : TypeInfo) (z : Value) (size bytes : Nat) (ht : P.underlying t = some (.slice e)) (hi : P.info? e = some i) (hz : i.zero = some z)
    (hsize : i.size = size) (hby : i.bytes = bytes) (hzs : z.cells.size = size) (hsz : 0 < size)
    (v : Value) (n : Nat) (xs : List Value) (hown : w.ownsRow base e size v n xs)
    (ax : Option Addr) (m c : Nat) (news : List Value) (hl : news.length = m * size) (hnews : ∀ j u, news[j]? = some u → ∃ ad, ax = some ad ∧ w.cell? (ad.add j) = some u) (h1 : ∀ u ∈ news, u.oneCell' = true)
    (h63 : n + m ≤ maxLen) (hbytes : (n + m) * bytes ≤ 140737488355328) (hbase : base ≤ w.heap.size) :
    ∃ v' w', (Builtin.append_ #[t, t] ty #[v, .slice ax m c]).run P w = .ok v' w' ∧
      w'.ownsRow base e size v' (n + m) (xs ++ news) ∧ w.grownBy w' v.ownBlock ∧ (v'.ownBlock = v.ownBlock ∨ v'.ownBlock = some w.heap.size) := by
  cases ax with
  | some ad =>
    obtain ⟨v', w', hr, h2, h3, _, h5⟩ := run_append_own_at (P := P) w base t ty e i z size bytes ht hi hz hsize hby hzs hsz v n xs hown ad m c news hl (fun j u hu => by
      obtain ⟨ad', e1, e2⟩ := hnews j u hu
      cases e1
      exact e2) h1 h63 hbytes hbase
    exact ⟨v', w', hr, h2, h3, h5⟩
  | none =>
    have hn : news = [] := by
      cases news with
      | nil => rfl
      | cons u us =>
        obtain ⟨_, e1, _⟩ := hnews 0 u rfl
        cases e1
    subst hn
    have hm : m = 0 := by
      rcases Nat.eq_zero_or_pos m with h | h
      · exact h
      · have := Nat.mul_pos h hsz
        simp at hl
        omega
    subst hm
    refine ⟨v, w, ?_, by simpa using hown, ⟨rfl, rfl, rfl, Nat.le_refl _, fun _ _ _ => rfl⟩, .inl rfl⟩
    rcases hown.2 with ⟨rfl, rfl⟩ | ⟨g, cap, cur, rfl, _, _, hnc, _⟩
    · simp [Builtin.append_, run_underlying ht, sizeOf, typeInfo, hi, Builtin.lenOf, Builtin.firstCells]
    · simp [Builtin.append_, run_underlying ht, sizeOf, typeInfo, hi, Builtin.lenOf, Builtin.firstCells, hnc, storeCells]

theorem wp_append_both {o : Oper} {a : Act} {K : Act → World → Prop} {Q : Exit → Act → World → Prop} (s x : Operand) (t : TypeId)
    (ho : o.op = .call { callee := .builtin .append, args := #[s, x], argTypes := #[t, t] })
    (base : Nat) (e : TypeId) (i : TypeInfo) (z : Value) (size bytes : Nat) (ht : P.underlying t = some (.slice e)) (hi : P.info? e = some i) (hz : i.zero = some z)
    (hsize : i.size = size) (hby : i.bytes = bytes) (hzs : z.cells.size = size) (hsz : 0 < size)
    (v : Value) (n : Nat) (xs : List Value) (hs : a.eval s = v) (hown : w.ownsRow base e size v n xs)
    (ax : Option Addr) (m c : Nat) (news : List Value) (hx : a.eval x = .slice ax m c) (hl : news.length = m * size) (hnews : ∀ j u, news[j]? = some u → ∃ ad, ax = some ad ∧ w.cell? (ad.add j) = some u) (h1 : ∀ u ∈ news, u.oneCell' = true)
    (h63 : n + m ≤ maxLen) (hbytes : (n + m) * bytes ≤ 140737488355328) (hbase : base ≤ w.heap.size)
    (h : ∀ v' w', w'.ownsRow base e size v' (n + m) (xs ++ news) → w.grownBy w' v.ownBlock → (v'.ownBlock = v.ownBlock ∨ v'.ownBlock = some w.heap.size) → K (a.put o.dst v') w') : o.wp P a w K Q := by
  obtain ⟨v', w', hr, h2, h3, h4⟩ := run_append_both (P := P) w t o.type base e i z size bytes ht hi hz hsize hby hzs hsz v n xs hown ax m c news hl hnews h1 h63 hbytes hbase
  unfold Oper.wp execOp
  simp only [ho, resolve, invoke, builtin, Sem.run_bind, Sem.run_pure, Result.andThen_ok, List.map_toArray, List.map_cons, List.map_nil, hs, hx, hr]
  exact h v' w' h2 h3 h4

theorem wpList_append_both {ops : Array Oper} {rest : List Oper} {o : Oper} {a : Act} {Q : Exit → Act → World → Prop} (hgd : o.guard = none) (s x : Operand) (t : TypeId)
    (ho : o.op = .call { callee := .builtin .append, args := #[s, x], argTypes := #[t, t] })
    (base : Nat) (e : TypeId) (i : TypeInfo) (z : Value) (size bytes : Nat) (ht : P.underlying t = some (.slice e)) (hi : P.info? e = some i) (hz : i.zero = some z)
    (hsize : i.size = size) (hby : i.bytes = bytes) (hzs : z.cells.size = size) (hsz : 0 < size)
    (v : Value) (n : Nat) (xs : List Value) (hs : a.eval s = v) (hown : w.ownsRow base e size v n xs)
    (ax : Option Addr) (m c : Nat) (news : List Value) (hx : a.eval x = .slice ax m c) (hl : news.length = m * size) (hnews : ∀ j u, news[j]? = some u → ∃ ad, ax = some ad ∧ w.cell? (ad.add j) = some u) (h1 : ∀ u ∈ news, u.oneCell' = true)
    (h63 : n + m ≤ maxLen) (hbytes : (n + m) * bytes ≤ 140737488355328) (hbase : base ≤ w.heap.size)
    (h : ∀ v' w', w'.ownsRow base e size v' (n + m) (xs ++ news) → w.grownBy w' v.ownBlock → (v'.ownBlock = v.ownBlock ∨ v'.ownBlock = some w.heap.size) → wpList P ops Q rest (a.put o.dst v') w') : wpList P ops Q (o :: rest) a w :=
  wpList_plain hgd fun _ hK => wp_append_both w s x t ho base e i z size bytes ht hi hz hsize hby hzs hsz v n xs hs hown ax m c news hx hl hnews h1 h63 hbytes hbase fun v' w' h2 h3 h4 => hK _ _ (h v' w' h2 h3 h4)

theorem step_append_both {ops : Array Oper} {o : Oper} {a : Act} {K : Act → World → Prop} {Q : Exit → Act → World → Prop} {E : Prop} (hgd : o.guard = none) (s x : Operand) (t : TypeId)
    (ho : o.op = .call { callee := .builtin .append, args := #[s, x], argTypes := #[t, t] })
    (base : Nat) (e : TypeId) (i : TypeInfo) (z : Value) (size bytes : Nat) (ht : P.underlying t = some (.slice e)) (hi : P.info? e = some i) (hz : i.zero = some z)
    (hsize : i.size = size) (hby : i.bytes = bytes) (hzs : z.cells.size = size) (hsz : 0 < size)
    (v : Value) (n : Nat) (xs : List Value) (hs : a.eval s = v) (hown : w.ownsRow base e size v n xs)
    (ax : Option Addr) (m c : Nat) (news : List Value) (hx : a.eval x = .slice ax m c) (hl : news.length = m * size) (hnews : ∀ j u, news[j]? = some u → ∃ ad, ax = some ad ∧ w.cell? (ad.add j) = some u) (h1 : ∀ u ∈ news, u.oneCell' = true)
    (h63 : n + m ≤ maxLen) (hbytes : (n + m) * bytes ≤ 140737488355328) (hbase : base ≤ w.heap.size)
    (h : ∀ v' w', w'.ownsRow base e size v' (n + m) (xs ++ news) → w.grownBy w' v.ownBlock → (v'.ownBlock = v.ownBlock ∨ v'.ownBlock = some w.heap.size) → K (a.put o.dst v') w') :
    if Region.wanted o (yielded ops a.tmps) = true then Oper.wp P o a w K Q else E := by
  have hw : Region.wanted o (yielded ops a.tmps) = true := by simp [Region.wanted, hgd]
  rw [if_pos hw]
  exact wp_append_both w s x t ho base e i z size bytes ht hi hz hsize hby hzs hsz v n xs hs hown ax m c news hx hl hnews h1 h63 hbytes hbase h

end

set_option linter.unusedSimpArgs false

theorem blk_lt {w : World} {p : Nat} {o : Obj} (h : w.heap[p]? = some o) : p < w.heap.size := (Array.getElem?_eq_some_iff.1 h).1

theorem row_kept1 {B n : Nat} {e : TypeId} {size : Nat} {v : Value} {xs : List Value} {w w' : World} (h : w.ownsRow B e size v n xs) (hk : ∀ k, v.ownBlock = some k → w'.heap[k]? = w.heap[k]?) : w'.ownsRow B e size v n xs := by
  refine ⟨h.1, ?_⟩
  rcases h.2 with h0 | ⟨g, cap, cur, e1, e2, e3, e4⟩
  · exact .inl h0
  · exact .inr ⟨g, cap, cur, e1, e2, by rw [hk g (by rw [e1]; rfl)]; exact e3, e4⟩

/-- The row at a key. -/
def slot0 (f : Int → Option Value) (i : Int) : Value := (f i).getD (.slice none 0 0)

structure OwnWays (w : World) (B m : Nat) (W : Int → List Ed) (f : Int → Option Value) : Prop where
  map : MapI w m f
  low : B ≤ m
  row : ∀ i, w.ownsRow B 52 5 (slot0 f i) (W i).length (rowX (W i))
  own : ∀ i, (slot0 f i).ownBlock ≠ some m
  apart : ∀ i j g, i ≠ j → (slot0 f i).ownBlock = some g → (slot0 f j).ownBlock ≠ some g

theorem OwnWays.kept {w w' : World} {B m : Nat} {W : Int → List Ed} {f : Int → Option Value} (h : OwnWays w B m W f) (k : ∀ i, B ≤ i → i < w.heap.size → w'.heap[i]? = w.heap[i]?) : OwnWays w' B m W f :=
  ⟨h.map.of (k m h.low h.map.lt), h.low, fun i => row_kept1 (h.row i) fun g hg => by
    obtain ⟨h1, h2⟩ := (h.row i).lt g hg
    exact k g h1 h2, h.own, h.apart⟩

theorem OwnWays.below {w w' : World} {B m : Nat} {W : Int → List Ed} {f : Int → Option Value} (h : OwnWays w B m W f) (k : Below w.heap.size w w') : OwnWays w' B m W f := h.kept fun i _ hi => k.block i hi

theorem OwnWays.put {w w1 w2 : World} {B m : Nat} {W : Int → List Ed} {f : Int → Option Value} (h : OwnWays w B m W f) {n : Int} {x : Ed} {v' : Value} (hg : w.grownBy w1 (slot0 f n).ownBlock) (hr : w1.ownsRow B 52 5 v' ((W n).length + 1) (rowX (W n) ++ x.cells)) (ho : v'.ownBlock = (slot0 f n).ownBlock ∨ ∃ g, v'.ownBlock = some g ∧ w.heap.size ≤ g) (h2 : ∀ i, i ≠ m → w2.heap[i]? = w1.heap[i]?) (hm : MapI w2 m (fun i => if i = n then some v' else f i)) :
    OwnWays w2 B m (fun i => if i = n then W n ++ [x] else W i) (fun i => if i = n then some v' else f i) := by
  have hlt := h.map.lt
  have e1 : slot0 (fun i => if i = n then some v' else f i) n = v' := by simp [slot0]
  have e2 : ∀ i, i ≠ n → slot0 (fun i => if i = n then some v' else f i) i = slot0 f i := fun i hi => by simp [slot0, hi]
  have hvm : v'.ownBlock ≠ some m := by
    rcases ho with ho | ⟨g, ho, hgs⟩
    · rw [ho]; exact h.own n
    · rw [ho]
      intro e
      injection e with e
      omega
  have hnew : ∀ j g, j ≠ n → v'.ownBlock = some g → (slot0 f j).ownBlock ≠ some g := fun j g hj hv => by
    rcases ho with ho | ⟨g', ho, hgs⟩
    · rw [ho] at hv
      exact h.apart n j g (Ne.symm hj) hv
    · rw [ho] at hv
      injection hv with hv
      subst hv
      intro e
      have := ((h.row j).lt _ e).2
      omega
  refine ⟨hm, h.low, fun i => ?_, fun i => ?_, fun i j g hij hi => ?_⟩
  · by_cases hi : i = n
    · subst hi
      rw [e1]
      simp only [if_true, List.length_append, List.length_singleton]
      rw [rowX_snoc]
      refine row_kept1 hr fun g hg' => h2 g fun e => hvm (e ▸ hg')
    · rw [e2 i hi]
      simp only [hi, if_false]
      refine row_kept1 (h.row i) fun g hg' => ?_
      rw [h2 g fun e => h.own i (e ▸ hg')]
      refine hg.block g ((h.row i).lt g hg').2 fun e => ?_
      exact h.apart n i g (Ne.symm hi) e.symm hg'
  · by_cases hi : i = n
    · subst hi
      rw [e1]
      exact hvm
    · rw [e2 i hi]
      exact h.own i
  · by_cases hi' : i = n
    · subst hi'
      rw [e1] at hi
      rw [e2 j (Ne.symm hij)]
      exact hnew j g (Ne.symm hij) hi
    · rw [e2 i hi'] at hi
      by_cases hj : j = n
      · subst hj
        rw [e1]
        intro e
        exact hnew i g hi' e hi
      · rw [e2 j hj]
        exact h.apart i j g hij hi

theorem way_nil (kind : ByteArray) : wayF [] kind = fun _ => [] := rfl

theorem way_take {E : List Ed} {i : Nat} {x : Ed} (h : E[i]? = some x) (kind : ByteArray) : wayF (E.take (i + 1)) kind = if goesB kind x = true then (fun j => if j = x.frm then wayF (E.take i) kind x.frm ++ [x] else wayF (E.take i) kind j) else wayF (E.take i) kind := by
  have e : E.take (i + 1) = E.take i ++ [x] := by rw [List.take_add_one, h]; rfl
  rw [e]
  funext j
  unfold wayF
  rw [List.filter_append]
  by_cases hg : goesB kind x = true
  · rw [if_pos hg]
    by_cases hj : j = x.frm
    · subst hj
      simp [hg]
    · simp [hj, Ne.symm hj]
  · rw [if_neg hg]
    simp [hg]

theorem way_mem {E : List Ed} {kind : ByteArray} {i : Int} {x : Ed} (h : x ∈ wayF E kind i) : x ∈ E := (List.mem_filter.1 h).1

set_option linter.unusedSimpArgs false

theorem int_info0 : (Tryd.prog.info? 3).map (fun i => (i.zero, i.size, i.bytes)) = some (some (.int .i64 0), 1, 8) := by kernel_rfl

theorem int_info : ∃ i, Tryd.prog.info? 3 = some i ∧ i.zero = some (.int .i64 0) ∧ i.size = 1 ∧ i.bytes = 8 := by
  have h := int_info0
  cases hi : Tryd.prog.info? 3 with
  | none => rw [hi] at h; cases h
  | some i =>
    rw [hi] at h
    simp at h
    exact ⟨i, rfl, h.1, h.2.1, h.2.2⟩

theorem list_append_eq {P : Program} (w : World) {ops : Array Oper} {rest : List Oper} {o : Oper} {a : Act} {Q : Exit → Act → World → Prop} (hgd : o.guard = none) (d s : Operand) (t t' : TypeId)
    (ho : o.op = .call { callee := .builtin .append, args := #[d, s], argTypes := #[t, t'] }) (v u : Value) (hd : a.eval d = v) (hs : a.eval s = u) (v' : Value) (w' : World)
    (hr : (Builtin.append_ #[t, t'] o.type #[v, u]).run P w = .ok v' w') (h : wpList P ops Q rest (a.put o.dst v') w') : wpList P ops Q (o :: rest) a w := by
  refine wpList_plain hgd fun _ hK => ?_
  unfold Oper.wp
  simp [execOp, ho, resolve, invoke, builtin, hd, hs, hr, Result.andThen]
  exact hK _ _ h

/-- The block of a row. -/
def qblk : Value → Option Nat
  | .slice (some a) _ _ => some a.block
  | _ => none

def QRow (w : World) (B : Nat) (v : Value) (L : List Int) : Prop := ∃ g off cap, v = .slice (some ⟨g, off, none⟩) L.length cap ∧ B ≤ g ∧ g < w.heap.size ∧ L.length ≤ cap ∧ cap ≤ maxLen ∧ (∀ i x, L[i]? = some x → w.cell? ⟨g, off + i, none⟩ = some (.int .i64 x)) ∧ (∀ j, j < cap → (w.cell? ⟨g, off + j, none⟩).isSome = true ∧ w.frozen? ⟨g, off + j, none⟩ = false)

theorem QRow.kept {w w' : World} {B : Nat} {v : Value} {L : List Int} (h : QRow w B v L) (k : ∀ g, qblk v = some g → w'.heap[g]? = w.heap[g]?) (hz : w.heap.size ≤ w'.heap.size) : QRow w' B v L := by
  obtain ⟨g, off, cap, rfl, h1, h2, h3, h4, h5, h6⟩ := h
  have hk := k g rfl
  have hc : ∀ o, w'.cell? ⟨g, o, none⟩ = w.cell? ⟨g, o, none⟩ := fun o => World.cell?_of_block (w := w) (w' := w') (a := ⟨g, o, none⟩) hk
  have hf : ∀ o, w'.frozen? ⟨g, o, none⟩ = w.frozen? ⟨g, o, none⟩ := fun o => World.frozen?_of_block (w := w) (w' := w') (a := ⟨g, o, none⟩) hk
  exact ⟨g, off, cap, rfl, h1, by omega, h3, h4, fun i x hx => (hc _).trans (h5 i x hx), fun j hj => by rw [hc, hf]; exact h6 j hj⟩

theorem QRow.lt {w : World} {B : Nat} {v : Value} {L : List Int} (h : QRow w B v L) {g : Nat} (hg : qblk v = some g) : B ≤ g ∧ g < w.heap.size := by
  obtain ⟨g', off, cap, rfl, h1, h2, _⟩ := h
  injection hg with e
  subst e
  exact ⟨h1, h2⟩

/-- A row of one. -/
theorem qrow_one {w : World} {B p : Nat} {x : Int} (hB : B ≤ p) (h : w.heap[p]? = some (.cells #[.int .i64 x] 3 (0, 0))) : QRow w B (.slice (some ⟨p, 0, none⟩) 1 1) [x] := by
  refine ⟨p, 0, 1, rfl, hB, blk_lt h, Nat.le_refl _, by unfold maxLen; decide, fun i y hy => ?_, fun j hj => ?_⟩
  · cases i with
    | zero =>
      simp at hy
      subst hy
      exact cell_of h 0
    | succ i => simp at hy
  · have e : j = 0 := by omega
    subst e
    exact ⟨by rw [show w.cell? ⟨p, 0 + 0, none⟩ = some (.int .i64 x) from cell_of h 0]; rfl, free_of h 0⟩

theorem run_append_q {w : World} {B : Nat} {v : Value} {L : List Int} (h : QRow w B v L) (x : Int) (p : Nat) (hp : w.cell? ⟨p, 0, none⟩ = some (.int .i64 x)) (hB : B ≤ w.heap.size) (hL : L.length ≤ 100000) (ty : TypeId) :
    ∃ v' w', (Builtin.append_ #[41, 41] ty #[v, .slice (some ⟨p, 0, none⟩) 1 1]).run Tryd.prog w = .ok v' w' ∧ QRow w' B v' (L ++ [x]) ∧ w.grownBy w' (qblk v) ∧ (qblk v' = qblk v ∨ ∃ g, qblk v' = some g ∧ w.heap.size ≤ g) := by
  obtain ⟨i0, hi0, hz0, hs0, hb0⟩ := int_info
  obtain ⟨g, off, cap, rfl, h1, h2, h3, h4, h5, h6⟩ := h
  have hn : ∀ j u, [Value.int .i64 x][j]? = some u → w.cell? ((⟨p, 0, none⟩ : Addr).add j) = some u := fun j u hu => by
    cases j with
    | zero => simp at hu; subst hu; exact hp
    | succ j => simp at hu
  have hone : ∀ u ∈ [Value.int .i64 x], u.oneCell' = true := fun u hu => by
    simp at hu
    subst hu
    rfl
  by_cases hr : L.length + 1 ≤ cap
  · have hfit := h6 L.length (by omega)
    have hrun := run_append_room_cells (P := Tryd.prog) w 41 ty 3 i0 Tryd.underlying41 hi0 g off L.length cap ⟨p, 0, none⟩ 1 1 [.int .i64 x] (by rw [hs0]; rfl) hn hone hr
      (fun j hj => by
        have e : j = 0 := by simp at hj; omega
        subst e
        rw [hs0]
        simpa using hfit.1)
      (fun j hj => by
        have e : j = 0 := by simp at hj; omega
        subst e
        rw [hs0]
        simpa using hfit.2)
    rw [hs0, Nat.mul_one] at hrun
    have hsz : (w.setCells g (off + L.length) [.int .i64 x]).heap.size = w.heap.size := by simp [World.setCells]
    have hout : ∀ o, o ≠ off + L.length → (w.setCells g (off + L.length) [.int .i64 x]).cell? ⟨g, o, none⟩ = w.cell? ⟨g, o, none⟩ := fun o ho => World.cell?_setCells_out g _ _ w ⟨g, o, none⟩ (fun _ _ => by simp; omega)
    have hin : (w.setCells g (off + L.length) [.int .i64 x]).cell? ⟨g, off + L.length, none⟩ = some (.int .i64 x) := World.cell?_setCells_in g [.int .i64 x] (off + L.length) w (fun j hj => by
      have e : j = 0 := by simp at hj; omega
      subst e
      simpa using hfit.1) 0 (by simp)
    refine ⟨_, _, hrun, ⟨g, off, cap, by simp, h1, by omega, by simpa using hr, h4, fun i y hy => ?_, fun j hj => ?_⟩, ⟨rfl, rfl, rfl, by omega, fun k hk hne => ?_⟩, .inl rfl⟩
    · by_cases hi : i < L.length
      · rw [List.getElem?_append_left hi] at hy
        rw [hout _ (by omega)]
        exact h5 i y hy
      · have e : i = L.length := by
          have := (List.getElem?_eq_some_iff.1 hy).1
          simp at this
          omega
        subst e
        simp at hy
        subst hy
        exact hin
    · rw [World.frozen?_setCells]
      refine ⟨?_, (h6 j hj).2⟩
      by_cases e : j = L.length
      · subst e
        rw [hin]
        rfl
      · rw [hout _ (by omega)]
        exact (h6 j hj).1
    · show ((w.setCell ⟨g, off + L.length, none⟩ (.int .i64 x))).heap[k]? = _
      exact Below.heap_setCell _ _ _ _ (fun e => hne (by rw [show qblk (Value.slice (some ⟨g, off, none⟩) L.length cap) = some g from rfl]; exact congrArg some e))
  · obtain ⟨v', w', hrun, hown, hgr⟩ := run_append_arg_grows (P := Tryd.prog) w 41 ty 3 i0 (.int .i64 0) 1 8 Tryd.underlying41 hi0 hz0 hs0 hb0 rfl (by omega) ⟨g, off, none⟩ L.length cap (L.map fun y => .int .i64 y) (by simp) (fun j u hu => by
        rw [List.getElem?_map] at hu
        cases hy : L[j]? with
        | none => rw [hy] at hu; cases hu
        | some y =>
          rw [hy] at hu
          simp at hu
          subst hu
          rw [Addr.add_lit]
          exact h5 j y hy) ⟨p, 0, none⟩ 1 1 [.int .i64 x] rfl hn (by omega) (by unfold maxLen; omega) (by omega)
    refine ⟨v', w', hrun, ?_, ⟨hgr.os, hgr.tape, hgr.output, hgr.size, fun k hk _ => hgr.block k hk (by simp)⟩, ?_⟩
    · rcases hown.2 with ⟨_, e0⟩ | ⟨g', cap', cur, rfl, q1, q2, q3, q4, q5, q6⟩
      · omega
      · refine ⟨g', 0, cap', by simp, by omega, blk_lt q2, by simpa using q3, q4, fun i y hy => ?_, fun j hj => ?_⟩
        · have hlt := (List.getElem?_eq_some_iff.1 hy).1
          simp at hlt
          have e1 : cur[i]? = some (.int .i64 y) := by
            have : (cur.toList.take ((L.length + 1) * 1))[i]? = some (.int .i64 y) := by
              rw [q6]
              have e2 : (L.map fun y => Value.int .i64 y) ++ [.int .i64 x] = (L ++ [x]).map fun y => Value.int .i64 y := by simp
              rw [e2, List.getElem?_map, hy]
              rfl
            rw [List.getElem?_take] at this
            rw [if_pos (by omega)] at this
            simpa using this
          rw [Nat.zero_add]
          exact (cell_of q2 i).trans e1
        · rw [Nat.zero_add]
          refine ⟨?_, free_of q2 j⟩
          rw [cell_of q2 j]
          simp
          omega
    · rcases hown.2 with ⟨_, e0⟩ | ⟨g', cap', cur, rfl, q1, _⟩
      · omega
      · exact .inr ⟨g', rfl, q1⟩
end Go.Proofs.YtkdadaggolcboaaDoor
