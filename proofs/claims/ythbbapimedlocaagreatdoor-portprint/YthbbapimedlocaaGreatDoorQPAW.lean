/-
  What is proved here: what the texts PdEdge0, PdEdge prove, in one text.
-/
import Derived.Test.YthbbapimedlocaaGreatDoorQPAV
namespace Go.Proofs.YthbbapimedlocaaGreatDoor
open Go.RowKit
set_option linter.unusedVariables false

set_option linter.unusedSimpArgs false

/-- What an edge must be to be read. -/
structure RdE (X : AE) : Prop where
  id : I64 X.id
  frm : I64 X.frm
  dst : I64 X.dst
  typ : (32 : UInt8) ∉ bS X.typ ∧ X.typ.size ≤ 12
  p6 : X.props.length ≤ 6
  prop : ∀ p ∈ X.props, RdP p
  fit : fitP X.props = true

theorem RdE.long {X : AE} (h : RdE X) : (endP X.props).length ≤ 30000 := by
  have h2 := endP_fit h.fit fun p hp => (h.prop p hp).2.2.1
  have h4 := Nat.mul_le_mul_right 4014 h.p6
  omega

/-- An edge that is being read. -/
def EdSt (bn : Nat) (R : World) (X : AE) : Nat → World → Prop
  | 0, W => W.heap[bn]? = some (.cells #[.int .i64 0, .int .i64 0, .int .i64 0, .string ⟨#[]⟩, .slice none 0 0] 53 (0, 0))
  | 1, W => W.heap[bn]? = some (.cells #[.int .i64 0, .int .i64 0, .int .i64 0, .string ⟨#[]⟩, .slice none 0 0] 53 (0, 0))
  | 2, W => W.heap[bn]? = some (.cells #[.int .i64 X.id, .int .i64 0, .int .i64 0, .string ⟨#[]⟩, .slice none 0 0] 53 (0, 0))
  | 3, W => W.heap[bn]? = some (.cells #[.int .i64 X.id, .int .i64 X.frm, .int .i64 0, .string ⟨#[]⟩, .slice none 0 0] 53 (0, 0))
  | 4, W => W.heap[bn]? = some (.cells #[.int .i64 X.id, .int .i64 X.frm, .int .i64 X.dst, .string ⟨#[]⟩, .slice none 0 0] 53 (0, 0))
  | 5, W => W.heap[bn]? = some (.cells #[.int .i64 X.id, .int .i64 X.frm, .int .i64 X.dst, .string (bt (bS X.typ)), .slice none 0 0] 53 (0, 0))
  | _, W => ∃ y : Ed, W.heap[bn]? = some (.cells #[.int .i64 y.id, .int .i64 y.frm, .int .i64 y.dst, .string y.typ, .slice y.pa y.pl y.pc] 53 (0, 0)) ∧ EdOwn (fun i => R.heap.size ≤ i ∧ i < W.heap.size) W y X

def tx4 (X : AE) : List UInt8 := [32, 58] ++ (bS X.typ ++ endP X.props)
def tx3 (X : AE) : List UInt8 := [32] ++ (Lib.itoa X.dst ++ tx4 X)
def tx2 (X : AE) : List UInt8 := [32] ++ (Lib.itoa X.frm ++ tx3 X)
def tx1 (X : AE) : List UInt8 := [32] ++ (Lib.itoa X.id ++ tx2 X)
def txE (X : AE) : Nat → List UInt8
  | 0 => wEdge ++ tx1 X
  | 1 => tx1 X
  | 2 => tx2 X
  | 3 => tx3 X
  | 4 => tx4 X
  | 5 => endP X.props
  | _ => []

def fnE : Nat → FuncId
  | 0 => 94
  | 1 => 96
  | 2 => 96
  | 3 => 96
  | 4 => 102
  | _ => 100

def six (q1 q2 q3 q4 q5 q6 : Nat) : Nat → Nat
  | 0 => q1
  | 1 => q2
  | 2 => q3
  | 3 => q4
  | 4 => q5
  | _ => q6

theorem tail_tx4 (X : AE) : Tail (tx4 X) := .inr ⟨_, rfl⟩
theorem tail_tx3 (X : AE) : Tail (tx3 X) := .inr ⟨_, rfl⟩
theorem tail_tx2 (X : AE) : Tail (tx2 X) := .inr ⟨_, rfl⟩

theorem tx_long {X : AE} (h : RdE X) : (bS X.typ ++ endP X.props).length ≤ 31000 ∧ (tx4 X).length ≤ 31100 ∧ (tx3 X).length ≤ 31200 ∧ (tx2 X).length ≤ 31300 := by
  have h1 := h.long
  have h2 := h.typ.2
  have h3 := bS_size X.typ
  have h4 := itoa_len h.dst
  have h5 := itoa_len h.frm
  have e1 : (bS X.typ ++ endP X.props).length ≤ 31000 := by rw [List.length_append]; omega
  have e2 : (tx4 X).length ≤ 31100 := by unfold tx4; rw [List.length_append]; simp only [List.length_cons, List.length_nil]; omega
  have e3 : (tx3 X).length ≤ 31200 := by unfold tx3; rw [List.length_append, List.length_append]; simp only [List.length_cons, List.length_nil]; omega
  have e4 : (tx2 X).length ≤ 31300 := by unfold tx2; rw [List.length_append, List.length_append]; simp only [List.length_cons, List.length_nil]; omega
  exact ⟨e1, e2, e3, e4⟩

set_option maxHeartbeats 4000000 in
theorem edge_reads (B0 bn q1 q2 q3 q4 q5 q6 : Nat) (X : AE) (u : World) (hX : RdE X) (hB : u.heap[bn]? = some (.cells #[.int .i64 0, .int .i64 0, .int .i64 0, .string ⟨#[]⟩, .slice none 0 0] 53 (0, 0))) (h1 : u.heap[q1]? = some (.cells #[.string (bt wEdge)] 9 (0, 0))) (h2 : u.heap[q2]? = some (.cells #[.pointer (some ⟨bn, 0, none⟩)] 129 (0, 0))) (h3 : u.heap[q3]? = some (.cells #[.pointer (some ⟨bn, 1, none⟩)] 129 (0, 0))) (h4 : u.heap[q4]? = some (.cells #[.pointer (some ⟨bn, 2, none⟩)] 129 (0, 0))) (h5 : u.heap[q5]? = some (.cells #[.pointer (some ⟨bn, 3, none⟩)] 135 (0, 0))) (h6 : u.heap[q6]? = some (.cells #[.pointer (some ⟨bn, 4, none⟩)] 133 (0, 0))) (hB0 : B0 ≤ u.heap.size) (hBb : B0 ≤ bn) (hT : Tabs B0 u) (hP : Pow10 B0 u) :
    Calls Tryz.prog 65 #[.string (bt (txE X 0)), .slice (some ⟨u.heap.size, 0, none⟩) 6 6] (u.alloc (.cells #[.func (.func 94) #[] #[.pointer (some ⟨q1, 0, none⟩)], .func (.func 96) #[] #[.pointer (some ⟨q2, 0, none⟩)], .func (.func 96) #[] #[.pointer (some ⟨q3, 0, none⟩)], .func (.func 96) #[] #[.pointer (some ⟨q4, 0, none⟩)], .func (.func 102) #[] #[.pointer (some ⟨q5, 0, none⟩)], .func (.func 100) #[] #[.pointer (some ⟨q6, 0, none⟩)]] 126)) fun e w' => e = .returned (.bool true) ∧ KeepBut bn u w' ∧ ∃ y : Ed, w'.heap[bn]? = some (.cells #[.int .i64 y.id, .int .i64 y.frm, .int .i64 y.dst, .string y.typ, .slice y.pa y.pl y.pc] 53 (0, 0)) ∧ EdOwn (fun i => u.heap.size ≤ i ∧ i < w'.heap.size) w' y X := by
  have hbl := lt_blkX hB
  have hn1 : q1 ≠ bn := fun e => by rw [e, hB] at h1; injection h1 with h1; injection h1 with _ h _; exact absurd h (by decide)
  have hn2 : q2 ≠ bn := fun e => by rw [e, hB] at h2; injection h2 with h2; injection h2 with _ h _; exact absurd h (by decide)
  have hn3 : q3 ≠ bn := fun e => by rw [e, hB] at h3; injection h3 with h3; injection h3 with _ h _; exact absurd h (by decide)
  have hn4 : q4 ≠ bn := fun e => by rw [e, hB] at h4; injection h4 with h4; injection h4 with _ h _; exact absurd h (by decide)
  have hn5 : q5 ≠ bn := fun e => by rw [e, hB] at h5; injection h5 with h5; injection h5 with _ h _; exact absurd h (by decide)
  have hn6 : q6 ≠ bn := fun e => by rw [e, hB] at h6; injection h6 with h6; injection h6 with _ h _; exact absurd h (by decide)
  obtain ⟨cs, hcs⟩ : ∃ cs : Array Value, cs = #[.func (.func 94) #[] #[.pointer (some ⟨q1, 0, none⟩)], .func (.func 96) #[] #[.pointer (some ⟨q2, 0, none⟩)], .func (.func 96) #[] #[.pointer (some ⟨q3, 0, none⟩)], .func (.func 96) #[] #[.pointer (some ⟨q4, 0, none⟩)], .func (.func 102) #[] #[.pointer (some ⟨q5, 0, none⟩)], .func (.func 100) #[] #[.pointer (some ⟨q6, 0, none⟩)]] := ⟨_, rfl⟩
  rw [← hcs]
  obtain ⟨R, hR⟩ : ∃ R, R = u.alloc (.cells cs 126) := ⟨_, rfl⟩
  have kR : Below u.heap.size u R := by rw [hR]; exact (Below.refl _ _).alloc (Nat.le_refl _) _
  have hrow : R.heap[u.heap.size]? = some (.cells cs 126 (0, 0)) := by rw [hR]; exact alloc_new u _
  rw [← hR]
  have hgb : u.heap.size ≠ bn := by omega
  have hRu : u.heap.size ≤ R.heap.size := kR.size
  have keep : ∀ {W : World} (h : KeepBut bn R W) {k : Nat} {cs : Array Value} {t : TypeId}, R.heap[k]? = some (.cells cs t (0, 0)) → k ≠ bn → W.heap[k]? = some (.cells cs t (0, 0)) := fun h k cs t hk hn => (h.block (lt_blkX hk) hn).trans hk
  have r1 := below_cellsX kR h1
  have r2 := below_cellsX kR h2
  have r3 := below_cellsX kR h3
  have r4 := below_cellsX kR h4
  have r5 := below_cellsX kR h5
  have r6 := below_cellsX kR h6
  have rB := below_cellsX kR hB
  obtain ⟨l1, l2, l3, l4⟩ := tx_long hX
  have h := reads_ok 6 u.heap.size (txE X) fnE (six q1 q2 q3 q4 q5 q6) (fun j W => KeepBut bn R W ∧ EdSt bn R X j W) R (by omega)
    (fun i j W hi hI => by
      have hw := keep hI.1 hrow hgb
      refine ⟨?_, lt_blkX hw⟩
      rw [cell_of hw i, hcs]
      match i, hi with
      | 0, _ => rfl
      | 1, _ => rfl
      | 2, _ => rfl
      | 3, _ => rfl
      | 4, _ => rfl
      | 5, _ => rfl)
    (fun i hi => by
      match i, hi with
      | 0, _ => exact ent_word
      | 1, _ => exact ent_number
      | 2, _ => exact ent_number
      | 3, _ => exact ent_number
      | 4, _ => exact ent_kind
      | 5, _ => exact ent_properties)
    (fun i W hi hI => by
      have kb : Below B0 u W := (kR.mono hB0).trans (hI.1.1.mono hBb)
      have hB0W := Nat.le_trans hB0 kb.size
      match i, hi with
      | 0, _ =>
        have hw := keep hI.1 r1 hn1
        have hb : W.heap[bn]? = _ := hI.2
        exact (word_hit q1 wEdge _ W (cell_of hw 0)).mono fun e w' ⟨e1, k1⟩ => ⟨e1, hI.1.trans (KeepBut.of_below k1 (Nat.le_of_lt (lt_blkX hb))), below_cellsX k1 hb⟩
      | 1, _ =>
        have hw := keep hI.1 r2 hn2
        have hb : W.heap[bn]? = some (.cells #[.int .i64 0, .int .i64 0, .int .i64 0, .string ⟨#[]⟩, .slice none 0 0] 53 (0, 0)) := hI.2
        exact (number_hit B0 q2 bn 0 _ _ _ _ (.int .i64 0) X.id (tx2 X) W hX.id (tail_tx2 X) (by omega) hw rfl hb rfl hn2 hBb hB0W (hP.below kb)).mono fun e w' ⟨e1, p1⟩ => ⟨e1, hI.1.trans (p1.but (lt_blkX hb)), p1.here hb⟩
      | 2, _ =>
        have hw := keep hI.1 r3 hn3
        have hb : W.heap[bn]? = some (.cells #[.int .i64 X.id, .int .i64 0, .int .i64 0, .string ⟨#[]⟩, .slice none 0 0] 53 (0, 0)) := hI.2
        exact (number_hit B0 q3 bn 1 _ _ _ _ (.int .i64 0) X.frm (tx3 X) W hX.frm (tail_tx3 X) (by omega) hw rfl hb rfl hn3 hBb hB0W (hP.below kb)).mono fun e w' ⟨e1, p1⟩ => ⟨e1, hI.1.trans (p1.but (lt_blkX hb)), p1.here hb⟩
      | 3, _ =>
        have hw := keep hI.1 r4 hn4
        have hb : W.heap[bn]? = some (.cells #[.int .i64 X.id, .int .i64 X.frm, .int .i64 0, .string ⟨#[]⟩, .slice none 0 0] 53 (0, 0)) := hI.2
        exact (number_hit B0 q4 bn 2 _ _ _ _ (.int .i64 0) X.dst (tx4 X) W hX.dst (tail_tx4 X) (by omega) hw rfl hb rfl hn4 hBb hB0W (hP.below kb)).mono fun e w' ⟨e1, p1⟩ => ⟨e1, hI.1.trans (p1.but (lt_blkX hb)), p1.here hb⟩
      | 4, _ =>
        have hw := keep hI.1 r5 hn5
        have hb : W.heap[bn]? = some (.cells #[.int .i64 X.id, .int .i64 X.frm, .int .i64 X.dst, .string ⟨#[]⟩, .slice none 0 0] 53 (0, 0)) := hI.2
        exact (kind_hit q5 bn 3 _ _ _ _ (.string ⟨#[]⟩) (bS X.typ) (endP X.props) W hX.typ.1 (endP_tail _) (by omega) hw rfl hb rfl).mono fun e w' ⟨e1, p1⟩ => ⟨e1, hI.1.trans (p1.but (lt_blkX hb)), p1.here hb⟩
      | 5, _ =>
        have hw := keep hI.1 r6 hn6
        have hb : W.heap[bn]? = some (.cells #[.int .i64 X.id, .int .i64 X.frm, .int .i64 X.dst, .string (bt (bS X.typ)), .slice none 0 0] 53 (0, 0)) := hI.2
        refine (properties_hit B0 q6 bn 4 _ _ _ _ X.props W hX.p6 hX.prop hX.fit hw rfl hb rfl hn6 (by decide) (by decide) hB0W hBb (hT.below kb) (hP.below kb)).mono ?_
        rintro e w' ⟨e1, k1, a', c', PP, hb', hrp, hpp⟩
        have hRW : R.heap.size ≤ W.heap.size := hI.1.1.size
        have hgp : ∀ g, (Value.slice a' X.props.length c').ownBlock = some g → W.heap.size ≤ g ∧ g < w'.heap.size := own_made hrp
        have hpl : PP.length = X.props.length := hpp.1
        refine ⟨e1, hI.1.trans k1, { id := X.id, frm := X.frm, dst := X.dst, typ := bt (bS X.typ), props := PP, pa := a', pl := X.props.length, pc := c' }, hb', ?_⟩
        exact { id := rfl, frm := rfl, dst := rfl, typ := str_of X.typ
                szT := by show (bt (bS X.typ)).size ≤ _; rw [bt_size, bS_size]; have := hX.typ.2; omega
                rowP := by
                  have := row_low hrp (Nat.zero_le _)
                  rw [← hpl] at this ⊢
                  exact this
                inP := fun g hg => ⟨Nat.le_trans hRW (hgp g hg).1, (hgp g hg).2⟩
                props := hpp.mono fun p x _ _ hp => hp.kept ⟨Nat.le_refl _, fun i hi hl => ⟨⟨⟨Nat.le_trans hRW hi.1, hl⟩, hi.2⟩, rfl⟩⟩ })
    rfl ⟨KeepBut.refl _ _, rB⟩
  refine h.mono fun e w' ⟨e1, k1, y, hb, hy⟩ => ⟨e1, (KeepBut.of_below kR (Nat.le_of_lt hbl)).trans k1, y, hb, hy.kept ⟨Nat.le_refl _, fun i hi hl => ⟨⟨Nat.le_trans hRu hi.1, hi.2⟩, rfl⟩⟩⟩

set_option linter.unusedSimpArgs false

theorem info_edgeC : ∃ i z, Tryz.prog.info? 53 = some i ∧ i.zero = some z ∧ i.size = 5 ∧ i.bytes = 64 ∧ z.cells.size = 5 := by
  have h0 : (Tryz.prog.info? 53).map (fun i => (i.zero, i.size, i.bytes)) = some (some (.agg #[.int .i64 0, .int .i64 0, .int .i64 0, .string ⟨#[]⟩, .slice none 0 0]), 5, 64) := by kernel_rfl
  obtain ⟨i, h, e⟩ := Option.map_eq_some_iff.1 h0
  simp only [Prod.mk.injEq] at e
  exact ⟨i, _, h, e.1, e.2.1, e.2.2, rfl⟩

/-- A line that isn't a node's. -/
theorem node_no (u : World) (q1 q2 q3 q4 : Nat) (l : List UInt8) (h : wNode.isPrefixOf l = false) (h1 : u.heap[q1]? = some (.cells #[.string (bt wNode)] 9 (0, 0))) :
    Calls Tryz.prog 65 #[.string (bt l), .slice (some ⟨u.heap.size, 0, none⟩) 4 4] (u.alloc (.cells #[.func (.func 94) #[] #[.pointer (some ⟨q1, 0, none⟩)], .func (.func 96) #[] #[.pointer (some ⟨q2, 0, none⟩)], .func (.func 99) #[] #[.pointer (some ⟨q3, 0, none⟩)], .func (.func 100) #[] #[.pointer (some ⟨q4, 0, none⟩)]] 126)) fun e w' => e = .returned (.bool false) ∧ Below u.heap.size u w' := by
  have k : Below u.heap.size u (u.alloc (.cells #[.func (.func 94) #[] #[.pointer (some ⟨q1, 0, none⟩)], .func (.func 96) #[] #[.pointer (some ⟨q2, 0, none⟩)], .func (.func 99) #[] #[.pointer (some ⟨q3, 0, none⟩)], .func (.func 100) #[] #[.pointer (some ⟨q4, 0, none⟩)]] 126)) := (Below.refl _ _).alloc (Nat.le_refl _) _
  have hr := alloc_new u (.cells #[.func (.func 94) #[] #[.pointer (some ⟨q1, 0, none⟩)], .func (.func 96) #[] #[.pointer (some ⟨q2, 0, none⟩)], .func (.func 99) #[] #[.pointer (some ⟨q3, 0, none⟩)], .func (.func 100) #[] #[.pointer (some ⟨q4, 0, none⟩)]] 126)
  exact (reads_no 4 u.heap.size q1 94 (bt l) _ (by omega) (cell_of hr 0) (lt_blkX hr) ent_word ((word_miss q1 wNode l _ (cell_of (below_cellsX k h1) 0) h).mono fun e w' ⟨e1, k1⟩ => ⟨⟨_, e1⟩, k1⟩)).mono fun e w' ⟨e1, k1⟩ => ⟨e1, k.trans (k1.mono k.size)⟩

set_option maxHeartbeats 8000000 in
set_option maxRecDepth 100000 in
theorem edge_line (B0 B b : Nat) (N : List AN) (E : List AE) (nx : Int) (X : AE) (w : World) (hX : RdE X) (hG : GrA B b N E nx w) (hE : E.length ≤ 100) (hBw : B ≤ w.heap.size) (hB0 : B0 ≤ B) (hT : Tabs B0 w) (hP : Pow10 B0 w) :
    Calls Tryz.prog 41 #[.pointer (some ⟨b, 0, none⟩), .string (bt (txE X 0)), .bool false] w fun e w' => e = .returned (.bool true) ∧ GrA B b N (E ++ [X]) nx w' ∧ Below B w w' := by
  obtain ⟨hBb, A, na, nc, ea, ec, PN, PE, hb, h1, h2, h3, h4, hA⟩ := hG
  obtain ⟨i0, z0, hif, hz0, hz1, hz2, hz3⟩ := info_edgeC
  have hbl := lt_blkX hb
  have W0b : Below w.heap.size w ((w.alloc (.cells #[.int .i64 0, .slice none 0 0, .slice none 0 0] 49)).alloc (.cells #[.int .i64 0, .int .i64 0, .int .i64 0, .string ⟨#[]⟩, .slice none 0 0] 53)) := ((Below.refl _ _).alloc (Nat.le_refl _) _).alloc (by simp) _
  have hW0s : ((w.alloc (.cells #[.int .i64 0, .slice none 0 0, .slice none 0 0] 49)).alloc (.cells #[.int .i64 0, .int .i64 0, .int .i64 0, .string ⟨#[]⟩, .slice none 0 0] 53)).heap.size = w.heap.size + 2 := by simp
  have HR : Hid (∀ (u : World) (q1 q2 q3 q4 q5 q6 : Nat), Below w.heap.size w u → w.heap.size + 2 ≤ u.heap.size → u.heap[w.heap.size + 1]? = some (.cells #[.int .i64 0, .int .i64 0, .int .i64 0, .string ⟨#[]⟩, .slice none 0 0] 53 (0, 0)) → u.heap[q1]? = some (.cells #[.string ⟨#[101, 100, 103, 101]⟩] 9 (0, 0)) → u.heap[q2]? = some (.cells #[.pointer (some ⟨w.heap.size + 1, 0, none⟩)] 129 (0, 0)) → u.heap[q3]? = some (.cells #[.pointer (some ⟨w.heap.size + 1, 1, none⟩)] 129 (0, 0)) → u.heap[q4]? = some (.cells #[.pointer (some ⟨w.heap.size + 1, 2, none⟩)] 129 (0, 0)) → u.heap[q5]? = some (.cells #[.pointer (some ⟨w.heap.size + 1, 3, none⟩)] 135 (0, 0)) → u.heap[q6]? = some (.cells #[.pointer (some ⟨w.heap.size + 1, 4, none⟩)] 133 (0, 0)) →
      Calls Tryz.prog 65 #[.string (bt (txE X 0)), .slice (some ⟨u.heap.size, 0, none⟩) 6 6] (u.alloc (.cells #[.func (.func 94) #[] #[.pointer (some ⟨q1, 0, none⟩)], .func (.func 96) #[] #[.pointer (some ⟨q2, 0, none⟩)], .func (.func 96) #[] #[.pointer (some ⟨q3, 0, none⟩)], .func (.func 96) #[] #[.pointer (some ⟨q4, 0, none⟩)], .func (.func 102) #[] #[.pointer (some ⟨q5, 0, none⟩)], .func (.func 100) #[] #[.pointer (some ⟨q6, 0, none⟩)]] 126)) fun e w' => e = .returned (.bool true) ∧ Below w.heap.size w w' ∧ ∃ y : Ed, w'.heap[w.heap.size + 1]? = some (.cells #[.int .i64 y.id, .int .i64 y.frm, .int .i64 y.dst, .string y.typ, .slice y.pa y.pl y.pc] 53 (0, 0)) ∧ EdOwn (fun i => w.heap.size + 1 < i ∧ i < w'.heap.size) w' y X) := fun u q1 q2 q3 q4 q5 q6 ku hus hbn g1 g2 g3 g4 g5 g6 => by
    refine (edge_reads B0 (w.heap.size + 1) q1 q2 q3 q4 q5 q6 X u hX hbn g1 g2 g3 g4 g5 g6 (by omega) (by omega) (hT.below (ku.mono (by omega))) (hP.below (ku.mono (by omega)))).mono ?_
    rintro e w' ⟨e1, k1, y, hy1, hy2⟩
    exact ⟨e1, ku.trans (k1.1.mono (by omega)), y, hy1, hy2.kept ⟨Nat.le_refl _, fun i hi _ => ⟨⟨by omega, hi.2⟩, rfl⟩⟩⟩
  have HNO : Hid (∀ (u : World) (q1 q2 q3 q4 : Nat), u.heap[q1]? = some (.cells #[.string ⟨#[110, 111, 100, 101]⟩] 9 (0, 0)) → Calls Tryz.prog 65 #[.string (bt (txE X 0)), .slice (some ⟨u.heap.size, 0, none⟩) 4 4] (u.alloc (.cells #[.func (.func 94) #[] #[.pointer (some ⟨q1, 0, none⟩)], .func (.func 96) #[] #[.pointer (some ⟨q2, 0, none⟩)], .func (.func 99) #[] #[.pointer (some ⟨q3, 0, none⟩)], .func (.func 100) #[] #[.pointer (some ⟨q4, 0, none⟩)]] 126)) fun e w' => e = .returned (.bool false) ∧ Below u.heap.size u w') := fun u q1 q2 q3 q4 g1 => node_no u q1 q2 q3 q4 (txE X 0) rfl g1
  have HW0 := toHid W0b
  have HW0S := toHid hW0s
  have HBN : Hid (((w.alloc (.cells #[.int .i64 0, .slice none 0 0, .slice none 0 0] 49)).alloc (.cells #[.int .i64 0, .int .i64 0, .int .i64 0, .string ⟨#[]⟩, .slice none 0 0] 53)).heap[w.heap.size + 1]? = some (.cells #[.int .i64 0, .int .i64 0, .int .i64 0, .string ⟨#[]⟩, .slice none 0 0] 53 (0, 0))) := bk_newX (by simp)
  have HBE := toHid (below_cellsX W0b hb)
  have HB1 := toHid hb
  have H1 := toHid h1
  have H2 := toHid h2
  have H3 := toHid h3
  have H4 := toHid h4
  have HA := toHid hA
  obtain ⟨n, hn⟩ : ∃ n, n = E.length := ⟨_, rfl⟩
  rw [← hn] at HB1 H3 HA HBE hE
  have HN := toHid hn
  clear hb h1 h2 h3 h4 hA W0b hT hP hX hn hW0s
  have hbn : b ≠ w.heap.size + 1 := by omega
  go_enter Tryz.func41, Tryz.ntmps41
  generalize bt (txE X 0) = L0 at HR HNO ⊢
  go_upto_region 6 with fail
  generalize ((w.alloc (.cells #[.int .i64 0, .slice none 0 0, .slice none 0 0] 49)).alloc (.cells #[.int .i64 0, .int .i64 0, .int .i64 0, .string ⟨#[]⟩, .slice none 0 0] 53)) = W0 at HW0 HBN HBE HW0S ⊢
  have x1 := cell_of HBE.out 1
  simp at x1
  have hbl0 := lt_blkX HBE.out
  go_cut [18] (fun s18 wx => s18 = .bool false ∧ Below W0.heap.size W0 wx)
  case first =>
    by_cases hn0 : n = 0
    · have hnz : ((n : Int) == 0) = true := by simp [hn0]
      clear hn0
      go_wp2_with fail
      refine (made_word _ _).mono ?_
      rintro e u1 ⟨⟨q1, rfl, hq1l, hq1⟩, j1⟩
      have HJ1 : Hid (Below W0.heap.size W0 u1) := j1
      have HQ1a := toHid hq1
      clear hq1 j1
      go_wp2_with fail
      refine (made_number _ _).mono ?_
      rintro e u2 ⟨⟨q2, rfl, hq2l, hq2⟩, j2⟩
      have HJ2 : Hid (Below W0.heap.size W0 u2) := HJ1.out.trans (j2.mono HJ1.out.size)
      have HQ1b := toHid (below_cellsX j2 HQ1a.out)
      clear hq2 j2
      go_wp2_with fail
      refine (made_labels _ _).mono ?_
      rintro e u3 ⟨⟨q3, rfl, hq3l, hq3⟩, j3⟩
      have HJ3 : Hid (Below W0.heap.size W0 u3) := HJ2.out.trans (j3.mono HJ2.out.size)
      have HQ1c := toHid (below_cellsX j3 HQ1b.out)
      clear hq3 j3
      go_wp2_with fail
      refine (made_properties _ _).mono ?_
      rintro e u4 ⟨⟨q4, rfl, hq4l, hq4⟩, j4⟩
      have HJ4 : Hid (Below W0.heap.size W0 u4) := HJ3.out.trans (j4.mono HJ3.out.size)
      have HQ1d := toHid (below_cellsX j4 HQ1c.out)
      clear hq4 j4
      have HNN := toHid (HNO.out u4 q1 q2 q3 q4 HQ1d.out)
      clear hq1l hq2l hq3l hq4l x1 hbl0
      go_wp2_with fail
      refine HNN.out.mono ?_
      rintro e w1 ⟨rfl, k1⟩
      have HK1 : Hid (Below W0.heap.size W0 w1) := HJ4.out.trans (k1.mono HJ4.out.size)
      clear k1
      go_wp2_with fail
      go_meet
      exact ⟨rfl, HK1.out⟩
    · have hnz : ((n : Int) == 0) = false := by
        rw [beq_eq_false_iff_ne]
        omega
      clear hn0
      go_wp2_with fail
      go_meet
      exact ⟨rfl, Below.refl _ _⟩
  case rest =>
    obtain ⟨rfl, kc⟩ := hcut
    clear x1 hbl0
    have HV : Hid (Below w.heap.size w wc) := HW0.out.trans (kc.mono HW0.out.size)
    have HVS : Hid (w.heap.size + 2 ≤ wc.heap.size) := by show _ ≤ _; rw [← HW0S.out]; exact kc.size
    have HBN := toHid (below_cellsX kc HBN.out)
    clear kc HW0 HBE HNO
    obtain ⟨V0, hV0⟩ : ∃ z, z = wc := ⟨_, rfl⟩
    rw [← hV0] at HV HVS HBN
    have HV0 := toHid hV0
    subst hV0
    go_wp2_with fail
    refine (made_word _ _).mono ?_
    rintro e u1 ⟨⟨q1, rfl, hq1l, hq1⟩, j1⟩
    have HJ1 : Hid (Below w.heap.size V0 u1) := j1.mono HV.out.size
    have HQ1a := toHid hq1
    have HN1 := toHid (below_cellsX j1 HBN.out)
    clear hq1 j1
    go_wp2_with fail
    refine (made_number _ _).mono ?_
    rintro e u2 ⟨⟨q2, rfl, hq2l, hq2⟩, j2⟩
    have HJ2 : Hid (Below w.heap.size V0 u2) := HJ1.out.trans (j2.mono (Nat.le_trans HV.out.size HJ1.out.size))
    have HQ1b := toHid (below_cellsX j2 HQ1a.out)
    have HQ2a := toHid hq2
    have HN2 := toHid (below_cellsX j2 HN1.out)
    clear hq2 j2
    go_wp2_with fail
    refine (made_number _ _).mono ?_
    rintro e u3 ⟨⟨q3, rfl, hq3l, hq3⟩, j3⟩
    have HJ3 : Hid (Below w.heap.size V0 u3) := HJ2.out.trans (j3.mono (Nat.le_trans HV.out.size HJ2.out.size))
    have HQ1c := toHid (below_cellsX j3 HQ1b.out)
    have HQ2b := toHid (below_cellsX j3 HQ2a.out)
    have HQ3a := toHid hq3
    have HN3 := toHid (below_cellsX j3 HN2.out)
    clear hq3 j3
    go_wp2_with fail
    refine (made_number _ _).mono ?_
    rintro e u4 ⟨⟨q4, rfl, hq4l, hq4⟩, j4⟩
    have HJ4 : Hid (Below w.heap.size V0 u4) := HJ3.out.trans (j4.mono (Nat.le_trans HV.out.size HJ3.out.size))
    have HQ1d := toHid (below_cellsX j4 HQ1c.out)
    have HQ2c := toHid (below_cellsX j4 HQ2b.out)
    have HQ3b := toHid (below_cellsX j4 HQ3a.out)
    have HQ4a := toHid hq4
    have HN4 := toHid (below_cellsX j4 HN3.out)
    clear hq4 j4
    go_wp2_with fail
    refine (made_kind _ _).mono ?_
    rintro e u5 ⟨⟨q5, rfl, hq5l, hq5⟩, j5⟩
    have HJ5 : Hid (Below w.heap.size V0 u5) := HJ4.out.trans (j5.mono (Nat.le_trans HV.out.size HJ4.out.size))
    have HQ1e := toHid (below_cellsX j5 HQ1d.out)
    have HQ2d := toHid (below_cellsX j5 HQ2c.out)
    have HQ3c := toHid (below_cellsX j5 HQ3b.out)
    have HQ4b := toHid (below_cellsX j5 HQ4a.out)
    have HQ5a := toHid hq5
    have HN5 := toHid (below_cellsX j5 HN4.out)
    clear hq5 j5
    go_wp2_with fail
    refine (made_properties _ _).mono ?_
    rintro e u6 ⟨⟨q6, rfl, hq6l, hq6⟩, j6⟩
    have HJ6 : Hid (Below w.heap.size V0 u6) := HJ5.out.trans (j6.mono (Nat.le_trans HV.out.size HJ5.out.size))
    have HQ1f := toHid (below_cellsX j6 HQ1e.out)
    have HQ2e := toHid (below_cellsX j6 HQ2d.out)
    have HQ3d := toHid (below_cellsX j6 HQ3c.out)
    have HQ4c := toHid (below_cellsX j6 HQ4b.out)
    have HQ5b := toHid (below_cellsX j6 HQ5a.out)
    have HQ6a := toHid hq6
    have HN6 := toHid (below_cellsX j6 HN5.out)
    clear hq6 j6
    have HRR := toHid (HR.out u6 q1 q2 q3 q4 q5 q6 (HV.out.trans HJ6.out) (Nat.le_trans HVS.out HJ6.out.size) HN6.out HQ1f.out HQ2e.out HQ3d.out HQ4c.out HQ5b.out HQ6a.out)
    clear hq1l hq2l hq3l hq4l hq5l hq6l
    go_wp2_with fail
    refine HRR.out.mono ?_
    rintro e w1 ⟨rfl, k1, y, hy1, hy2⟩
    have HK1 := toHid k1
    have HY1 := toHid hy1
    have HY2 := toHid hy2
    have HBW := toHid (below_cellsX k1 HB1.out)
    have OW1 := toHid (row_keptC H3.out fun j _ hj => k1.block j hj)
    have hsz1 : w.heap.size ≤ w1.heap.size := k1.size
    clear k1 hy1 hy2 HRR HR
    have y0 := cell_of HY1.out 0
    have y1 := cell_of HY1.out 1
    have y2 := cell_of HY1.out 2
    have y3 := cell_of HY1.out 3
    have y4 := cell_of HY1.out 4
    have x1 := cell_of HBW.out 1
    have f1 := free_of HBW.out 1
    simp at y0 y1 y2 y3 y4 x1
    have hyl := lt_blkX HY1.out
    have hbl1 := lt_blkX HBW.out
    have hBm : n + 1 ≤ maxLen := by unfold maxLen; omega
    have hBy : (n + 1) * 64 ≤ 140737488355328 := by omega
    have HOB : Hid (∀ g, (Value.slice ea n ec).ownBlock = some g → g ≠ b ∧ g < w.heap.size) := fun g hg => ⟨fun e => by
        obtain ⟨cur, hc⟩ := row_typeD OW1.out hg
        rw [e, HBW.out] at hc
        injection hc with hc
        injection hc with _ e2 _
        exact absurd e2 (by decide), (H3.out.lt g hg).2⟩
    go_upto_region 9 with fail
    go_region_law (first
      | (refine step_append_lies _ (by rfl) _ _ _ (by rfl) B 53 i0 _ 5 64 Tryz.underlying23 hif hz0 hz1 hz2 hz3 (by omega) (.slice ea n ec) n (rowX PE) (by rfl) (OW1.out.alloc _) ⟨w1.heap.size, 0, none⟩ 1 1 [.int .i64 y.id, .int .i64 y.frm, .int .i64 y.dst, .string y.typ, .slice y.pa y.pl y.pc] (by rfl) (by rfl) (World.news_of_block (cs := #[.int .i64 y.id, .int .i64 y.frm, .int .i64 y.dst, .string y.typ, .slice y.pa y.pl y.pc]) (t := 53) (fr := (0, 0)) (alloc_new w1 _)) (by simp [Value.oneCell']) (by omega) hBm hBy (by simp; omega) (w1.heap.size + 1) (by simp) ?_; intro gg cap w5 hown5 hgrow hat5 hlt5
         have hb5 := (hgrow.block b (by simp; omega) (fun e => (HOB.out b e.symm).1 rfl)).trans ((Below.heap_alloc w1 _ b hbl1).trans HBW.out)
         have d1 := cell_of hb5 1
         have f5 := free_of hb5 1
         simp at d1
         have hbl5 := lt_blkX hb5))
    all_goals
      go_wp2_with fail
      go_ret
      refine ⟨rfl, ?_, ?_⟩
      · have hn := HN.out
        have hbw := HBW.out
        have how := OW1.out
        have hha := HA.out
        have hob := HOB.out
        rw [hn] at hgrow hown5 hat5 hbw how hha hob ⊢
        refine GrA.putE (A1 := fun i => w.heap.size + 1 < i ∧ i < w1.heap.size) hBb hbw (row_keptC H1.out fun j _ hj => HK1.out.block j hj) (H2.out.mono fun p x _ _ hp => hp.kept (Keep.of_below HK1.out _)) how (H4.out.mono fun p x _ _ hp => hp.kept (Keep.of_below HK1.out _)) ⟨hha.low, fun i hi => Nat.lt_of_lt_of_le (hha.lt i hi) hsz1, hha.ne, hha.nn, hha.nE⟩ ⟨fun i hi => by omega, fun i hi => hi.2, fun i hi => by omega, fun i hi e => ?_, fun i hi e => ?_⟩ HY2.out _ hgrow hown5 hat5
        · have := (H1.out.lt i e).2
          omega
        · have := (hob i e).2
          omega
      · exact ((HK1.out.mono hBw).trans ((((Below.refl _ _).alloc (Nat.le_trans hBw hsz1) _).drew).grown hgrow (by simp; omega) (fun k hk => (OW1.out.lt k hk).1))).setCell (p := ⟨b, 1, none⟩) hBb _
end Go.Proofs.YthbbapimedlocaaGreatDoor
