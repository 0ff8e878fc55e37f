/-
  What is proved here: what the texts PdGr, PdNode0, PdNode prove, in one text.
-/
import Derived.Test.YthbbapimedlocaaGreatDoorQPAU
namespace Go.Proofs.YthbbapimedlocaaGreatDoor
open Go.RowKit
set_option linter.unusedVariables false

set_option linter.unusedSimpArgs false

/-- The blocks of what is done with: not the graph's own, nor its rows'. -/
structure DataB (B b : Nat) (vn ve : Value) (w : World) (A : Nat → Prop) : Prop where
  low : ∀ i, A i → B ≤ i
  lt : ∀ i, A i → i < w.heap.size
  ne : ∀ i, A i → i ≠ b
  nn : ∀ i, A i → vn.ownBlock ≠ some i
  nE : ∀ i, A i → ve.ownBlock ≠ some i

/-- At block b lies a graph that is being read. -/
def GrA (B b : Nat) (N : List AN) (E : List AE) (nx : Int) (w : World) : Prop :=
  B ≤ b ∧ ∃ (A : Nat → Prop) (na : Option Addr) (nc : Nat) (ea : Option Addr) (ec : Nat) (PN : List Nd) (PE : List Ed),
    w.heap[b]? = some (.cells #[.slice na N.length nc, .slice ea E.length ec, .int .i64 nx] 25 (0, 0)) ∧
    w.ownsRow B 49 3 (.slice na N.length nc) N.length (rowN PN) ∧ Pair2 (NdOwn A w) PN N ∧
    w.ownsRow B 53 5 (.slice ea E.length ec) E.length (rowX PE) ∧ Pair2 (EdOwn A w) PE E ∧
    DataB B b (.slice na N.length nc) (.slice ea E.length ec) w A

theorem GrA.below {B b : Nat} {N : List AN} {E : List AE} {nx : Int} {w w' : World} (h : GrA B b N E nx w) (k : Below w.heap.size w w') : GrA B b N E nx w' := by
  obtain ⟨hB, A, na, nc, ea, ec, PN, PE, hb, h1, h2, h3, h4, hA⟩ := h
  exact ⟨hB, A, na, nc, ea, ec, PN, PE, below_cellsX k hb, row_keptC h1 fun j _ hj => k.block j hj, h2.mono fun p x _ _ hp => hp.kept (Keep.of_below k _), row_keptC h3 fun j _ hj => k.block j hj, h4.mono fun p x _ _ hp => hp.kept (Keep.of_below k _), ⟨hA.low, fun i hi => Nat.lt_of_lt_of_le (hA.lt i hi) k.size, hA.ne, hA.nn, hA.nE⟩⟩

theorem row_low {B B' n : Nat} {e : TypeId} {size : Nat} {v : Value} {xs : List Value} {w : World} (h : w.ownsRow B e size v n xs) (hB : B' ≤ B) : w.ownsRow B' e size v n xs :=
  ⟨h.1, h.2.imp id fun ⟨g, cap, cur, e1, e2, r⟩ => ⟨g, cap, cur, e1, Nat.le_trans hB e2, r⟩⟩

/-- Two rows of other types are not one. -/
theorem rows_apart {B B' n m s s' : Nat} {e e' : TypeId} {v v' : Value} {xs ys : List Value} {w : World} (h : w.ownsRow B e s v n xs) (k : w.ownsRow B' e' s' v' m ys) (he : e ≠ e') {g : Nat} (hg : v.ownBlock = some g) : v'.ownBlock ≠ some g := fun hg' => by
  obtain ⟨cur, hc⟩ := row_typeD h hg
  obtain ⟨cur', hc'⟩ := row_typeD k hg'
  rw [hc] at hc'
  injection hc' with hc'
  injection hc' with _ e2 _
  exact he e2

/-- One more node. -/
theorem GrA.putN {B b : Nat} {N : List AN} {E : List AE} {nx : Int} {w : World} (hB : B ≤ b) {A A1 : Nat → Prop} {na : Option Addr} {nc : Nat} {ea : Option Addr} {ec : Nat} {PN : List Nd} {PE : List Ed}
    (hb : w.heap[b]? = some (.cells #[.slice na N.length nc, .slice ea E.length ec, .int .i64 nx] 25 (0, 0)))
    (h1 : w.ownsRow B 49 3 (.slice na N.length nc) N.length (rowN PN)) (h2 : Pair2 (NdOwn A w) PN N)
    (h3 : w.ownsRow B 53 5 (.slice ea E.length ec) E.length (rowX PE)) (h4 : Pair2 (EdOwn A w) PE E)
    (hA : DataB B b (.slice na N.length nc) (.slice ea E.length ec) w A) (hA1 : DataB B b (.slice na N.length nc) (.slice ea E.length ec) w A1)
    {y : Nd} {X : AN} (hy : NdOwn A1 w y X) (o : Obj) {w5 : World} {gg cap : Nat} (hgrow : ((w.alloc o).drew).grownBy w5 (Value.slice na N.length nc).ownBlock)
    (hown : w5.ownsRow B 49 3 (.slice (some ⟨gg, 0, none⟩) (N.length + 1) cap) (N.length + 1) (rowN PN ++ y.cells)) (hat : (Value.slice na N.length nc).ownBlock = some gg ∨ gg = w.heap.size + 1) :
    GrA B b (N ++ [X]) E nx (w5.setCell ⟨b, 0, none⟩ (.slice (some ⟨gg, 0, none⟩) (N.length + 1) cap)) := by
  have hbl := lt_blkX hb
  have hsame : ∀ j, j < w.heap.size → (Value.slice na N.length nc).ownBlock ≠ some j → w5.heap[j]? = w.heap[j]? := fun j h5 h6 => (hgrow.block j (by show j < (w.alloc o).heap.size; simp; omega) (fun e => h6 e.symm)).trans (Below.heap_alloc w o j h5)
  have hsame2 : ∀ j, j < w.heap.size → (Value.slice na N.length nc).ownBlock ≠ some j → j ≠ b → (w5.setCell ⟨b, 0, none⟩ (.slice (some ⟨gg, 0, none⟩) (N.length + 1) cap)).heap[j]? = w.heap[j]? := fun j h5 h6 h7 => (Below.heap_setCell _ _ _ _ h7).trans (hsame j h5 h6)
  have hss : w.heap.size ≤ (w5.setCell ⟨b, 0, none⟩ (.slice (some ⟨gg, 0, none⟩) (N.length + 1) cap)).heap.size := by
    rw [set_size]
    have := hgrow.size
    have h8 : ((w.alloc o).drew).heap.size = w.heap.size + 1 := by show (w.alloc o).heap.size = _; simp
    omega
  have hnb : (Value.slice na N.length nc).ownBlock ≠ some b := fun e => by
    obtain ⟨cur, hc⟩ := row_typeD h1 e
    rw [hb] at hc
    injection hc with hc
    injection hc with _ e2 _
    exact absurd e2 (by decide)
  have hgb : gg ≠ b := fun e => by
    rcases hat with h | h
    · exact hnb (by rw [h, e])
    · omega
  have hb5 : w5.heap[b]? = some (.cells #[.slice na N.length nc, .slice ea E.length ec, .int .i64 nx] 25 (0, 0)) := (hsame b hbl hnb).trans hb
  have hne : ∀ i, (A i ∨ A1 i) → i ≠ gg := fun i hi e => by
    rcases hat with h | h
    · rcases hi with hi | hi
      · exact hA.nn i hi (by rw [h, e])
      · exact hA1.nn i hi (by rw [h, e])
    · rcases hi with hi | hi
      · have := hA.lt i hi
        omega
      · have := hA1.lt i hi
        omega
  have hl : (N ++ [X]).length = N.length + 1 := by simp
  refine ⟨hB, fun i => A i ∨ A1 i, some ⟨gg, 0, none⟩, cap, ea, ec, PN ++ [y], PE, ?_, ?_, ?_, ?_, ?_, ?_⟩
  · have := set_here hb5 0 (.slice (some ⟨gg, 0, none⟩) (N.length + 1) cap)
    rw [hl]
    simpa using this
  · rw [hl, rowN_snoc]
    exact row_keep hown fun g hg _ => by
      have e2 : gg = g := by simpa [Value.ownBlock] using hg
      exact Below.heap_setCell _ _ _ _ (by show g ≠ b; rw [← e2]; exact hgb)
  · exact (h2.mono fun p x _ _ hp => hp.kept ⟨hss, fun j hj hl => ⟨.inl hj, hsame2 j hl (hA.nn j hj) (hA.ne j hj)⟩⟩).snoc (hy.kept ⟨hss, fun j hj hl => ⟨.inr hj, hsame2 j hl (hA1.nn j hj) (hA1.ne j hj)⟩⟩)
  · exact row_keep h3 fun g hg hgl => hsame2 g hgl (fun e => rows_apart h1 h3 (by decide) e hg) (fun e => by
      obtain ⟨cur, hc⟩ := row_typeD h3 hg
      rw [e, hb] at hc
      injection hc with hc
      injection hc with _ e2 _
      exact absurd e2 (by decide))
  · exact h4.mono fun p x _ _ hp => hp.kept ⟨hss, fun j hj hl => ⟨.inl hj, hsame2 j hl (hA.nn j hj) (hA.ne j hj)⟩⟩
  · refine ⟨fun i hi => hi.elim (hA.low i) (hA1.low i), fun i hi => Nat.lt_of_lt_of_le (hi.elim (hA.lt i) (hA1.lt i)) hss, fun i hi => hi.elim (hA.ne i) (hA1.ne i), fun i hi e => ?_, fun i hi => hi.elim (hA.nE i) (hA1.nE i)⟩
    have e2 : gg = i := by simpa [Value.ownBlock] using e
    exact hne i hi e2.symm
/-- One more edge. -/
theorem GrA.putE {B b : Nat} {N : List AN} {E : List AE} {nx : Int} {w : World} (hB : B ≤ b) {A A1 : Nat → Prop} {na : Option Addr} {nc : Nat} {ea : Option Addr} {ec : Nat} {PN : List Nd} {PE : List Ed}
    (hb : w.heap[b]? = some (.cells #[.slice na N.length nc, .slice ea E.length ec, .int .i64 nx] 25 (0, 0)))
    (h1 : w.ownsRow B 49 3 (.slice na N.length nc) N.length (rowN PN)) (h2 : Pair2 (NdOwn A w) PN N)
    (h3 : w.ownsRow B 53 5 (.slice ea E.length ec) E.length (rowX PE)) (h4 : Pair2 (EdOwn A w) PE E)
    (hA : DataB B b (.slice na N.length nc) (.slice ea E.length ec) w A) (hA1 : DataB B b (.slice na N.length nc) (.slice ea E.length ec) w A1)
    {y : Ed} {X : AE} (hy : EdOwn A1 w y X) (o : Obj) {w5 : World} {gg cap : Nat} (hgrow : ((w.alloc o).drew).grownBy w5 (Value.slice ea E.length ec).ownBlock)
    (hown : w5.ownsRow B 53 5 (.slice (some ⟨gg, 0, none⟩) (E.length + 1) cap) (E.length + 1) (rowX PE ++ y.cells)) (hat : (Value.slice ea E.length ec).ownBlock = some gg ∨ gg = w.heap.size + 1) :
    GrA B b N (E ++ [X]) nx (w5.setCell ⟨b, 1, none⟩ (.slice (some ⟨gg, 0, none⟩) (E.length + 1) cap)) := by
  have hbl := lt_blkX hb
  have hsame : ∀ j, j < w.heap.size → (Value.slice ea E.length ec).ownBlock ≠ some j → w5.heap[j]? = w.heap[j]? := fun j h5 h6 => (hgrow.block j (by show j < (w.alloc o).heap.size; simp; omega) (fun e => h6 e.symm)).trans (Below.heap_alloc w o j h5)
  have hsame2 : ∀ j, j < w.heap.size → (Value.slice ea E.length ec).ownBlock ≠ some j → j ≠ b → (w5.setCell ⟨b, 1, none⟩ (.slice (some ⟨gg, 0, none⟩) (E.length + 1) cap)).heap[j]? = w.heap[j]? := fun j h5 h6 h7 => (Below.heap_setCell _ _ _ _ h7).trans (hsame j h5 h6)
  have hss : w.heap.size ≤ (w5.setCell ⟨b, 1, none⟩ (.slice (some ⟨gg, 0, none⟩) (E.length + 1) cap)).heap.size := by
    rw [set_size]
    have := hgrow.size
    have h8 : ((w.alloc o).drew).heap.size = w.heap.size + 1 := by show (w.alloc o).heap.size = _; simp
    omega
  have hnb : (Value.slice ea E.length ec).ownBlock ≠ some b := fun e => by
    obtain ⟨cur, hc⟩ := row_typeD h3 e
    rw [hb] at hc
    injection hc with hc
    injection hc with _ e2 _
    exact absurd e2 (by decide)
  have hgb : gg ≠ b := fun e => by
    rcases hat with h | h
    · exact hnb (by rw [h, e])
    · omega
  have hb5 : w5.heap[b]? = some (.cells #[.slice na N.length nc, .slice ea E.length ec, .int .i64 nx] 25 (0, 0)) := (hsame b hbl hnb).trans hb
  have hne : ∀ i, (A i ∨ A1 i) → i ≠ gg := fun i hi e => by
    rcases hat with h | h
    · rcases hi with hi | hi
      · exact hA.nE i hi (by rw [h, e])
      · exact hA1.nE i hi (by rw [h, e])
    · rcases hi with hi | hi
      · have := hA.lt i hi
        omega
      · have := hA1.lt i hi
        omega
  have hl : (E ++ [X]).length = E.length + 1 := by simp
  refine ⟨hB, fun i => A i ∨ A1 i, na, nc, some ⟨gg, 0, none⟩, cap, PN, PE ++ [y], ?_, ?_, ?_, ?_, ?_, ?_⟩
  · have := set_here hb5 1 (.slice (some ⟨gg, 0, none⟩) (E.length + 1) cap)
    rw [hl]
    simpa using this
  · exact row_keep h1 fun g hg hgl => hsame2 g hgl (fun e => rows_apart h3 h1 (by decide) e hg) (fun e => by
      obtain ⟨cur, hc⟩ := row_typeD h1 hg
      rw [e, hb] at hc
      injection hc with hc
      injection hc with _ e2 _
      exact absurd e2 (by decide))
  · exact h2.mono fun p x _ _ hp => hp.kept ⟨hss, fun j hj hl => ⟨.inl hj, hsame2 j hl (hA.nE j hj) (hA.ne j hj)⟩⟩
  · rw [hl, rowX_snoc]
    exact row_keep hown fun g hg _ => by
      have e2 : gg = g := by simpa [Value.ownBlock] using hg
      exact Below.heap_setCell _ _ _ _ (by show g ≠ b; rw [← e2]; exact hgb)
  · exact (h4.mono fun p x _ _ hp => hp.kept ⟨hss, fun j hj hl => ⟨.inl hj, hsame2 j hl (hA.nE j hj) (hA.ne j hj)⟩⟩).snoc (hy.kept ⟨hss, fun j hj hl => ⟨.inr hj, hsame2 j hl (hA1.nE j hj) (hA1.ne j hj)⟩⟩)
  · refine ⟨fun i hi => hi.elim (hA.low i) (hA1.low i), fun i hi => Nat.lt_of_lt_of_le (hi.elim (hA.lt i) (hA1.lt i)) hss, fun i hi => hi.elim (hA.ne i) (hA1.ne i), fun i hi => hi.elim (hA.nn i) (hA1.nn i), fun i hi e => ?_⟩
    have e2 : gg = i := by simpa [Value.ownBlock] using e
    exact hne i hi e2.symm

/-- A graph that has been read may be read. -/
theorem GrA.reads {B b : Nat} {N : List AN} {E : List AE} {nx : Int} {w : World} (h : GrA B b N E nx w) : ∃ na nc ea ec, w.heap[b]? = some (.cells #[.slice na N.length nc, .slice ea E.length ec, .int .i64 nx] 25 (0, 0)) ∧ NsAt w N na N.length ∧ EsAt w E ea E.length := by
  obtain ⟨hB, A, na, nc, ea, ec, PN, PE, hb, h1, h2, h3, h4, hA⟩ := h
  have e1 : PN.length = N.length := h2.1
  have e3 : PE.length = E.length := h4.1
  refine ⟨na, nc, ea, ec, hb, ⟨PN, ?_, h2.mono fun p x _ _ hp => hp.reads⟩, ⟨PE, ?_, h4.mono fun p x _ _ hp => hp.reads⟩⟩
  · have := h1
    rw [← e1] at this ⊢
    exact row_nodes this
  · have := h3
    rw [← e3] at this ⊢
    exact row_edges this fun p hp => by
      obtain ⟨i, hi⟩ := List.getElem?_of_mem hp
      obtain ⟨x, _, hx⟩ := h4.left hi
      exact hx.szT

/-- .. wherever what lies from its first block on stays. -/
theorem GrA.reads2 {B b : Nat} {N : List AN} {E : List AE} {nx : Int} {w : World} (h : GrA B b N E nx w) : ∃ na nc ea ec, w.heap[b]? = some (.cells #[.slice na N.length nc, .slice ea E.length ec, .int .i64 nx] 25 (0, 0)) ∧ ∀ w' : World, w.heap.size ≤ w'.heap.size → (∀ j, B ≤ j → j < w.heap.size → w'.heap[j]? = w.heap[j]?) → NsAt w' N na N.length ∧ EsAt w' E ea E.length := by
  obtain ⟨hB, A, na, nc, ea, ec, PN, PE, hb, h1, h2, h3, h4, hA⟩ := h
  have e1 : PN.length = N.length := h2.1
  have e3 : PE.length = E.length := h4.1
  refine ⟨na, nc, ea, ec, hb, fun w' hs hk => ?_⟩
  have kk : Keep A A w w' := ⟨hs, fun i hi hl => ⟨hi, hk i (hA.low i hi) hl⟩⟩
  have k1 := row_keptC h1 hk
  have k3 := row_keptC h3 hk
  have k2 := h2.mono fun p x _ _ hp => hp.kept kk
  have k4 := h4.mono fun p x _ _ hp => hp.kept kk
  refine ⟨⟨PN, ?_, k2.mono fun p x _ _ hp => hp.reads⟩, ⟨PE, ?_, k4.mono fun p x _ _ hp => hp.reads⟩⟩
  · have := k1
    rw [← e1] at this ⊢
    exact row_nodes this
  · have := k3
    rw [← e3] at this ⊢
    exact row_edges this fun p hp => by
      obtain ⟨i, hi⟩ := List.getElem?_of_mem hp
      obtain ⟨x, _, hx⟩ := k4.left hi
      exact hx.szT

set_option linter.unusedSimpArgs false

theorem endP_58 {P : List AP} (h : ∀ p ∈ P, (58 : UInt8) ∉ bS p.name) : ([32, 58] : List UInt8).isPrefixOf (endP P) = false := by
  cases P with
  | nil => rfl
  | cons p P =>
    have hp := h p (List.mem_cons_self ..)
    have e : endP (p :: P) = 32 :: (bS p.name ++ 61 :: (prT p.t ++ endP P)) := by simp [endP]
    rw [e]
    cases hn : bS p.name with
    | nil => rfl
    | cons c l =>
      have hc : c ≠ 58 := fun q => hp (by rw [hn, q]; exact List.mem_cons_self ..)
      have hc2 : ((58 : UInt8) == c) = false := by simpa using fun q : (58 : UInt8) = c => hc q.symm
      show ((32 : UInt8) == 32 && ((58 : UInt8) == c && _)) = false
      rw [hc2]
      rfl

/-- What a node must be to be read. -/
structure RdN (X : AN) : Prop where
  id : I64 X.id
  l4 : X.labs.length ≤ 4
  lab : ∀ s ∈ X.labs, (32 : UInt8) ∉ bS s ∧ s.size ≤ 12
  p6 : X.props.length ≤ 6
  prop : ∀ p ∈ X.props, RdP p
  c58 : ∀ p ∈ X.props, (58 : UInt8) ∉ bS p.name
  fit : fitP X.props = true

theorem RdN.long {X : AN} (h : RdN X) : (labsL X.labs ++ endP X.props).length ≤ 30000 := by
  have h1 := labs_size fun s hs => (h.lab s hs).2
  have h2 := endP_fit h.fit fun p hp => (h.prop p hp).2.2.1
  have h3 := Nat.mul_le_mul_right 14 h.l4
  have h4 := Nat.mul_le_mul_right 4014 h.p6
  rw [List.length_append]
  omega

/-- A node that is being read. -/
def NdSt (bn : Nat) (R : World) (X : AN) : Nat → World → Prop
  | 0, W => W.heap[bn]? = some (.cells #[.int .i64 0, .slice none 0 0, .slice none 0 0] 49 (0, 0))
  | 1, W => W.heap[bn]? = some (.cells #[.int .i64 0, .slice none 0 0, .slice none 0 0] 49 (0, 0))
  | 2, W => W.heap[bn]? = some (.cells #[.int .i64 X.id, .slice none 0 0, .slice none 0 0] 49 (0, 0))
  | 3, W => ∃ a c, W.heap[bn]? = some (.cells #[.int .i64 X.id, .slice a X.labs.length c, .slice none 0 0] 49 (0, 0)) ∧ W.ownsRow R.heap.size 9 1 (.slice a X.labs.length c) X.labs.length (strs X.labs)
  | _, W => ∃ y : Nd, W.heap[bn]? = some (.cells #[.int .i64 y.id, .slice y.la y.ll y.lc, .slice y.pa y.pl y.pc] 49 (0, 0)) ∧ NdOwn (fun i => R.heap.size ≤ i ∧ i < W.heap.size) W y X

def txN (X : AN) : Nat → List UInt8
  | 0 => wNode ++ ([32] ++ (Lib.itoa X.id ++ (labsL X.labs ++ endP X.props)))
  | 1 => [32] ++ (Lib.itoa X.id ++ (labsL X.labs ++ endP X.props))
  | 2 => labsL X.labs ++ endP X.props
  | 3 => endP X.props
  | _ => []

def fnN : Nat → FuncId
  | 0 => 94
  | 1 => 96
  | 2 => 99
  | _ => 100

def four (q1 q2 q3 q4 : Nat) : Nat → Nat
  | 0 => q1
  | 1 => q2
  | 2 => q3
  | _ => q4

theorem own_made {B n : Nat} {t : TypeId} {size : Nat} {v : Value} {xs : List Value} {w : World} (h : w.ownsRow B t size v n xs) : ∀ g, v.ownBlock = some g → B ≤ g ∧ g < w.heap.size := fun g hg => h.lt g hg

set_option maxHeartbeats 4000000 in
theorem node_reads (B0 bn q1 q2 q3 q4 : Nat) (X : AN) (u : World) (hX : RdN X) (hB : u.heap[bn]? = some (.cells #[.int .i64 0, .slice none 0 0, .slice none 0 0] 49 (0, 0))) (h1 : u.heap[q1]? = some (.cells #[.string (bt wNode)] 9 (0, 0))) (h2 : u.heap[q2]? = some (.cells #[.pointer (some ⟨bn, 0, none⟩)] 129 (0, 0))) (h3 : u.heap[q3]? = some (.cells #[.pointer (some ⟨bn, 1, none⟩)] 131 (0, 0))) (h4 : u.heap[q4]? = some (.cells #[.pointer (some ⟨bn, 2, none⟩)] 133 (0, 0))) (hB0 : B0 ≤ u.heap.size) (hBb : B0 ≤ bn) (hT : Tabs B0 u) (hP : Pow10 B0 u) :
    Calls Tryz.prog 65 #[.string (bt (txN X 0)), .slice (some ⟨u.heap.size, 0, none⟩) 4 4] (u.alloc (.cells #[.func (.func 94) #[] #[.pointer (some ⟨q1, 0, none⟩)], .func (.func 96) #[] #[.pointer (some ⟨q2, 0, none⟩)], .func (.func 99) #[] #[.pointer (some ⟨q3, 0, none⟩)], .func (.func 100) #[] #[.pointer (some ⟨q4, 0, none⟩)]] 126)) fun e w' => e = .returned (.bool true) ∧ KeepBut bn u w' ∧ ∃ y : Nd, w'.heap[bn]? = some (.cells #[.int .i64 y.id, .slice y.la y.ll y.lc, .slice y.pa y.pl y.pc] 49 (0, 0)) ∧ NdOwn (fun i => u.heap.size ≤ i ∧ i < w'.heap.size) w' y X := by
  have hbl := lt_blkX hB
  have hn1 : q1 ≠ bn := fun e => by rw [e, hB] at h1; injection h1 with h1; injection h1 with _ h _; exact absurd h (by decide)
  have hn2 : q2 ≠ bn := fun e => by rw [e, hB] at h2; injection h2 with h2; injection h2 with _ h _; exact absurd h (by decide)
  have hn3 : q3 ≠ bn := fun e => by rw [e, hB] at h3; injection h3 with h3; injection h3 with _ h _; exact absurd h (by decide)
  have hn4 : q4 ≠ bn := fun e => by rw [e, hB] at h4; injection h4 with h4; injection h4 with _ h _; exact absurd h (by decide)
  obtain ⟨cs, hcs⟩ : ∃ cs : Array Value, cs = #[.func (.func 94) #[] #[.pointer (some ⟨q1, 0, none⟩)], .func (.func 96) #[] #[.pointer (some ⟨q2, 0, none⟩)], .func (.func 99) #[] #[.pointer (some ⟨q3, 0, none⟩)], .func (.func 100) #[] #[.pointer (some ⟨q4, 0, none⟩)]] := ⟨_, rfl⟩
  rw [← hcs]
  obtain ⟨R, hR⟩ : ∃ R, R = u.alloc (.cells cs 126) := ⟨_, rfl⟩
  have kR : Below u.heap.size u R := by rw [hR]; exact (Below.refl _ _).alloc (Nat.le_refl _) _
  have hrow : R.heap[u.heap.size]? = some (.cells cs 126 (0, 0)) := by rw [hR]; exact alloc_new u _
  rw [← hR]
  have hgb : u.heap.size ≠ bn := by omega
  have hRu : u.heap.size ≤ R.heap.size := kR.size
  have keep : ∀ {W : World} (h : KeepBut bn R W) {k : Nat} {cs : Array Value} {t : TypeId}, R.heap[k]? = some (.cells cs t (0, 0)) → k ≠ bn → W.heap[k]? = some (.cells cs t (0, 0)) := fun h k cs t hk hn => (h.block (lt_blkX hk) hn).trans hk
  have r1 := below_cellsX kR h1
  have r2 := below_cellsX kR h2
  have r3 := below_cellsX kR h3
  have r4 := below_cellsX kR h4
  have rB := below_cellsX kR hB
  have hlong := hX.long
  have h := reads_ok 4 u.heap.size (txN X) fnN (four q1 q2 q3 q4) (fun j W => KeepBut bn R W ∧ NdSt bn R X j W) R (by omega)
    (fun i j W hi hI => by
      have hw := keep hI.1 hrow hgb
      refine ⟨?_, lt_blkX hw⟩
      rw [cell_of hw i, hcs]
      match i, hi with
      | 0, _ => rfl
      | 1, _ => rfl
      | 2, _ => rfl
      | 3, _ => rfl)
    (fun i hi => by
      match i, hi with
      | 0, _ => exact ent_word
      | 1, _ => exact ent_number
      | 2, _ => exact ent_labels
      | 3, _ => exact ent_properties)
    (fun i W hi hI => by
      have kb : Below B0 u W := (kR.mono hB0).trans (hI.1.1.mono hBb)
      have hB0W := Nat.le_trans hB0 kb.size
      match i, hi with
      | 0, _ =>
        have hw := keep hI.1 r1 hn1
        have hb : W.heap[bn]? = _ := hI.2
        exact (word_hit q1 wNode _ W (cell_of hw 0)).mono fun e w' ⟨e1, k1⟩ => ⟨e1, hI.1.trans (KeepBut.of_below k1 (Nat.le_of_lt (lt_blkX hb))), below_cellsX k1 hb⟩
      | 1, _ =>
        have hw := keep hI.1 r2 hn2
        have hb : W.heap[bn]? = some (.cells #[.int .i64 0, .slice none 0 0, .slice none 0 0] 49 (0, 0)) := hI.2
        exact (number_hit B0 q2 bn 0 _ _ _ _ (.int .i64 0) X.id (labsL X.labs ++ endP X.props) W hX.id (labs_tail (endP_tail _)) (by omega) hw rfl hb rfl hn2 hBb hB0W (hP.below kb)).mono fun e w' ⟨e1, p1⟩ => ⟨e1, hI.1.trans (p1.but (lt_blkX hb)), p1.here hb⟩
      | 2, _ =>
        have hw := keep hI.1 r3 hn3
        have hb : W.heap[bn]? = some (.cells #[.int .i64 X.id, .slice none 0 0, .slice none 0 0] 49 (0, 0)) := hI.2
        refine (labels_hit q3 bn 1 _ _ _ _ X.labs (endP X.props) W hX.lab (by have := hX.l4; omega) (endP_58 hX.c58) (endP_tail _) (by rw [List.length_append] at hlong; omega) hw rfl hb rfl hn3 (by decide) (by decide)).mono ?_
        rintro e w' ⟨e1, k1, a, c, hb', hown⟩
        exact ⟨e1, hI.1.trans k1, a, c, hb', row_low hown hI.1.1.size⟩
      | 3, _ =>
        have hw := keep hI.1 r4 hn4
        obtain ⟨a, c, hb, hrl⟩ := hI.2
        refine (properties_hit B0 q4 bn 2 _ _ _ _ X.props W hX.p6 hX.prop hX.fit hw rfl hb rfl hn4 (by decide) (by decide) hB0W hBb (hT.below kb) (hP.below kb)).mono ?_
        rintro e w' ⟨e1, k1, a', c', PP, hb', hrp, hpp⟩
        have hRW : R.heap.size ≤ W.heap.size := hI.1.1.size
        have hgl : ∀ g, (Value.slice a X.labs.length c).ownBlock = some g → R.heap.size ≤ g ∧ g < W.heap.size := own_made hrl
        have hgp : ∀ g, (Value.slice a' X.props.length c').ownBlock = some g → W.heap.size ≤ g ∧ g < w'.heap.size := own_made hrp
        have hlb : ∀ g, (Value.slice a X.labs.length c).ownBlock = some g → g ≠ bn := fun g hg e => by
          obtain ⟨cur, hc⟩ := row_typeD hrl hg
          rw [e, hb] at hc
          injection hc with hc
          injection hc with _ e2 _
          exact absurd e2 (by decide)
        have hpl : PP.length = X.props.length := hpp.1
        refine ⟨e1, hI.1.trans k1, { id := X.id, labs := X.labs, la := a, ll := X.labs.length, lc := c, props := PP, pa := a', pl := X.props.length, pc := c' }, hb', ?_⟩
        exact { id := rfl, labs := rfl
                rowL := row_low (row_keep hrl fun g hg hgl2 => k1.block hgl2 (hlb g hg)) (Nat.zero_le _)
                inL := fun g hg => ⟨(hgl g hg).1, Nat.lt_of_lt_of_le (hgl g hg).2 k1.1.size⟩
                szL := fun s hs => by have := (hX.lab s hs).2; omega
                rowP := by
                  have := row_low hrp (Nat.zero_le _)
                  rw [← hpl] at this ⊢
                  exact this
                inP := fun g hg => ⟨⟨Nat.le_trans hRW (hgp g hg).1, (hgp g hg).2⟩, fun e => by
                  have h5 := (hgl g e).2
                  have h6 := (hgp g hg).1
                  omega⟩
                props := hpp.mono fun p x _ _ hp => hp.kept ⟨Nat.le_refl _, fun i hi hl => ⟨⟨⟨Nat.le_trans hRW hi.1, hl⟩, fun e => by
                  have h5 := (hgl i e).2
                  have h6 := hi.1
                  omega, hi.2⟩, rfl⟩⟩ })
    rfl ⟨KeepBut.refl _ _, rB⟩
  refine h.mono fun e w' ⟨e1, k1, y, hb, hy⟩ => ⟨e1, (KeepBut.of_below kR (Nat.le_of_lt hbl)).trans k1, y, hb, hy.kept ⟨Nat.le_refl _, fun i hi hl => ⟨⟨Nat.le_trans hRu hi.1, hi.2⟩, rfl⟩⟩⟩

set_option linter.unusedSimpArgs false

theorem info_nodeC : ∃ i z, Tryz.prog.info? 49 = some i ∧ i.zero = some z ∧ i.size = 3 ∧ i.bytes = 56 ∧ z.cells.size = 3 := by
  have h0 : (Tryz.prog.info? 49).map (fun i => (i.zero, i.size, i.bytes)) = some (some (.agg #[.int .i64 0, .slice none 0 0, .slice none 0 0]), 3, 56) := by kernel_rfl
  obtain ⟨i, h, e⟩ := Option.map_eq_some_iff.1 h0
  simp only [Prod.mk.injEq] at e
  exact ⟨i, _, h, e.1, e.2.1, e.2.2, rfl⟩

set_option maxHeartbeats 8000000 in
set_option maxRecDepth 100000 in
theorem node_line (B0 B b : Nat) (N : List AN) (nx : Int) (X : AN) (w : World) (hX : RdN X) (hG : GrA B b N [] nx w) (hN : N.length ≤ 100) (hBw : B ≤ w.heap.size) (hB0 : B0 ≤ B) (hT : Tabs B0 w) (hP : Pow10 B0 w) :
    Calls Tryz.prog 41 #[.pointer (some ⟨b, 0, none⟩), .string (bt (txN X 0)), .bool false] w fun e w' => e = .returned (.bool true) ∧ GrA B b (N ++ [X]) [] nx w' ∧ Below B w w' := by
  obtain ⟨hBb, A, na, nc, ea, ec, PN, PE, hb, h1, h2, h3, h4, hA⟩ := hG
  obtain ⟨i0, z0, hif, hz0, hz1, hz2, hz3⟩ := info_nodeC
  have hbl := lt_blkX hb
  have HR : Hid (∀ (u : World) (q1 q2 q3 q4 : Nat), Below w.heap.size ((w.alloc (.cells #[.int .i64 0, .slice none 0 0, .slice none 0 0] 49)).alloc (.cells #[.int .i64 0, .int .i64 0, .int .i64 0, .string ⟨#[]⟩, .slice none 0 0] 53)) u → u.heap[w.heap.size]? = some (.cells #[.int .i64 0, .slice none 0 0, .slice none 0 0] 49 (0, 0)) → u.heap[q1]? = some (.cells #[.string ⟨#[110, 111, 100, 101]⟩] 9 (0, 0)) → u.heap[q2]? = some (.cells #[.pointer (some ⟨w.heap.size, 0, none⟩)] 129 (0, 0)) → u.heap[q3]? = some (.cells #[.pointer (some ⟨w.heap.size, 1, none⟩)] 131 (0, 0)) → u.heap[q4]? = some (.cells #[.pointer (some ⟨w.heap.size, 2, none⟩)] 133 (0, 0)) →
      Calls Tryz.prog 65 #[.string (bt (txN X 0)), .slice (some ⟨u.heap.size, 0, none⟩) 4 4] (u.alloc (.cells #[.func (.func 94) #[] #[.pointer (some ⟨q1, 0, none⟩)], .func (.func 96) #[] #[.pointer (some ⟨q2, 0, none⟩)], .func (.func 99) #[] #[.pointer (some ⟨q3, 0, none⟩)], .func (.func 100) #[] #[.pointer (some ⟨q4, 0, none⟩)]] 126)) fun e w' => e = .returned (.bool true) ∧ Below w.heap.size w w' ∧ ∃ y : Nd, w'.heap[w.heap.size]? = some (.cells #[.int .i64 y.id, .slice y.la y.ll y.lc, .slice y.pa y.pl y.pc] 49 (0, 0)) ∧ NdOwn (fun i => w.heap.size < i ∧ i < w'.heap.size) w' y X) := fun u q1 q2 q3 q4 k hbn g1 g2 g3 g4 => by
    have ka : Below w.heap.size w ((w.alloc (.cells #[.int .i64 0, .slice none 0 0, .slice none 0 0] 49)).alloc (.cells #[.int .i64 0, .int .i64 0, .int .i64 0, .string ⟨#[]⟩, .slice none 0 0] 53)) := ((Below.refl _ _).alloc (Nat.le_refl _) _).alloc (by simp) _
    have ku := ka.trans k
    have hul := lt_blkX hbn
    refine (node_reads B0 w.heap.size q1 q2 q3 q4 X u hX hbn g1 g2 g3 g4 (by omega) (by omega) (hT.below (ku.mono (by omega))) (hP.below (ku.mono (by omega)))).mono ?_
    rintro e w' ⟨e1, k1, y, hy1, hy2⟩
    exact ⟨e1, ku.trans k1.1, y, hy1, hy2.kept ⟨Nat.le_refl _, fun i hi _ => ⟨⟨by omega, hi.2⟩, rfl⟩⟩⟩
  have W0b : Below w.heap.size w ((w.alloc (.cells #[.int .i64 0, .slice none 0 0, .slice none 0 0] 49)).alloc (.cells #[.int .i64 0, .int .i64 0, .int .i64 0, .string ⟨#[]⟩, .slice none 0 0] 53)) := ((Below.refl _ _).alloc (Nat.le_refl _) _).alloc (by simp) _
  have HW0 := toHid W0b
  have HBN : Hid (((w.alloc (.cells #[.int .i64 0, .slice none 0 0, .slice none 0 0] 49)).alloc (.cells #[.int .i64 0, .int .i64 0, .int .i64 0, .string ⟨#[]⟩, .slice none 0 0] 53)).heap[w.heap.size]? = some (.cells #[.int .i64 0, .slice none 0 0, .slice none 0 0] 49 (0, 0))) := bk_alX (bk_newX rfl)
  have HBE := toHid (below_cellsX W0b hb)
  have HB1 := toHid hb
  have H1 := toHid h1
  have H2 := toHid h2
  have H3 := toHid h3
  have H4 := toHid h4
  have HA := toHid hA
  obtain ⟨n, hn⟩ : ∃ n, n = N.length := ⟨_, rfl⟩
  rw [← hn] at HB1 H1 HA HBE hN
  have HN := toHid hn
  clear hb h1 h2 h3 h4 hA W0b hT hP hX hn
  have hbn : b ≠ w.heap.size := by omega
  go_enter Tryz.func41, Tryz.ntmps41
  generalize bt (txN X 0) = L0 at HR ⊢
  go_upto_region 6 with fail
  generalize (w.alloc (.cells #[.int .i64 0, .slice none 0 0, .slice none 0 0] 49)).alloc (.cells #[.int .i64 0, .int .i64 0, .int .i64 0, .string ⟨#[]⟩, .slice none 0 0] 53) = W0 at HR HW0 HBN HBE ⊢
  have x1 := cell_of HBE.out 1
  simp at x1
  have hbl0 := lt_blkX HBE.out
  go_wp2_with fail
  refine (made_word _ _).mono ?_
  rintro e u1 ⟨⟨q1, rfl, hq1l, hq1⟩, j1⟩
  have HJ1 : Hid (Below w.heap.size W0 u1) := j1.mono HW0.out.size
  have HQ1 := toHid hq1
  have HN1 := toHid (below_cellsX j1 HBN.out)
  clear hq1 j1
  go_wp2_with fail
  refine (made_number _ _).mono ?_
  rintro e u2 ⟨⟨q2, rfl, hq2l, hq2⟩, j2⟩
  have HJ2 : Hid (Below w.heap.size W0 u2) := HJ1.out.trans (j2.mono (Nat.le_trans HW0.out.size (Nat.le_trans (by have := HJ1.out.size; omega) (Nat.le_refl _))))
  have HQ1b := toHid (below_cellsX j2 HQ1.out)
  have HQ2 := toHid hq2
  have HN2 := toHid (below_cellsX j2 HN1.out)
  clear hq2 j2
  go_wp2_with fail
  refine (made_labels _ _).mono ?_
  rintro e u3 ⟨⟨q3, rfl, hq3l, hq3⟩, j3⟩
  have HJ3 : Hid (Below w.heap.size W0 u3) := HJ2.out.trans (j3.mono (Nat.le_trans HW0.out.size (Nat.le_trans (by have := HJ2.out.size; omega) (Nat.le_refl _))))
  have HQ1c := toHid (below_cellsX j3 HQ1b.out)
  have HQ2c := toHid (below_cellsX j3 HQ2.out)
  have HQ3 := toHid hq3
  have HN3 := toHid (below_cellsX j3 HN2.out)
  clear hq3 j3
  go_wp2_with fail
  refine (made_properties _ _).mono ?_
  rintro e u4 ⟨⟨q4, rfl, hq4l, hq4⟩, j4⟩
  have HRR := toHid (HR.out u4 q1 q2 q3 q4 (HJ3.out.trans (j4.mono (Nat.le_trans HW0.out.size (Nat.le_trans (by have := HJ3.out.size; omega) (Nat.le_refl _))))) (below_cellsX j4 HN3.out) (below_cellsX j4 HQ1c.out) (below_cellsX j4 HQ2c.out) (below_cellsX j4 HQ3.out) hq4)
  clear hq4 j4 hq1l hq2l hq3l hq4l x1 hbl0
  go_wp2_with fail
  refine HRR.out.mono ?_
  rintro e w1 ⟨rfl, k1, y, hy1, hy2⟩
  have HK1 := toHid k1
  have HY1 := toHid hy1
  have HY2 := toHid hy2
  have HBW := toHid (below_cellsX k1 HB1.out)
  have OW1 := toHid (row_keptC H1.out fun j _ hj => k1.block j hj)
  have hsz1 : w.heap.size ≤ w1.heap.size := k1.size
  clear k1 hy1 hy2 HRR HR
  have y0 := cell_of HY1.out 0
  have y1 := cell_of HY1.out 1
  have y2 := cell_of HY1.out 2
  have x0 := cell_of HBW.out 0
  have f0 := free_of HBW.out 0
  simp at y0 y1 y2 x0
  have hyl := lt_blkX HY1.out
  have hbl1 := lt_blkX HBW.out
  have hBm : n + 1 ≤ maxLen := by unfold maxLen; omega
  have hBy : (n + 1) * 56 ≤ 140737488355328 := by omega
  have HOB : Hid (∀ g, (Value.slice na n nc).ownBlock = some g → g ≠ b ∧ g < w.heap.size) := fun g hg => ⟨fun e => by
      obtain ⟨cur, hc⟩ := row_typeD OW1.out hg
      rw [e, HBW.out] at hc
      injection hc with hc
      injection hc with _ e2 _
      exact absurd e2 (by decide), (H1.out.lt g hg).2⟩
  go_upto_region 7 with fail
  go_region_law (first
    | (refine step_append_lies _ (by rfl) _ _ _ (by rfl) B 49 i0 _ 3 56 Tryz.underlying22 hif hz0 hz1 hz2 hz3 (by omega) (.slice na n nc) n (rowN PN) (by rfl) (OW1.out.alloc _) ⟨w1.heap.size, 0, none⟩ 1 1 [.int .i64 y.id, .slice y.la y.ll y.lc, .slice y.pa y.pl y.pc] (by rfl) (by rfl) (World.news_of_block (cs := #[.int .i64 y.id, .slice y.la y.ll y.lc, .slice y.pa y.pl y.pc]) (t := 49) (fr := (0, 0)) (alloc_new w1 _)) (by simp [Value.oneCell']) (by omega) hBm hBy (by simp; omega) (w1.heap.size + 1) (by simp) ?_; intro gg cap w5 hown5 hgrow hat5 hlt5
       have hb5 := (hgrow.block b (by simp; omega) (fun e => (HOB.out b e.symm).1 rfl)).trans ((Below.heap_alloc w1 _ b hbl1).trans HBW.out)
       have d0 := cell_of hb5 0
       have f5 := free_of hb5 0
       simp at d0
       have hbl5 := lt_blkX hb5))
  all_goals
    go_wp2_with fail
    go_ret
    refine ⟨rfl, ?_, ?_⟩
    · have hn := HN.out
      have hbw := HBW.out
      have how := OW1.out
      have hha := HA.out
      have hob := HOB.out
      rw [hn] at hgrow hown5 hat5 hbw how hha hob ⊢
      refine GrA.putN (A1 := fun i => w.heap.size < i ∧ i < w1.heap.size) hBb hbw how (H2.out.mono fun p x _ _ hp => hp.kept (Keep.of_below HK1.out _)) (row_keptC H3.out fun j _ hj => HK1.out.block j hj) (H4.out.mono fun p x _ _ hp => hp.kept (Keep.of_below HK1.out _)) ⟨hha.low, fun i hi => Nat.lt_of_lt_of_le (hha.lt i hi) hsz1, hha.ne, hha.nn, hha.nE⟩ ⟨fun i hi => by omega, fun i hi => hi.2, fun i hi => by omega, fun i hi e => ?_, fun i hi e => ?_⟩ HY2.out _ hgrow hown5 hat5
      · have := (hob i e).2
        omega
      · have := (H3.out.lt i e).2
        omega
    · exact ((HK1.out.mono hBw).trans ((((Below.refl _ _).alloc (Nat.le_trans hBw hsz1) _).drew).grown hgrow (by simp; omega) (fun k hk => (OW1.out.lt k hk).1))).setCell (p := ⟨b, 0, none⟩) hBb _
end Go.Proofs.YthbbapimedlocaaGreatDoor
