/-
  What is proved here: what the texts HWork, HNum, HNumber, HPutN, HBox, HPutE, HInv prove, in one text.
-/
import Derived.Test.YtakpifphpojbjaaGreatDoorHGraph
import Derived.Test.YtakpifphpojbjaaGreatDoorGSlices
import Derived.Orders
import Derived.RegionTactic
namespace Go.Proofs.YtakpifphpojbjaaGreatDoor
open Go.RowKit
set_option linter.unusedVariables false

/-- What is being changed, by what it holds. -/
structure WS where
  N : List AN
  E : List AE
  next : Int
  made : List Int



/-- All blocks that were there, but those that O allows, are as they were. -/
structure Rest (O : Nat → Prop) (w w' : World) : Prop where
  os : w'.os = w.os
  tape : w'.tape = w.tape
  output : w'.output = w.output
  size : w.heap.size ≤ w'.heap.size
  block : ∀ i, i < w.heap.size → ¬ O i → w'.heap[i]? = w.heap[i]?

theorem Rest.refl (O : Nat → Prop) (w : World) : Rest O w w := ⟨rfl, rfl, rfl, Nat.le_refl _, fun _ _ _ => rfl⟩

theorem Rest.of_below {O : Nat → Prop} {w w' : World} (k : Below w.heap.size w w') : Rest O w w' := ⟨k.os, k.tape, k.output, k.size, fun i hi _ => k.block i hi⟩

theorem Rest.trans {O O' : Nat → Prop} {w w1 w2 : World} (h : Rest O w w1) (k : Rest O' w1 w2) (hO : ∀ i, i < w.heap.size → O' i → O i) : Rest O w w2 :=
  ⟨k.os.trans h.os, k.tape.trans h.tape, k.output.trans h.output, Nat.le_trans h.size k.size, fun i hi hn => (k.block i (Nat.lt_of_lt_of_le hi h.size) (fun q => hn (hO i hi q))).trans (h.block i hi hn)⟩

theorem Rest.below {O : Nat → Prop} {w w' : World} (h : Rest O w w') {B : Nat} (hB : B ≤ w.heap.size) (hO : ∀ i, O i → B ≤ i) : Below B w w' :=
  ⟨h.os, h.tape, h.output, h.size, fun i hi => h.block i (by omega) (fun q => by have := hO i q; omega)⟩

theorem Rest.alloc {O : Nat → Prop} {w u : World} (h : Rest O w u) (o : Obj) : Rest O w (u.alloc o) :=
  ⟨h.os, h.tape, h.output, Nat.le_trans h.size (by simp), fun i hi hn => (Below.heap_alloc u o i (Nat.lt_of_lt_of_le hi h.size)).trans (h.block i hi hn)⟩

theorem Rest.set {O : Nat → Prop} {w u : World} (h : Rest O w u) (p : Addr) (hp : w.heap.size ≤ p.block) (v : Value) : Rest O w (u.setCell p v) :=
  ⟨h.os, h.tape, h.output, Nat.le_trans h.size (by simp [World.setCell]), fun i hi hn => (Below.heap_setCell u p v i (by omega)).trans (h.block i hi hn)⟩

theorem cell_same {w w' : World} {b : Nat} (h : w'.heap[b]? = w.heap[b]?) (o : Nat) : w'.cell? ⟨b, o, none⟩ = w.cell? ⟨b, o, none⟩ := World.cell?_of_block (w := w) (a := ⟨b, o, none⟩) h

/-- Where a work lies: its own block, and the blocks of its nodes, its edges and its made numbers, all apart. -/
structure WorkAt (O : Nat → Prop) (w : World) (b : Nat) (S : WS) (na : Option Addr) (nc : Nat) (ea : Option Addr) (ec : Nat) (ma : Option Addr) (mc : Nat) (PN PE PM : Nat → Prop) : Prop where
  blk : w.heap[b]? = some (.cells #[.slice na S.N.length nc, .slice ea S.E.length ec, .int .i64 S.next, .slice ma S.made.length mc] 69 (0, 0))
  ob : O b
  lt : ∀ i, O i → i < w.heap.size
  pn : ∀ i, PN i → O i ∧ i ≠ b
  pe : ∀ i, PE i → O i ∧ i ≠ b ∧ ¬ PN i
  pm : ∀ i, PM i → O i ∧ i ≠ b ∧ ¬ PN i ∧ ¬ PE i
  ns : NsOwn PN w S.N (.slice na S.N.length nc)
  es : EsOwn PE w S.E (.slice ea S.E.length ec)
  ms : OwnB PM (.slice ma S.made.length mc)
  mr : w.ownsRow 0 3 1 (.slice ma S.made.length mc) S.made.length (ints S.made)

def WorkIn (O : Nat → Prop) (w : World) (b : Nat) (S : WS) : Prop := ∃ na nc ea ec ma mc PN PE PM, WorkAt O w b S na nc ea ec ma mc PN PE PM

theorem WorkIn.lt {O : Nat → Prop} {w : World} {b : Nat} {S : WS} (h : WorkIn O w b S) : b < w.heap.size := by
  obtain ⟨_, _, _, _, _, _, _, _, _, h⟩ := h
  exact h.lt b h.ob

theorem WorkIn.lts {O : Nat → Prop} {w : World} {b : Nat} {S : WS} (h : WorkIn O w b S) : ∀ i, O i → i < w.heap.size := by
  obtain ⟨_, _, _, _, _, _, _, _, _, h⟩ := h
  exact h.lt

/-- It stays where its blocks stay. -/
theorem WorkIn.kept {O O' : Nat → Prop} {w w' : World} {b : Nat} {S : WS} (h : WorkIn O w b S) (hs : w.heap.size ≤ w'.heap.size) (hk : ∀ i, O i → w'.heap[i]? = w.heap[i]?) (hO : ∀ i, O i → O' i) (hl : ∀ i, O' i → i < w'.heap.size) : WorkIn O' w' b S := by
  obtain ⟨na, nc, ea, ec, ma, mc, PN, PE, PM, h⟩ := h
  exact ⟨na, nc, ea, ec, ma, mc, PN, PE, PM, (hk b h.ob).trans h.blk, hO b h.ob, hl, fun i hi => ⟨hO i (h.pn i hi).1, (h.pn i hi).2⟩, fun i hi => ⟨hO i (h.pe i hi).1, (h.pe i hi).2⟩, fun i hi => ⟨hO i (h.pm i hi).1, (h.pm i hi).2⟩,
    h.ns.kept ⟨hs, fun i hi _ => ⟨hi, hk i (h.pn i hi).1⟩⟩, h.es.kept ⟨hs, fun i hi _ => ⟨hi, hk i (h.pe i hi).1⟩⟩, h.ms, row_keep h.mr fun g hg _ => hk g (h.pm g (h.ms g hg)).1⟩

theorem WorkIn.below {O : Nat → Prop} {w w' : World} {b : Nat} {S : WS} (h : WorkIn O w b S) (k : Below w.heap.size w w') : WorkIn O w' b S :=
  h.kept k.size (fun i hi => k.block i (h.lts i hi)) (fun _ h => h) (fun i hi => Nat.lt_of_lt_of_le (h.lts i hi) k.size)

/-- What is allowed behind a step. -/
def Now (O : Nat → Prop) (w w' : World) : Nat → Prop := fun i => O i ∨ (w.heap.size ≤ i ∧ i < w'.heap.size)

/-- What a step leaves: the work, in what it had and in new blocks; all else as it was. -/
def StepEnd (O : Nat → Prop) (w w' : World) (b : Nat) (S : WS) : Prop := WorkIn (Now O w w') w' b S ∧ Rest O w w'

theorem StepEnd.of_below {O : Nat → Prop} {w w' : World} {b : Nat} {S : WS} (h : WorkIn O w b S) (k : Below w.heap.size w w') : StepEnd O w w' b S :=
  ⟨h.kept k.size (fun i hi => k.block i (h.lts i hi)) (fun _ h => .inl h) (fun i hi => hi.elim (fun q => Nat.lt_of_lt_of_le (h.lts i q) k.size) (fun q => q.2)), Rest.of_below k⟩

/-- Two steps. -/
theorem StepEnd.trans {O : Nat → Prop} {w w1 w2 : World} {b : Nat} {S1 S2 : WS} (h : StepEnd O w w1 b S1) (k : StepEnd (Now O w w1) w1 w2 b S2) : StepEnd O w w2 b S2 := by
  refine ⟨k.1.kept (Nat.le_refl _) (fun _ _ => rfl) (fun i hi => ?_) (fun i hi => ?_), h.2.trans k.2 fun i hi q => q.elim id (fun q => absurd q.1 (by omega))⟩
  · rcases hi with (hi | hi) | hi
    · exact .inl hi
    · exact .inr ⟨hi.1, Nat.lt_of_lt_of_le hi.2 k.2.size⟩
    · exact .inr ⟨Nat.le_trans h.2.size hi.1, hi.2⟩
  · rcases hi with hi | hi
    · exact Nat.lt_of_lt_of_le (h.1.lts i (.inl hi)) k.2.size
    · exact hi.2

/-- A step behind what only makes new blocks. -/
theorem StepEnd.behind {O : Nat → Prop} {w w1 w2 : World} {b : Nat} {S1 S2 : WS} (h : WorkIn O w b S1) (k1 : Below w.heap.size w w1) (k : StepEnd O w1 w2 b S2) : StepEnd O w w2 b S2 := by
  refine ⟨k.1.kept (Nat.le_refl _) (fun _ _ => rfl) (fun i hi => ?_) (fun i hi => ?_), (Rest.of_below k1).trans k.2 fun i hi q => q⟩
  · rcases hi with hi | hi
    · exact .inl hi
    · exact .inr ⟨Nat.le_trans k1.size hi.1, hi.2⟩
  · rcases hi with hi | hi
    · exact Nat.lt_of_lt_of_le (h.lts i hi) (Nat.le_trans k1.size k.2.size)
    · exact hi.2

/-- What only makes new blocks, behind a step. -/
theorem StepEnd.then {O : Nat → Prop} {w w1 w2 : World} {b : Nat} {S : WS} (h : StepEnd O w w1 b S) (k : Below w1.heap.size w1 w2) : StepEnd O w w2 b S := h.trans (StepEnd.of_below h.1 k)

/-- A block that the work hasn't. -/
theorem StepEnd.far {O : Nat → Prop} {w w' : World} {b : Nat} {S : WS} (h : StepEnd O w w' b S) {i : Nat} (hi : i < w.heap.size) (hn : ¬ O i) : w'.heap[i]? = w.heap[i]? := h.2.block i hi hn

theorem infoI0 : (Tryz.prog.info? 3).map (fun i => (i.zero, i.size, i.bytes)) = some (some (.int .i64 0), 1, 8) := by kernel_rfl
theorem infoI : ∃ i, Tryz.prog.info? 3 = some i ∧ i.zero = some (.int .i64 0) ∧ i.size = 1 ∧ i.bytes = 8 := by
  have h := infoI0
  cases hi : Tryz.prog.info? 3 with
  | none => rw [hi] at h; cases h
  | some i => rw [hi] at h; simp at h; exact ⟨i, rfl, h.1, h.2.1, h.2.2⟩

theorem full_any (b : Nat) (nv ev mv : Value) (nx : Int) (w : World) (hb : w.heap[b]? = some (.cells #[nv, ev, .int .i64 nx, mv] 69 (0, 0))) :
    Calls Tryz.prog 115 #[.pointer (some ⟨b, 0, none⟩)] w fun e w' => e = .returned (.bool (decide (1099511627776 ≤ nx))) ∧ w' = w := by
  have x2 := cell_of hb 2
  simp at x2
  go_enter Tryz.func115, Tryz.ntmps115
  go_wp2_with fail
  go_ret
  exact ⟨rfl, rfl⟩

/-- What a number means: itself, or, below 0, what was made. -/
def meantI (made : List Int) (id : Int) : Int := if 0 ≤ id then id else (made[(-1 - id).toNat]?).getD 0

theorem meant_pos (b : Nat) (made : List Int) (id : Int) (w : World) (hid : 0 ≤ id) :
    Calls Tryz.prog 73 #[.pointer (some ⟨b, 0, none⟩), .int .i64 id] w fun e w' => e = .returned (.int .i64 (meantI made id)) ∧ w' = w := by
  have hm : meantI made id = id := by rw [meantI, if_pos hid]
  rw [hm]
  clear hm
  go_enter Tryz.func73, Tryz.ntmps73
  go_wp2_with fail
  go_ret
  exact ⟨rfl, rfl⟩

theorem meant_neg (b : Nat) (nv ev : Value) (nx : Int) (ma : Option Addr) (mc : Nat) (made : List Int) (id : Int) (w : World) (hb : w.heap[b]? = some (.cells #[nv, ev, .int .i64 nx, .slice ma made.length mc] 69 (0, 0))) (hr : w.ownsRow 0 3 1 (.slice ma made.length mc) made.length (ints made)) (hid : id < 0) (hid2 : -9223372036854775808 ≤ id) (hml : made.length ≤ 1000) :
    Calls Tryz.prog 73 #[.pointer (some ⟨b, 0, none⟩), .int .i64 id] w fun e w' => e = .returned (.int .i64 (meantI made id)) ∧ w' = w := by
  obtain ⟨i, hi⟩ : ∃ i : Nat, -1 - id = i := ⟨(-1 - id).toNat, by omega⟩
  have x3 := cell_of hb 3
  simp at x3
  obtain ⟨ml, hml2⟩ : ∃ z, z = made.length := ⟨_, rfl⟩
  rw [← hml2] at x3
  have hw : IntKind.i64.wrap (-1 - id) = (i : Int) := by rw [hi, IntKind.wrap_i64]; omega
  have hng : decide (id ≥ 0) = false := by simp; omega
  by_cases hlt : i < ml
  · obtain ⟨z, hz⟩ : ∃ z, made[i]? = some z := ⟨made[i], List.getElem?_eq_getElem (by omega)⟩
    have hm : meantI made id = z := by
      rw [meantI, if_neg (by omega), hi, Int.toNat_natCast, hz]; rfl
    rw [hm]
    obtain ⟨g, ha, _, _, hg, hc⟩ := row_at hr (by omega)
    have c := hc i (.int .i64 z) (by rw [ints, List.getElem?_map, hz]; rfl)
    rw [Nat.zero_add] at c
    subst ha
    have hil : (i : Int) < ml := by omega
    have HH := toHid hml2
    clear hml2 hm hr hc hb hz hi
    go_enter Tryz.func73, Tryz.ntmps73
    go_wp2_with fail
    go_ret
    exact ⟨rfl, rfl⟩
  · have hm : meantI made id = 0 := by
      rw [meantI, if_neg (by omega), hi, Int.toNat_natCast, List.getElem?_eq_none (by omega)]; rfl
    rw [hm]
    have hil : ¬ ((i : Int) < ml) := by omega
    have HH := toHid hml2
    clear hml2 hm hr hb hi
    go_enter Tryz.func73, Tryz.ntmps73
    go_wp2_with fail
    go_ret
    exact ⟨rfl, rfl⟩

/-- The answer of node: nobody, or where it lies. -/
def WNodeEnd (N : List Nd) (na : Option Addr) (t : Int) (e : Ending) : Prop :=
  (hasN N t = false ∧ e = .returned (.pointer none)) ∨ (hasN N t = true ∧ ∃ (i g o : Nat) (x : Nd), na = some ⟨g, o, none⟩ ∧ e = .returned (.pointer (some ⟨g, o + i * 3, none⟩)) ∧ N[i]? = some x ∧ x.id = t)

set_option maxHeartbeats 2000000 in
theorem wnode_any (N : List Nd) (b : Nat) (na : Option Addr) (nl nc : Nat) (ev mv : Value) (nx t : Int) (w : World) (hb : w.heap[b]? = some (.cells #[.slice na nl nc, ev, .int .i64 nx, mv] 69 (0, 0))) (h : NodesAt w N na nl) (h60 : nl ≤ 60) (hr : Rise (N.map Nd.id)) :
    Calls Tryz.prog 117 #[.pointer (some ⟨b, 0, none⟩), .int .i64 t] w fun e w' => WNodeEnd N na t e ∧ Below w.heap.size w w' := by
  have x0 := cell_of hb 0
  simp at x0
  have hbl : b < w.heap.size := (Array.getElem?_eq_some_iff.1 hb).1
  have HF := toHid (node_find N na nl nc t w h h60 hr)
  have HA := toHid h
  clear h hr
  go_enter Tryz.func117, Tryz.ntmps117
  go_wp2_with fail
  refine HF.out.mono ?_
  rintro e w' ⟨⟨i, f, rfl, hy, hn⟩, k⟩
  have x0' := (k.cell (p := ⟨b, 0, none⟩) hbl).trans x0
  cases f
  · have hn' := hn rfl
    have hf : hasN N t = false := by simp [hasN]; simpa using hn'
    have HFF := toHid hf
    clear hy hn hn' hf
    go_wp2_with fail
    go_ret
    exact ⟨.inl ⟨HFF.out, rfl⟩, k⟩
  · have hy' := hy rfl
    have ht : hasN N t = true := by simp only [hasN, decide_eq_true_eq]; exact List.mem_of_getElem? hy'
    rw [List.getElem?_map] at hy'
    cases hx : N[i]? with
    | none => rw [hx] at hy'; cases hy'
    | some x =>
      rw [hx] at hy'
      have hid : x.id = t := by injection hy'
      have hil : i < nl := by rw [HA.out.1]; exact (List.getElem?_eq_some_iff.1 hx).1
      obtain ⟨g, o, rfl, _, _⟩ := HA.out.2.2 (by omega)
      have HX := toHid (show hasN N t = true ∧ N[i]? = some x ∧ x.id = t from ⟨ht, hx, hid⟩)
      have hil2 : (i : Int) < nl := by omega
      clear hy hn hy' ht hx hid
      go_wp2_with fail
      go_ret
      exact ⟨.inr ⟨HX.out.1, i, g, o, x, rfl, by simp, HX.out.2⟩, k⟩

def WS.numbered (S : WS) : WS := ⟨S.N, S.E, S.next + 1, S.made ++ [S.next]⟩

set_option maxHeartbeats 4000000 in
set_option maxRecDepth 100000 in
theorem number_any (O : Nat → Prop) (b : Nat) (S : WS) (w : World) (h : WorkIn O w b S) (hm : S.made.length ≤ 1000) (hn0 : 0 ≤ S.next) (hn : S.next ≤ 4611686018427387904) :
    Calls Tryz.prog 116 #[.pointer (some ⟨b, 0, none⟩)] w fun e w' => e = .returned (.int .i64 S.next) ∧ StepEnd O w w' b S.numbered := by
  obtain ⟨na, nc, ea, ec, ma, mc, PN, PE, PM, hw⟩ := h
  have HW := toHid hw
  have hlb := hw.lt b hw.ob
  obtain ⟨nx, hnx⟩ : ∃ z, z = S.next := ⟨_, rfl⟩
  obtain ⟨ml, hml⟩ : ∃ z, z = S.made.length := ⟨_, rfl⟩
  have hblk := hw.blk
  rw [← hnx, ← hml] at hblk
  rw [← hnx] at hn hn0
  rw [← hml] at hm
  have hmr := hw.mr
  rw [← hml] at hmr
  have HNX := toHid hnx
  have HML := toHid hml
  rw [← hnx]
  clear hw hnx hml
  obtain ⟨X, hX⟩ : ∃ X, X = w.setCell ⟨b, 2, none⟩ (.int .i64 (nx + 1)) := ⟨_, rfl⟩
  have hXb : X.heap[b]? = some (.cells #[.slice na S.N.length nc, .slice ea S.E.length ec, .int .i64 (nx + 1), .slice ma ml mc] 69 (0, 0)) := by rw [hX, set_here hblk]; rfl
  have hXo : ∀ j, j ≠ b → X.heap[j]? = w.heap[j]? := fun j hj => by rw [hX]; exact Below.heap_setCell w ⟨b, 2, none⟩ _ j hj
  have hXs : X.heap.size = w.heap.size := by rw [hX]; simp [World.setCell]
  have hXf : X.os = w.os ∧ X.tape = w.tape ∧ X.output = w.output := by rw [hX]; exact ⟨rfl, rfl, rfl⟩
  have hXe : w.setCell ⟨b, 2, none⟩ (.int .i64 (nx + 1)) = X := hX.symm
  have x2 := cell_of hblk 2
  have f2 := free_of hblk 2
  have y3 := cell_of hXb 3
  simp at x2 y3
  have hgb : ∀ g, (Value.slice ma ml mc).ownBlock = some g → g ≠ b := fun g hg => by
    have := HW.out.ms g (by rw [← HML.out]; exact hg)
    exact (HW.out.pm g this).2.1
  have hown : X.ownsRow 0 3 1 (.slice ma ml mc) ml (ints S.made) := row_keep hmr fun g hg _ => hXo g (hgb g hg)
  have HOWN := toHid hown
  have HXB := toHid hXb
  have HXO := toHid hXo
  have HXS := toHid hXs
  have HXF := toHid hXf
  have HGB := toHid hgb
  have HBK := toHid hblk
  clear hX hXb hXo hXs hXf hgb hmr hown hblk
  obtain ⟨i0, hi0, hiz, his, hib⟩ := infoI
  have HI0 := toHid hi0
  have HIZ := toHid hiz
  have HIS := toHid his
  have HIB := toHid hib
  clear hi0 hiz his hib
  have HBy : (ml + 1) * 8 ≤ 140737488355328 := by omega
  have HBm : ml + 1 ≤ maxLen := by unfold maxLen; omega
  go_enter Tryz.func116, Tryz.ntmps116
  go_wp2_with (at_builtin; refine wpList_append_lies _ rfl _ _ 29 rfl 0 3 i0 _ 1 8 Tryz.underlying29 HI0.out HIZ.out HIS.out HIB.out rfl (by omega) (.slice ma ml mc) ml (ints S.made) rfl (HOWN.out.alloc _) ⟨X.heap.size, 0, none⟩ 1 1 [.int .i64 nx] rfl rfl (World.news_of_block (cs := #[.int .i64 nx]) (t := 3) (fr := (0, 0)) (alloc_new X _)) (by simp [Value.oneCell']) (by omega) HBm HBy (Nat.zero_le _) (X.heap.size + 1) (by simp) ?_)
  intro gg cap w5 hown5 hgrow hat5 hlt5
  have hb5 : w5.heap[b]? = some (.cells #[.slice na S.N.length nc, .slice ea S.E.length ec, .int .i64 (nx + 1), .slice ma ml mc] 69 (0, 0)) := by
    rw [hgrow.block b (by simp; rw [HXS.out]; omega) (fun e => HGB.out b e.symm rfl), Below.heap_alloc X _ b (by rw [HXS.out]; omega)]
    exact HXB.out
  have hs5 : w.heap.size + 1 ≤ w5.heap.size := by have := hgrow.size; simp at this; rw [HXS.out] at this; exact this
  have ho5 : ∀ j, j < w.heap.size → j ≠ b → (Value.slice ma ml mc).ownBlock ≠ some j → w5.heap[j]? = w.heap[j]? := fun j hj hjb hjo => by
    rw [hgrow.block j (by simp; rw [HXS.out]; omega) (fun e => hjo e.symm), Below.heap_alloc X _ j (by rw [HXS.out]; omega)]
    exact HXO.out j hjb
  have hf5 : w5.os = w.os ∧ w5.tape = w.tape ∧ w5.output = w.output := ⟨hgrow.os.trans HXF.out.1, hgrow.tape.trans HXF.out.2.1, hgrow.output.trans HXF.out.2.2⟩
  have d3 := cell_of hb5 3
  have g3 := free_of hb5 3
  simp at d3
  have hgg : (gg = w.heap.size + 1) ∨ (Value.slice ma ml mc).ownBlock = some gg := by
    rcases hat5 with h | h
    · exact .inr h
    · exact .inl (by rw [h, HXS.out])
  have hlb5 : b < w5.heap.size := by omega
  have HB5 := toHid hb5
  have HS5 := toHid hs5
  have HO5 := toHid ho5
  have HF5 := toHid hf5
  have HGG := toHid hgg
  have HOWN5 := toHid hown5
  have HLT5 := toHid hlt5
  clear hb5 hs5 ho5 hf5 hgg hown5 hgrow hat5 hlt5 x2 f2 y3 hXe
  go_wp2_with fail
  go_ret
  refine ⟨rfl, ?_⟩
  obtain ⟨Y, hY⟩ : ∃ Y, Y = w5.setCell ⟨b, 3, none⟩ (.slice (some ⟨gg, 0, none⟩) (ml + 1) cap) := ⟨_, rfl⟩
  rw [← hY]
  have hYb : Y.heap[b]? = some (.cells #[.slice na S.N.length nc, .slice ea S.E.length ec, .int .i64 (nx + 1), .slice (some ⟨gg, 0, none⟩) (ml + 1) cap] 69 (0, 0)) := by rw [hY, set_here HB5.out]; rfl
  have hYo : ∀ j, j ≠ b → Y.heap[j]? = w5.heap[j]? := fun j hj => by rw [hY]; exact Below.heap_setCell w5 ⟨b, 3, none⟩ _ j hj
  have hYs : Y.heap.size = w5.heap.size := by rw [hY]; simp [World.setCell]
  have hYf : Y.os = w5.os ∧ Y.tape = w5.tape ∧ Y.output = w5.output := by rw [hY]; exact ⟨rfl, rfl, rfl⟩
  have W := HW.out
  have S5 := HS5.out
  have ggO : (Now O w Y gg) ∧ gg ≠ b ∧ ¬ PN gg ∧ ¬ PE gg := by
    rcases HGG.out with h | h
    · refine ⟨.inr ⟨by omega, by rw [hYs]; exact HLT5.out⟩, by omega, fun q => ?_, fun q => ?_⟩
      · have := W.lt gg (W.pn gg q).1; omega
      · have := W.lt gg (W.pe gg q).1; omega
    · have := W.pm gg (W.ms gg (by rw [← HML.out]; exact h))
      exact ⟨.inl this.1, this.2⟩
  have nO : ∀ j, ¬ O j → (Value.slice ma ml mc).ownBlock ≠ some j := fun j hj e => hj (W.pm j (W.ms j (by rw [← HML.out]; exact e))).1
  have nN : ∀ j, PN j → (Value.slice ma ml mc).ownBlock ≠ some j := fun j hj e => (W.pm j (W.ms j (by rw [← HML.out]; exact e))).2.2.1 hj
  have nE : ∀ j, PE j → (Value.slice ma ml mc).ownBlock ≠ some j := fun j hj e => (W.pm j (W.ms j (by rw [← HML.out]; exact e))).2.2.2 hj
  refine ⟨⟨na, nc, ea, ec, some ⟨gg, 0, none⟩, cap, PN, PE, (fun i => i = gg), ?_, .inl W.ob, ?_, fun i hi => ⟨.inl (W.pn i hi).1, (W.pn i hi).2⟩, fun i hi => ⟨.inl (W.pe i hi).1, (W.pe i hi).2⟩, fun i hi => by subst hi; exact ggO, ?_, ?_, ?_, ?_⟩, ?_⟩
  · rw [hYb]
    simp [WS.numbered, HNX.out, HML.out]
  · intro i hi
    rcases hi with hi | hi
    · have := W.lt i hi; omega
    · exact hi.2
  · exact W.ns.kept ⟨by omega, fun i hi hl => ⟨hi, (hYo i (W.pn i hi).2).trans (HO5.out i hl (W.pn i hi).2 (nN i hi))⟩⟩
  · exact W.es.kept ⟨by omega, fun i hi hl => ⟨hi, (hYo i (W.pe i hi).2.1).trans (HO5.out i hl (W.pe i hi).2.1 (nE i hi))⟩⟩
  · intro g hg
    have : gg = g := by simpa [Value.ownBlock] using hg
    exact this.symm
  · have e1 : (S.numbered).made.length = ml + 1 := by simp [WS.numbered, HML.out]
    have e2 : ints (S.numbered).made = ints S.made ++ [.int .i64 nx] := by simp [ints, WS.numbered, HNX.out]
    rw [e1, e2]
    refine row_keep HOWN5.out fun g hg _ => ?_
    have : gg = g := by simpa [Value.ownBlock] using hg
    subst this
    exact hYo gg ggO.2.1
  · exact ⟨hYf.1.trans HF5.out.1, hYf.2.1.trans HF5.out.2.1, hYf.2.2.trans HF5.out.2.2, by omega, fun i hi hn => (hYo i (fun e => hn (e ▸ W.ob))).trans (HO5.out i hi (fun e => hn (e ▸ W.ob)) (nO i hn))⟩

theorem WorkAt.putN {O : Nat → Prop} {w u w5 : World} {b : Nat} {S : WS} {na : Option Addr} {nc : Nat} {ea : Option Addr} {ec : Nat} {ma : Option Addr} {mc : Nat} {PN PE PM : Nat → Prop} (h : WorkAt O w b S na nc ea ec ma mc PN PE PM) (k : Below w.heap.size w u) {y : Nd} {X : AN} (hy : NdOwn (fun i => w.heap.size ≤ i) u y X) (o : Obj)
    {L : List Nd} (hrow : w.ownsRow 0 49 3 (.slice na S.N.length nc) S.N.length (rowN L)) (hpair : Pair2 (NdOwn (fun i => PN i ∧ (Value.slice na S.N.length nc).ownBlock ≠ some i) w) L S.N) {gg cap : Nat}
    (hgrow : (u.alloc o).grownBy w5 (Value.slice na S.N.length nc).ownBlock) (hown : w5.ownsRow 0 49 3 (.slice (some ⟨gg, 0, none⟩) (S.N.length + 1) cap) (S.N.length + 1) (rowN L ++ y.cells))
    (hat : (Value.slice na S.N.length nc).ownBlock = some gg ∨ gg = u.heap.size + 1) (hlt : gg < w5.heap.size) :
    StepEnd O w (w5.setCell ⟨b, 0, none⟩ (.slice (some ⟨gg, 0, none⟩) (S.N.length + 1) cap)) b ⟨S.N ++ [X], S.E, S.next, S.made⟩ := by
  obtain ⟨Y, hY⟩ : ∃ Y, Y = w5.setCell ⟨b, 0, none⟩ (.slice (some ⟨gg, 0, none⟩) (S.N.length + 1) cap) := ⟨_, rfl⟩
  rw [← hY]
  have hbw : b < w.heap.size := h.lt b h.ob
  have hwu := k.size
  have hu5 : u.heap.size + 1 ≤ w5.heap.size := by have := hgrow.size; simpa using this
  have hob : ∀ g, (Value.slice na S.N.length nc).ownBlock = some g → PN g := h.ns.1
  have hol : ∀ g, (Value.slice na S.N.length nc).ownBlock = some g → g < w.heap.size := fun g hg => row_lt hrow hg
  have h5 : ∀ j, j < u.heap.size → (Value.slice na S.N.length nc).ownBlock ≠ some j → w5.heap[j]? = u.heap[j]? := fun j hj hn => (hgrow.block j (by simp; omega) (fun e => hn e.symm)).trans (Below.heap_alloc u o j hj)
  have hb5 : w5.heap[b]? = some (.cells #[.slice na S.N.length nc, .slice ea S.E.length ec, .int .i64 S.next, .slice ma S.made.length mc] 69 (0, 0)) := by
    rw [h5 b (by omega) (fun e => absurd rfl (h.pn b (hob b e)).2), k.block b hbw]
    exact h.blk
  have hYb : Y.heap[b]? = some (.cells #[.slice (some ⟨gg, 0, none⟩) (S.N.length + 1) cap, .slice ea S.E.length ec, .int .i64 S.next, .slice ma S.made.length mc] 69 (0, 0)) := by rw [hY, set_here hb5]; rfl
  have hYo : ∀ j, j ≠ b → Y.heap[j]? = w5.heap[j]? := fun j hj => by rw [hY]; exact Below.heap_setCell w5 ⟨b, 0, none⟩ _ j hj
  have hYs : Y.heap.size = w5.heap.size := by rw [hY]; simp [World.setCell]
  have hYf : Y.os = w5.os ∧ Y.tape = w5.tape ∧ Y.output = w5.output := by rw [hY]; exact ⟨rfl, rfl, rfl⟩
  have old : ∀ j, j < w.heap.size → j ≠ b → (Value.slice na S.N.length nc).ownBlock ≠ some j → Y.heap[j]? = w.heap[j]? := fun j h1 h2 h3 => (hYo j h2).trans ((h5 j (by omega) h3).trans (k.block j h1))
  have ggN : ∀ j, j < u.heap.size → (Value.slice na S.N.length nc).ownBlock ≠ some j → j ≠ gg := fun j h1 h2 e => by
    subst e
    rcases hat with h3 | h3
    · exact h2 h3
    · omega
  have nv : (Value.slice (some ⟨gg, 0, none⟩) (S.N.length + 1) cap).ownBlock = some gg := rfl
  have e1 : (⟨S.N ++ [X], S.E, S.next, S.made⟩ : WS).N.length = S.N.length + 1 := by simp
  have ggB : gg ≠ b := by
    rcases hat with h3 | h3
    · exact (h.pn gg (hob gg h3)).2
    · omega
  have ggO : Now O w Y gg := by
    rcases hat with h3 | h3
    · exact .inl (h.pn gg (hob gg h3)).1
    · exact .inr ⟨by omega, by rw [hYs]; exact hlt⟩
  have lts : ∀ i, Now O w Y i → i < Y.heap.size := fun i hi => by
    rcases hi with hi | hi
    · have := h.lt i hi; omega
    · exact hi.2
  have hns : NsOwn (fun i => (PN i ∧ (Value.slice na S.N.length nc).ownBlock ≠ some i) ∨ i = gg ∨ (w.heap.size ≤ i ∧ i < u.heap.size)) Y (S.N ++ [X]) (.slice (some ⟨gg, 0, none⟩) (S.N.length + 1) cap) := by
    refine ⟨fun g hg => .inr (.inl (by rw [nv] at hg; exact (Option.some.inj hg).symm)), L ++ [y], ?_, ?_⟩
    · rw [rowN_snoc, show (L ++ [y]).length = S.N.length + 1 by simp [hpair.1]]
      exact row_keep hown fun g hg _ => by
        rw [nv] at hg
        obtain rfl := Option.some.inj hg
        exact hYo gg ggB
    · refine (hpair.mono fun p x _ _ hp => hp.kept ⟨by omega, fun j hj hjl => ⟨⟨.inl hj, ?_⟩, old j hjl (h.pn j hj.1).2 hj.2⟩⟩).snoc (hy.kept ⟨by omega, fun j hj hjl => ⟨⟨.inr (.inr ⟨hj, hjl⟩), ?_⟩, ?_⟩⟩)
      · rw [nv]
        exact fun e => ggN j hjl (fun e => by have := hol j e; have : w.heap.size ≤ j := hj; omega) (Option.some.inj e).symm
      · have hj' : w.heap.size ≤ j := hj
        exact (hYo j (by omega)).trans (h5 j hjl (fun e => by have := hol j e; omega))
      · rw [nv]
        exact fun e => ggN j (by omega) hj.2 (Option.some.inj e).symm
  have own : ∀ i, (PN i ∧ (Value.slice na S.N.length nc).ownBlock ≠ some i) ∨ i = gg ∨ (w.heap.size ≤ i ∧ i < u.heap.size) → Now O w Y i ∧ i ≠ b := fun i hi => by
    rcases hi with hi | rfl | hi
    · exact ⟨.inl (h.pn i hi.1).1, (h.pn i hi.1).2⟩
    · exact ⟨ggO, ggB⟩
    · exact ⟨.inr ⟨hi.1, by omega⟩, by omega⟩
  have apart : ∀ i, O i → ¬ PN i → ¬ ((PN i ∧ (Value.slice na S.N.length nc).ownBlock ≠ some i) ∨ i = gg ∨ (w.heap.size ≤ i ∧ i < u.heap.size)) := fun i hi hn q => by
    have hil := h.lt i hi
    rcases q with q | rfl | q
    · exact hn q.1
    · rcases hat with h3 | h3
      · exact hn (hob _ h3)
      · omega
    · omega
  have rest : Rest O w Y := ⟨hYf.1.trans (hgrow.os.trans k.os), hYf.2.1.trans (hgrow.tape.trans k.tape), hYf.2.2.trans (hgrow.output.trans k.output), by omega, fun i hi hn => old i hi (fun e => hn (e ▸ h.ob)) (fun e => hn (h.pn i (hob i e)).1)⟩
  refine ⟨⟨some ⟨gg, 0, none⟩, cap, ea, ec, ma, mc, _, PE, PM, ?_, .inl h.ob, lts, own, fun i hi => ⟨.inl (h.pe i hi).1, (h.pe i hi).2.1, apart i (h.pe i hi).1 (h.pe i hi).2.2⟩, fun i hi => ⟨.inl (h.pm i hi).1, (h.pm i hi).2.1, apart i (h.pm i hi).1 (h.pm i hi).2.2.1, (h.pm i hi).2.2.2⟩, ?_, ?_, h.ms, ?_⟩, rest⟩
  · rw [hYb, e1]
  · rw [e1]
    exact hns
  · exact h.es.kept ⟨by omega, fun i hi hl => ⟨hi, old i hl (h.pe i hi).2.1 (fun e => (h.pe i hi).2.2 (hob i e))⟩⟩
  · exact row_keep h.mr fun g hg hl => old g hl (h.pm g (h.ms g hg)).2.1 (fun e => (h.pm g (h.ms g hg)).2.2.1 (hob g e))

/-- Behind a step and a new box: the box, apart from the work. -/
def BoxCut (O : Nat → Prop) (u0 : World) (b : Nat) (S : WS) (cs : Array Value) (t : TypeId) (s : Value) (wx : World) : Prop :=
  ∃ (p : Nat) (O1 : Nat → Prop), s = .pointer (some ⟨p, 0, none⟩) ∧ wx.heap[p]? = some (.cells cs t (0, 0)) ∧ ¬ O1 p ∧ WorkIn O1 wx b S ∧ Rest O u0 wx ∧ ∀ i, O1 i → Now O u0 wx i

theorem boxA {O : Nat → Prop} {u0 u1 : World} {b : Nat} {S : WS} (h : StepEnd O u0.drew u1 b S) (cs : Array Value) (t : TypeId) : BoxCut O u0 b S cs t (.pointer (some ⟨u1.heap.size, 0, none⟩)) (u1.alloc (.cells cs t)) := by
  have r : Rest O u0 u1 := (Rest.of_below (Below.refl _ _).drew).trans h.2 (fun _ _ q => q)
  refine ⟨u1.heap.size, Now O u0.drew u1, rfl, alloc_new u1 _, fun q => Nat.lt_irrefl _ (h.1.lts _ q), h.1.below ((Below.refl _ _).alloc (Nat.le_refl _) _), r.alloc _, fun i hi => ?_⟩
  rcases hi with hi | hi
  · exact .inl hi
  · exact .inr ⟨hi.1, by simp; omega⟩

theorem boxB {O : Nat → Prop} {u0 u1 : World} {b : Nat} {S : WS} {Z : Array Value} {t : TypeId} (hl : ∀ i, O i → i < u0.heap.size) (h : StepEnd O (u0.drew.alloc (.cells Z t)) u1 b S) (vs : List Value) (cs : Array Value) (hcs : setL Z 0 vs = cs) : BoxCut O u0 b S cs t (.pointer (some ⟨u0.heap.size, 0, none⟩)) (putL u1 u0.heap.size 0 vs) := by
  have k : Below u0.heap.size u0 (u0.drew.alloc (.cells Z t)) := ((Below.refl _ _).drew).alloc (Nat.le_refl _) _
  have r : Rest O u0 u1 := (Rest.of_below k).trans h.2 (fun _ _ q => q)
  have hz : (u0.drew.alloc (.cells Z t)).heap.size = u0.heap.size + 1 := by simp
  have hn : ¬ Now O (u0.drew.alloc (.cells Z t)) u1 u0.heap.size := fun q => by
    rcases q with q | q
    · exact Nat.lt_irrefl _ (hl _ q)
    · rw [hz] at q; omega
  have hp : u1.heap[u0.heap.size]? = some (.cells Z t (0, 0)) := (h.far (i := u0.heap.size) (by rw [hz]; omega) (fun q => hn (.inl q))).trans (alloc_new u0.drew _)
  refine ⟨u0.heap.size, Now O (u0.drew.alloc (.cells Z t)) u1, rfl, by rw [← hcs]; exact putL_here vs 0 u1 Z hp, hn, h.1.kept (by rw [putL_size]; exact Nat.le_refl _) (fun i hi => putL_other _ vs 0 u1 i (fun e => hn (e ▸ hi))) (fun _ q => q) (fun i hi => by rw [putL_size]; exact h.1.lts i hi), ⟨?_, ?_, ?_, by rw [putL_size]; exact r.size, fun i hi hno => (putL_other _ vs 0 u1 i (by omega)).trans (r.block i hi hno)⟩, fun i hi => ?_⟩
  · exact (putL_bel u0.heap.size vs 0 u1).os.trans r.os
  · exact (putL_bel u0.heap.size vs 0 u1).tape.trans r.tape
  · exact (putL_bel u0.heap.size vs 0 u1).output.trans r.output
  · rcases hi with hi | hi
    · exact .inl hi
    · exact .inr ⟨by rw [hz] at hi; omega, by rw [putL_size]; exact hi.2⟩

/-- Behind all: a step from the box's world on. -/
theorem BoxCut.step {O O1 : Nat → Prop} {w u0 wx w' : World} {b : Nat} {S S1 S2 : WS} (hw : WorkIn O w b S) (k : Below w.heap.size w u0) (hl : ∀ i, O i → i < w.heap.size) (r : Rest O u0 wx) (h1 : WorkIn O1 wx b S1) (ho : ∀ i, O1 i → Now O u0 wx i) (h2 : StepEnd O1 wx w' b S2) : StepEnd O w w' b S2 := by
  have r0 : Rest O w wx := (Rest.of_below k).trans r (fun _ _ q => q)
  refine ⟨h2.1.kept (Nat.le_refl _) (fun _ _ => rfl) (fun i hi => ?_) (fun i hi => ?_), r0.trans h2.2 fun i hi q => ?_⟩
  · rcases hi with hi | hi
    · rcases ho i hi with q | q
      · exact .inl q
      · exact .inr ⟨Nat.le_trans k.size q.1, Nat.lt_of_lt_of_le q.2 h2.2.size⟩
    · exact .inr ⟨Nat.le_trans r0.size hi.1, hi.2⟩
  · rcases hi with hi | hi
    · exact Nat.lt_of_lt_of_le (hl i hi) (Nat.le_trans r0.size h2.2.size)
    · exact hi.2
  · rcases ho i q with q | q
    · exact q
    · have := k.size; omega

theorem WorkAt.putE {O : Nat → Prop} {w u w5 : World} {b : Nat} {S : WS} {na : Option Addr} {nc : Nat} {ea : Option Addr} {ec : Nat} {ma : Option Addr} {mc : Nat} {PN PE PM : Nat → Prop} (h : WorkAt O w b S na nc ea ec ma mc PN PE PM) (k : Below w.heap.size w u) {y : Ed} {X : AE} (hy : EdOwn (fun i => w.heap.size ≤ i) u y X) (o : Obj)
    {L : List Ed} (hrow : w.ownsRow 0 53 5 (.slice ea S.E.length ec) S.E.length (rowX L)) (hpair : Pair2 (EdOwn (fun i => PE i ∧ (Value.slice ea S.E.length ec).ownBlock ≠ some i) w) L S.E) {gg cap : Nat}
    (hgrow : (u.alloc o).grownBy w5 (Value.slice ea S.E.length ec).ownBlock) (hown : w5.ownsRow 0 53 5 (.slice (some ⟨gg, 0, none⟩) (S.E.length + 1) cap) (S.E.length + 1) (rowX L ++ y.cells))
    (hat : (Value.slice ea S.E.length ec).ownBlock = some gg ∨ gg = u.heap.size + 1) (hlt : gg < w5.heap.size) :
    StepEnd O w (w5.setCell ⟨b, 1, none⟩ (.slice (some ⟨gg, 0, none⟩) (S.E.length + 1) cap)) b ⟨S.N, S.E ++ [X], S.next, S.made⟩ := by
  obtain ⟨Y, hY⟩ : ∃ Y, Y = w5.setCell ⟨b, 1, none⟩ (.slice (some ⟨gg, 0, none⟩) (S.E.length + 1) cap) := ⟨_, rfl⟩
  rw [← hY]
  have hbw : b < w.heap.size := h.lt b h.ob
  have hwu := k.size
  have hu5 : u.heap.size + 1 ≤ w5.heap.size := by have := hgrow.size; simpa using this
  have hob : ∀ g, (Value.slice ea S.E.length ec).ownBlock = some g → PE g := h.es.1
  have hol : ∀ g, (Value.slice ea S.E.length ec).ownBlock = some g → g < w.heap.size := fun g hg => row_lt hrow hg
  have h5 : ∀ j, j < u.heap.size → (Value.slice ea S.E.length ec).ownBlock ≠ some j → w5.heap[j]? = u.heap[j]? := fun j hj hn => (hgrow.block j (by simp; omega) (fun e => hn e.symm)).trans (Below.heap_alloc u o j hj)
  have hb5 : w5.heap[b]? = some (.cells #[.slice na S.N.length nc, .slice ea S.E.length ec, .int .i64 S.next, .slice ma S.made.length mc] 69 (0, 0)) := by
    rw [h5 b (by omega) (fun e => absurd rfl (h.pe b (hob b e)).2.1), k.block b hbw]
    exact h.blk
  have hYb : Y.heap[b]? = some (.cells #[.slice na S.N.length nc, .slice (some ⟨gg, 0, none⟩) (S.E.length + 1) cap, .int .i64 S.next, .slice ma S.made.length mc] 69 (0, 0)) := by rw [hY, set_here hb5]; rfl
  have hYo : ∀ j, j ≠ b → Y.heap[j]? = w5.heap[j]? := fun j hj => by rw [hY]; exact Below.heap_setCell w5 ⟨b, 1, none⟩ _ j hj
  have hYs : Y.heap.size = w5.heap.size := by rw [hY]; simp [World.setCell]
  have hYf : Y.os = w5.os ∧ Y.tape = w5.tape ∧ Y.output = w5.output := by rw [hY]; exact ⟨rfl, rfl, rfl⟩
  have old : ∀ j, j < w.heap.size → j ≠ b → (Value.slice ea S.E.length ec).ownBlock ≠ some j → Y.heap[j]? = w.heap[j]? := fun j h1 h2 h3 => (hYo j h2).trans ((h5 j (by omega) h3).trans (k.block j h1))
  have ggN : ∀ j, j < u.heap.size → (Value.slice ea S.E.length ec).ownBlock ≠ some j → j ≠ gg := fun j h1 h2 e => by
    subst e
    rcases hat with h3 | h3
    · exact h2 h3
    · omega
  have nv : (Value.slice (some ⟨gg, 0, none⟩) (S.E.length + 1) cap).ownBlock = some gg := rfl
  have e1 : (⟨S.N, S.E ++ [X], S.next, S.made⟩ : WS).E.length = S.E.length + 1 := by simp
  have ggB : gg ≠ b := by
    rcases hat with h3 | h3
    · exact (h.pe gg (hob gg h3)).2.1
    · omega
  have ggO : Now O w Y gg := by
    rcases hat with h3 | h3
    · exact .inl (h.pe gg (hob gg h3)).1
    · exact .inr ⟨by omega, by rw [hYs]; exact hlt⟩
  have lts : ∀ i, Now O w Y i → i < Y.heap.size := fun i hi => by
    rcases hi with hi | hi
    · have := h.lt i hi; omega
    · exact hi.2
  have hns : EsOwn (fun i => (PE i ∧ (Value.slice ea S.E.length ec).ownBlock ≠ some i) ∨ i = gg ∨ (w.heap.size ≤ i ∧ i < u.heap.size)) Y (S.E ++ [X]) (.slice (some ⟨gg, 0, none⟩) (S.E.length + 1) cap) := by
    refine ⟨fun g hg => .inr (.inl (by rw [nv] at hg; exact (Option.some.inj hg).symm)), L ++ [y], ?_, ?_⟩
    · rw [rowX_snoc, show (L ++ [y]).length = S.E.length + 1 by simp [hpair.1]]
      exact row_keep hown fun g hg _ => by
        rw [nv] at hg
        obtain rfl := Option.some.inj hg
        exact hYo gg ggB
    · refine (hpair.mono fun p x _ _ hp => hp.kept ⟨by omega, fun j hj hjl => ⟨⟨.inl hj, ?_⟩, old j hjl (h.pe j hj.1).2.1 hj.2⟩⟩).snoc (hy.kept ⟨by omega, fun j hj hjl => ⟨⟨.inr (.inr ⟨hj, hjl⟩), ?_⟩, ?_⟩⟩)
      · rw [nv]
        exact fun e => ggN j hjl (fun e => by have := hol j e; have : w.heap.size ≤ j := hj; omega) (Option.some.inj e).symm
      · have hj' : w.heap.size ≤ j := hj
        exact (hYo j (by omega)).trans (h5 j hjl (fun e => by have := hol j e; omega))
      · rw [nv]
        exact fun e => ggN j (by omega) hj.2 (Option.some.inj e).symm
  have own : ∀ i, (PE i ∧ (Value.slice ea S.E.length ec).ownBlock ≠ some i) ∨ i = gg ∨ (w.heap.size ≤ i ∧ i < u.heap.size) → Now O w Y i ∧ i ≠ b := fun i hi => by
    rcases hi with hi | rfl | hi
    · exact ⟨.inl (h.pe i hi.1).1, (h.pe i hi.1).2.1⟩
    · exact ⟨ggO, ggB⟩
    · exact ⟨.inr ⟨hi.1, by omega⟩, by omega⟩
  have apart : ∀ i, O i → ¬ PE i → ¬ ((PE i ∧ (Value.slice ea S.E.length ec).ownBlock ≠ some i) ∨ i = gg ∨ (w.heap.size ≤ i ∧ i < u.heap.size)) := fun i hi hn q => by
    have hil := h.lt i hi
    rcases q with q | rfl | q
    · exact hn q.1
    · rcases hat with h3 | h3
      · exact hn (hob _ h3)
      · omega
    · omega
  have rest : Rest O w Y := ⟨hYf.1.trans (hgrow.os.trans k.os), hYf.2.1.trans (hgrow.tape.trans k.tape), hYf.2.2.trans (hgrow.output.trans k.output), by omega, fun i hi hn => old i hi (fun e => hn (e ▸ h.ob)) (fun e => hn (h.pe i (hob i e)).1)⟩
  refine ⟨⟨na, nc, some ⟨gg, 0, none⟩, cap, ma, mc, PN, _, PM, ?_, .inl h.ob, lts, fun i hi => ⟨.inl (h.pn i hi).1, (h.pn i hi).2⟩, fun i hi => ⟨(own i hi).1, (own i hi).2, fun q => ?_⟩, fun i hi => ⟨.inl (h.pm i hi).1, (h.pm i hi).2.1, (h.pm i hi).2.2.1, apart i (h.pm i hi).1 (h.pm i hi).2.2.2⟩, ?_, ?_, h.ms, ?_⟩, rest⟩
  · rw [hYb, e1]
  · exact apart i (h.pn i q).1 (fun r => (h.pe i r).2.2 q) hi
  · exact h.ns.kept ⟨by omega, fun i hi hl => ⟨hi, old i hl (h.pn i hi).2 (fun e => (h.pe i (hob i e)).2.2 hi)⟩⟩
  · rw [e1]
    exact hns
  · exact row_keep h.mr fun g hg hl => old g hl (h.pm g (h.ms g hg)).2.1 (fun e => (h.pm g (h.ms g hg)).2.2.2 (hob g e))

def leftIn (ops : Array Oper) (listed : Array Bool) : Nat := (List.range ops.size).countP fun i => !listed.getD i true

theorem countP_lt {α : Type} {p q : α → Bool} : ∀ {l : List α} {x : α}, x ∈ l → (∀ y, q y = true → p y = true) → p x = true → q x = false → l.countP q + 1 ≤ l.countP p
  | [], _, h, _, _, _ => by cases h
  | y :: l, x, h, hqp, hp, hq => by
    have mono : l.countP q ≤ l.countP p := List.countP_mono_left (fun z _ => hqp z)
    rcases List.mem_cons.1 h with rfl | h
    · rw [List.countP_cons, List.countP_cons, hp, hq]
      simp
      exact mono
    · have := countP_lt h hqp hp hq
      rw [List.countP_cons, List.countP_cons]
      by_cases h1 : q y = true
      · simp [h1, hqp y h1]; omega
      · have h1' : q y = false := by simpa using h1
        simp [h1']; split <;> omega

theorem wpAny_inv {P : Program} {md : Region.Mode} {ops : Array Oper} {Q : Exit → Act → World → Prop} (I : Array Bool → Act → World → Prop)
    (hstep : ∀ listed a w, I listed a w → ∀ i o, ops[i]? = some o → listed.getD i true = false → (∀ e ∈ o.after, Region.binds md e = true → listed.getD e.on false = true) → wpOp P ops Q i (fun a' w' => I (listed.setIfInBounds i true) a' w') a w)
    (hend : ∀ listed a w, I listed a w → (∀ i, i < ops.size → listed.getD i true = true) → Q .normal a w)
    (hready : ∀ listed : Array Bool, Region.ready md ops listed = [] → ∀ i, i < ops.size → listed.getD i true = true) :
    ∀ (fuel : Nat) (listed : Array Bool) (a : Act) (w : World), leftIn ops listed ≤ fuel → I listed a w → wpAny P md ops Q fuel listed a w := by
  intro fuel
  induction fuel with
  | zero =>
    intro listed a w hf hI
    have hr : Region.ready md ops listed = [] := by
      cases h : Region.ready md ops listed with
      | nil => rfl
      | cons i l =>
        have hi : i ∈ Region.ready md ops listed := by rw [h]; exact List.mem_cons_self ..
        obtain ⟨h0, o, ho, _⟩ := mem_ready.1 hi
        have hlt : i < ops.size := (Array.getElem?_eq_some_iff.1 ho).1
        have : 0 < leftIn ops listed := List.countP_pos_iff.2 ⟨i, List.mem_range.2 hlt, by simp [h0]⟩
        omega
    exact ⟨hr, hend listed a w hI (hready listed hr)⟩
  | succ fuel ih =>
    intro listed a w hf hI
    refine ⟨fun hr => hend listed a w hI (hready listed hr), fun i hi => ?_⟩
    obtain ⟨h0, o, ho, hall⟩ := mem_ready.1 hi
    have hlt : i < ops.size := (Array.getElem?_eq_some_iff.1 ho).1
    refine wpOp_mono (fun a' w' h => ih _ a' w' ?_ h) (hstep listed a w hI i o ho h0 hall)
    have := countP_lt (p := fun j => !listed.getD j true) (q := fun j => !(listed.setIfInBounds i true).getD j true) (List.mem_range.2 hlt) (fun j hj => by
      by_cases hij : i = j
      · subst hij
        simp [h0]
      · rw [getD_set_ne true hij] at hj
        exact hj) (by simp [h0]) (by
        have hl : i < listed.size := by
          rcases Nat.lt_or_ge i listed.size with h' | h'
          · exact h'
          · simp [Array.getElem?_eq_none h'] at h0
        simp [hl])
    unfold leftIn at hf ⊢
    omega
theorem wpOp_plain {P : Program} {ops : Array Oper} {Q : Exit → Act → World → Prop} {i : Nat} {o : Oper} {K : Act → World → Prop} {a : Act} {w : World} (ho : ops[i]? = some o) (hg : o.guard = none) (h : ∀ K' : Act → World → Prop, (∀ a w, K a w → K' a w) → Oper.wp P o a w K' Q) : wpOp P ops Q i K a w :=
  wpOp_step ho (fun K' hK => by rw [if_pos (by simp [Region.wanted, hg])]; exact h K' hK)

/-- Where each operation waits for earlier ones alone: if none may come up, all have. -/
theorem ready_all {md : Region.Mode} {ops : Array Oper} (h : ((List.range ops.size).all fun i => ((ops[i]?).map (·.after.all fun e => !Region.binds md e || decide (e.on < i))).getD true) = true) (listed : Array Bool) (hr : Region.ready md ops listed = []) : ∀ i, i < ops.size → listed.getD i true = true := by
  intro i
  induction i using Nat.strongRecOn with
  | _ i ih =>
  intro hi
  cases hl : listed.getD i true with
  | true => rfl
  | false =>
    exfalso
    obtain ⟨o, ho⟩ : ∃ o, ops[i]? = some o := ⟨ops[i], Array.getElem?_eq_getElem hi⟩
    have h1 := List.all_eq_true.1 h i (List.mem_range.2 hi)
    rw [ho] at h1
    simp only [Option.map_some, Option.getD_some, Array.all_eq_true_iff_forall_mem, Bool.or_eq_true, Bool.not_eq_true', decide_eq_true_eq] at h1
    have hm : i ∈ Region.ready md ops listed := mem_ready.2 ⟨hl, o, ho, fun e he hb => by
      have h2 : e.on < i := (h1 e he).resolve_left (by simp [hb])
      have h3 := ih e.on h2 (by omega)
      have hlt : e.on < listed.size := by
        have : i < listed.size := by
          rcases Nat.lt_or_ge i listed.size with h' | h'
          · exact h'
          · simp [Array.getElem?_eq_none h'] at hl
        omega
      simp [hlt] at h3 ⊢
      exact h3⟩
    rw [hr] at hm
    cases hm
end Go.Proofs.YtakpifphpojbjaaGreatDoor
