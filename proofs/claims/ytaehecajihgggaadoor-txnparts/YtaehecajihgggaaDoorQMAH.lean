/-
  What is proved here: what the texts HGraph, HWork, HDel prove, in one text.
-/
import Derived.Test.YtaehecajihgggaaDoorQMAG
import Derived.Test.YtaehecajihgggaaDoorQMAE
import Derived.Deep.RegionLaw
import Derived.Lib.SliceRun
namespace Go.Proofs.YtaehecajihgggaaDoor
open Go.RowKit
set_option linter.unusedVariables false

theorem row_lt {w : World} {B n size : Nat} {e : TypeId} {v : Value} {xs : List Value} (h : w.ownsRow B e size v n xs) {g : Nat} (hg : v.ownBlock = some g) : g < w.heap.size := by
  rcases h.2 with ⟨h0, _⟩ | ⟨g', cap, cur, h0, _, h2, _⟩
  · rw [h0] at hg; cases hg
  · rw [h0] at hg
    have : g' = g := by simpa [Value.ownBlock] using hg
    subst this
    exact (Array.getElem?_eq_some_iff.1 h2).1

theorem NsOwn.kept {A A' : Nat → Prop} {w w' : World} {X : List AN} {v : Value} (h : NsOwn A w X v) (k : Keep A A' w w') : NsOwn A' w' X v := by
  obtain ⟨h1, N, h2, h3⟩ := h
  refine ⟨fun g hg => (k.2 g (h1 g hg) (row_lt h2 hg)).1, N, row_keep h2 fun g hg hl => (k.2 g (h1 g hg) hl).2, h3.carry (fun b => b < w.heap.size) (fun B p x hB hp => hp.kept ⟨k.1, fun i hi hl => ⟨⟨hi, hl⟩, (k.2 i (hB i hi).1 hl).2⟩⟩) (fun b hb hz => ⟨(k.2 b hb.1 hz).1, hb.2⟩)⟩

theorem EsOwn.kept {A A' : Nat → Prop} {w w' : World} {X : List AE} {v : Value} (h : EsOwn A w X v) (k : Keep A A' w w') : EsOwn A' w' X v := by
  obtain ⟨h1, N, h2, h3⟩ := h
  refine ⟨fun g hg => (k.2 g (h1 g hg) (row_lt h2 hg)).1, N, row_keep h2 fun g hg hl => (k.2 g (h1 g hg) hl).2, h3.carry (fun b => b < w.heap.size) (fun B p x hB hp => hp.kept ⟨k.1, fun i hi hl => ⟨⟨hi, hl⟩, (k.2 i (hB i hi).1 hl).2⟩⟩) (fun b hb hz => ⟨(k.2 b hb.1 hz).1, hb.2⟩)⟩

/-- The answer of Graph: nodes and edges in rows of their own, apart from each other. -/
def GraphEnd (W w' : World) (XN : List AN) (XE : List AE) (next : Int) (e : Ending) : Prop :=
  ∃ nv ev m, e = .returned (.agg #[nv, ev, .int .i64 next]) ∧ W.heap.size ≤ m ∧ NsOwn (fun i => W.heap.size ≤ i ∧ i < m) w' XN nv ∧ EsOwn (fun i => m ≤ i) w' XE ev

set_option maxHeartbeats 8000000 in
set_option maxRecDepth 100000 in
theorem freshGraph_any (XN : List AN) (XE : List AE) (na : Option Addr) (nl nc : Nat) (ea : Option Addr) (el ec : Nat) (next : Int) (w : World) (hN : NsAt w XN na nl) (hE : EsAt w XE ea el) (hnl : nl ≤ 1000) (hel : el ≤ 1000) (hNo : ∀ x ∈ XN, x.ok) (hEo : ∀ x ∈ XE, x.ok) :
    Calls Tryd.prog 10 #[.agg #[.slice na nl nc, .slice ea el ec, .int .i64 next]] w fun e w' => GraphEnd w w' XN XE next e ∧ Below w.heap.size w w' := by
  have HN : Hid (∀ W, Below w.heap.size w W → Calls Tryd.prog 19 #[.slice na nl nc, .func (.func 20) #[] #[]] W fun e w' => NsOwnEnd W w' XN e ∧ Below W.heap.size W w') := fun W kW => each_nodes XN na nl nc W (hN.below kW) hnl hNo
  have HE : Hid (∀ W, Below w.heap.size w W → Calls Tryd.prog 21 #[.slice ea el ec, .func (.func 22) #[] #[]] W fun e w' => EsOwnEnd W w' XE e ∧ Below W.heap.size W w') := fun W kW => each_edges XE ea el ec W (hE.below kW) hel hEo
  clear hN hE hNo hEo
  have b0 : Below w.heap.size w ((w.alloc (.cells #[.slice na nl nc, .slice ea el ec, .int .i64 next] 25)).alloc (.cells #[.slice none 0 0, .slice none 0 0, .int .i64 0] 25)) := ((Below.refl _ _).alloc (Nat.le_refl _) _).alloc (by simp) _
  have hx := (Below.heap_alloc (w.alloc (.cells #[.slice na nl nc, .slice ea el ec, .int .i64 next] 25)) (.cells #[.slice none 0 0, .slice none 0 0, .int .i64 0] 25) w.heap.size (by simp)).trans (alloc_new w (.cells #[.slice na nl nc, .slice ea el ec, .int .i64 next] 25))
  have hy := alloc_two w (.cells #[.slice na nl nc, .slice ea el ec, .int .i64 next] 25) (.cells #[.slice none 0 0, .slice none 0 0, .int .i64 0] 25)
  have z0 : ((w.alloc (.cells #[.slice na nl nc, .slice ea el ec, .int .i64 next] 25)).alloc (.cells #[.slice none 0 0, .slice none 0 0, .int .i64 0] 25)).heap.size = w.heap.size + 2 := by simp
  have HB := toHid b0
  have HX := toHid hx
  have HY := toHid hy
  have HZ := toHid z0
  clear b0 hx hy z0
  go_enter Tryd.func10, Tryd.ntmps10
  go_wp2_with fail
  refine (HN.out _ HB.out).mono ?_
  generalize (w.alloc (.cells #[.slice na nl nc, .slice ea el ec, .int .i64 next] 25)).alloc (.cells #[.slice none 0 0, .slice none 0 0, .int .i64 0] 25) = W at HB HX HY HZ ⊢
  rintro e w1 ⟨⟨nv, rfl, hns⟩, k1⟩
  have S1 : w.heap.size + 2 ≤ w1.heap.size := by have := k1.size; rw [HZ.out] at this; exact this
  have HNS := toHid hns
  have HV1 := toHid ((k1.block w.heap.size (by rw [HZ.out]; omega)).trans HX.out)
  have HR1 := toHid ((k1.block (w.heap.size + 1) (by rw [HZ.out]; omega)).trans HY.out)
  have HC1 := toHid (HB.out.trans (k1.mono HB.out.size))
  clear hns k1
  obtain ⟨na1, nc1, hnv, _, _⟩ := HNS.out.reads
  have x1 := cell_of HV1.out 0
  have f1 := free_of HV1.out 0
  simp at x1
  have hlt : w.heap.size < w1.heap.size := by omega
  obtain ⟨nl1, hnl1⟩ : ∃ z, z = XN.length := ⟨_, rfl⟩
  rw [← hnl1] at hnv
  subst hnv
  clear hnl1
  obtain ⟨X1, hX1⟩ : ∃ X, X = w1.setCell ⟨w.heap.size, 0, none⟩ (.slice na1 nl1 nc1) := ⟨_, rfl⟩
  have hvX : X1.heap[w.heap.size]? = some (.cells #[.slice na1 nl1 nc1, .slice ea el ec, .int .i64 next] 25 (0, 0)) := by rw [hX1, set_here HV1.out]; rfl
  have hoX : ∀ j, j ≠ w.heap.size → X1.heap[j]? = w1.heap[j]? := fun j hj => by rw [hX1]; exact Below.heap_setCell w1 ⟨w.heap.size, 0, none⟩ _ j hj
  have hsX : X1.heap.size = w1.heap.size := by rw [hX1]; simp [World.setCell]
  have hcX : Below w.heap.size w X1 := by rw [hX1]; exact HC1.out.setCell (p := ⟨w.heap.size, 0, none⟩) (Nat.le_refl _) _
  have hX1s : w1.setCell ⟨w.heap.size, 0, none⟩ (.slice na1 nl1 nc1) = X1 := hX1.symm
  have y1 := cell_of hvX 1
  simp at y1
  have HVX := toHid hvX
  have HOX := toHid hoX
  have HSX := toHid hsX
  have HCX := toHid hcX
  clear hX1 hvX hoX hsX hcX
  go_wp2_with fail
  refine (HE.out _ HCX.out).mono ?_
  rintro e w2 ⟨⟨ev, rfl, hes⟩, k2⟩
  have s2 : X1.heap.size ≤ w2.heap.size := k2.size
  have HES := toHid hes
  have HV2 := toHid ((k2.block w.heap.size (by rw [HSX.out]; omega)).trans HVX.out)
  have HR2 := toHid ((k2.block (w.heap.size + 1) (by rw [HSX.out]; omega)).trans ((HOX.out (w.heap.size + 1) (by omega)).trans HR1.out))
  have HC2 := toHid (HCX.out.trans (k2.mono HCX.out.size))
  have HK2 := toHid k2
  clear hes k2
  obtain ⟨ea1, ec1, hev, _, _⟩ := HES.out.reads
  obtain ⟨el1, hel1⟩ : ∃ z, z = XE.length := ⟨_, rfl⟩
  rw [← hel1] at hev
  subst hev
  clear hel1
  have z2 := cell_of HV2.out 1
  have e2 := free_of HV2.out 1
  simp at z2
  have hlt2 : w.heap.size < w2.heap.size := by rw [HSX.out] at s2; omega
  obtain ⟨X2, hX2⟩ : ∃ X, X = w2.setCell ⟨w.heap.size, 1, none⟩ (.slice ea1 el1 ec1) := ⟨_, rfl⟩
  have hvX2 : X2.heap[w.heap.size]? = some (.cells #[.slice na1 nl1 nc1, .slice ea1 el1 ec1, .int .i64 next] 25 (0, 0)) := by rw [hX2, set_here HV2.out]; rfl
  have hoX2 : ∀ j, j ≠ w.heap.size → X2.heap[j]? = w2.heap[j]? := fun j hj => by rw [hX2]; exact Below.heap_setCell w2 ⟨w.heap.size, 1, none⟩ _ j hj
  have hsX2 : X2.heap.size = w2.heap.size := by rw [hX2]; simp [World.setCell]
  have hcX2 : Below w.heap.size w X2 := by rw [hX2]; exact HC2.out.setCell (p := ⟨w.heap.size, 1, none⟩) (Nat.le_refl _) _
  have hrX2 : X2.heap[w.heap.size + 1]? = some (.cells #[.slice none 0 0, .slice none 0 0, .int .i64 0] 25 (0, 0)) := (hoX2 (w.heap.size + 1) (by omega)).trans HR2.out
  have hX2s : w2.setCell ⟨w.heap.size, 1, none⟩ (.slice ea1 el1 ec1) = X2 := hX2.symm
  have q0 := cell_of hvX2 0
  have q1 := cell_of hvX2 1
  have q2 := cell_of hvX2 2
  have r0 := cell_of hrX2 0
  have r1 := cell_of hrX2 1
  have r2 := cell_of hrX2 2
  have g0 := free_of hrX2 0
  have g1 := free_of hrX2 1
  have g2 := free_of hrX2 2
  simp at q0 q1 q2 r0 r1 r2
  have HRX2 := toHid hrX2
  have HOX2 := toHid hoX2
  have HSX2 := toHid hsX2
  have HCX2 := toHid hcX2
  clear hX2 hvX2 hrX2 hoX2 hsX2 hcX2
  go_wp2_with fail
  have eP : ∀ X : World, ((X.setCell ⟨w.heap.size + 1, 0, none⟩ (.slice na1 nl1 nc1)).setCell ⟨w.heap.size + 1, 1, none⟩ (.slice ea1 el1 ec1)).setCell ⟨w.heap.size + 1, 2, none⟩ (.int .i64 next) = putL X (w.heap.size + 1) 0 [.slice na1 nl1 nc1, .slice ea1 el1 ec1, .int .i64 next] := fun _ => rfl
  rw [eP]
  have E := putL_here [.slice na1 nl1 nc1, .slice ea1 el1 ec1, .int .i64 next] 0 X2 _ HRX2.out
  have hbb : Below w.heap.size w (putL X2 (w.heap.size + 1) 0 [.slice na1 nl1 nc1, .slice ea1 el1 ec1, .int .i64 next]) := HCX2.out.trans ((putL_bel (w.heap.size + 1) _ _ X2).mono (by omega))
  have hoY : ∀ j, j ≠ w.heap.size → j ≠ w.heap.size + 1 → (putL X2 (w.heap.size + 1) 0 [.slice na1 nl1 nc1, .slice ea1 el1 ec1, .int .i64 next]).heap[j]? = w2.heap[j]? := fun j h1 h2 => (putL_other _ _ _ _ j h2).trans (HOX2.out j h1)
  have hsY : (putL X2 (w.heap.size + 1) 0 [.slice na1 nl1 nc1, .slice ea1 el1 ec1, .int .i64 next]).heap.size = w2.heap.size := by rw [putL_size, HSX2.out]
  generalize putL X2 (w.heap.size + 1) 0 [.slice na1 nl1 nc1, .slice ea1 el1 ec1, .int .i64 next] = Y at E hbb hoY hsY ⊢
  have t0 := cell_of E 0
  have t1 := cell_of E 1
  have t2 := cell_of E 2
  simp [setL] at t0 t1 t2
  have hsx := HSX.out
  have hzz := HZ.out
  refine bodyPost_ret (v := .agg #[.slice na1 nl1 nc1, .slice ea1 el1 ec1, .int .i64 next]) (by simp [results, Tryd.results10, go_sem, t0, t1, t2]) rfl ⟨⟨.slice na1 nl1 nc1, .slice ea1 el1 ec1, w1.heap.size, rfl, by omega, ?_, ?_⟩, hbb⟩
  · refine HNS.out.kept ⟨by rw [hsY]; omega, fun i hi hl => ⟨⟨by omega, hl⟩, ?_⟩⟩
    rw [hoY i (by omega) (by omega), HK2.out.block i (by omega), HOX.out i (by omega)]
  · exact HES.out.kept ⟨by rw [hsY]; exact Nat.le_refl _, fun i hi hl => ⟨by omega, hoY i (by omega) (by omega)⟩⟩

/-- What is being changed, by what it holds. -/
structure WS where
  N : List AN
  E : List AE
  next : Int
  made : List Int



/-- All blocks that were there, but those that O allows, are as they were. -/
structure Rest (O : Nat → Prop) (w w' : World) : Prop where
  os : w'.os = w.os
  tape : w'.tape = w.tape
  output : w'.output = w.output
  size : w.heap.size ≤ w'.heap.size
  block : ∀ i, i < w.heap.size → ¬ O i → w'.heap[i]? = w.heap[i]?

theorem Rest.refl (O : Nat → Prop) (w : World) : Rest O w w := ⟨rfl, rfl, rfl, Nat.le_refl _, fun _ _ _ => rfl⟩

theorem Rest.of_below {O : Nat → Prop} {w w' : World} (k : Below w.heap.size w w') : Rest O w w' := ⟨k.os, k.tape, k.output, k.size, fun i hi _ => k.block i hi⟩

theorem Rest.trans {O O' : Nat → Prop} {w w1 w2 : World} (h : Rest O w w1) (k : Rest O' w1 w2) (hO : ∀ i, i < w.heap.size → O' i → O i) : Rest O w w2 :=
  ⟨k.os.trans h.os, k.tape.trans h.tape, k.output.trans h.output, Nat.le_trans h.size k.size, fun i hi hn => (k.block i (Nat.lt_of_lt_of_le hi h.size) (fun q => hn (hO i hi q))).trans (h.block i hi hn)⟩

theorem Rest.below {O : Nat → Prop} {w w' : World} (h : Rest O w w') {B : Nat} (hB : B ≤ w.heap.size) (hO : ∀ i, O i → B ≤ i) : Below B w w' :=
  ⟨h.os, h.tape, h.output, h.size, fun i hi => h.block i (by omega) (fun q => by have := hO i q; omega)⟩

theorem Rest.alloc {O : Nat → Prop} {w u : World} (h : Rest O w u) (o : Obj) : Rest O w (u.alloc o) :=
  ⟨h.os, h.tape, h.output, Nat.le_trans h.size (by simp), fun i hi hn => (Below.heap_alloc u o i (Nat.lt_of_lt_of_le hi h.size)).trans (h.block i hi hn)⟩

theorem Rest.set {O : Nat → Prop} {w u : World} (h : Rest O w u) (p : Addr) (hp : w.heap.size ≤ p.block) (v : Value) : Rest O w (u.setCell p v) :=
  ⟨h.os, h.tape, h.output, Nat.le_trans h.size (by simp [World.setCell]), fun i hi hn => (Below.heap_setCell u p v i (by omega)).trans (h.block i hi hn)⟩

theorem cell_same {w w' : World} {b : Nat} (h : w'.heap[b]? = w.heap[b]?) (o : Nat) : w'.cell? ⟨b, o, none⟩ = w.cell? ⟨b, o, none⟩ := World.cell?_of_block (w := w) (a := ⟨b, o, none⟩) h

/-- Where a work lies: its own block, and the blocks of its nodes, its edges and its made numbers, all apart. -/
structure WorkAt (O : Nat → Prop) (w : World) (b : Nat) (S : WS) (na : Option Addr) (nc : Nat) (ea : Option Addr) (ec : Nat) (ma : Option Addr) (mc : Nat) (PN PE PM : Nat → Prop) : Prop where
  blk : w.heap[b]? = some (.cells #[.slice na S.N.length nc, .slice ea S.E.length ec, .int .i64 S.next, .slice ma S.made.length mc] 49 (0, 0))
  ob : O b
  lt : ∀ i, O i → i < w.heap.size
  pn : ∀ i, PN i → O i ∧ i ≠ b
  pe : ∀ i, PE i → O i ∧ i ≠ b ∧ ¬ PN i
  pm : ∀ i, PM i → O i ∧ i ≠ b ∧ ¬ PN i ∧ ¬ PE i
  ns : NsOwn PN w S.N (.slice na S.N.length nc)
  es : EsOwn PE w S.E (.slice ea S.E.length ec)
  ms : OwnB PM (.slice ma S.made.length mc)
  mr : w.ownsRow 0 3 1 (.slice ma S.made.length mc) S.made.length (ints S.made)

def WorkIn (O : Nat → Prop) (w : World) (b : Nat) (S : WS) : Prop := ∃ na nc ea ec ma mc PN PE PM, WorkAt O w b S na nc ea ec ma mc PN PE PM

theorem WorkIn.lt {O : Nat → Prop} {w : World} {b : Nat} {S : WS} (h : WorkIn O w b S) : b < w.heap.size := by
  obtain ⟨_, _, _, _, _, _, _, _, _, h⟩ := h
  exact h.lt b h.ob

theorem WorkIn.lts {O : Nat → Prop} {w : World} {b : Nat} {S : WS} (h : WorkIn O w b S) : ∀ i, O i → i < w.heap.size := by
  obtain ⟨_, _, _, _, _, _, _, _, _, h⟩ := h
  exact h.lt

/-- It stays where its blocks stay. -/
theorem WorkIn.kept {O O' : Nat → Prop} {w w' : World} {b : Nat} {S : WS} (h : WorkIn O w b S) (hs : w.heap.size ≤ w'.heap.size) (hk : ∀ i, O i → w'.heap[i]? = w.heap[i]?) (hO : ∀ i, O i → O' i) (hl : ∀ i, O' i → i < w'.heap.size) : WorkIn O' w' b S := by
  obtain ⟨na, nc, ea, ec, ma, mc, PN, PE, PM, h⟩ := h
  exact ⟨na, nc, ea, ec, ma, mc, PN, PE, PM, (hk b h.ob).trans h.blk, hO b h.ob, hl, fun i hi => ⟨hO i (h.pn i hi).1, (h.pn i hi).2⟩, fun i hi => ⟨hO i (h.pe i hi).1, (h.pe i hi).2⟩, fun i hi => ⟨hO i (h.pm i hi).1, (h.pm i hi).2⟩,
    h.ns.kept ⟨hs, fun i hi _ => ⟨hi, hk i (h.pn i hi).1⟩⟩, h.es.kept ⟨hs, fun i hi _ => ⟨hi, hk i (h.pe i hi).1⟩⟩, h.ms, row_keep h.mr fun g hg _ => hk g (h.pm g (h.ms g hg)).1⟩

theorem WorkIn.below {O : Nat → Prop} {w w' : World} {b : Nat} {S : WS} (h : WorkIn O w b S) (k : Below w.heap.size w w') : WorkIn O w' b S :=
  h.kept k.size (fun i hi => k.block i (h.lts i hi)) (fun _ h => h) (fun i hi => Nat.lt_of_lt_of_le (h.lts i hi) k.size)

/-- What is allowed behind a step. -/
def Now (O : Nat → Prop) (w w' : World) : Nat → Prop := fun i => O i ∨ (w.heap.size ≤ i ∧ i < w'.heap.size)

/-- What a step leaves: the work, in what it had and in new blocks; all else as it was. -/
def StepEnd (O : Nat → Prop) (w w' : World) (b : Nat) (S : WS) : Prop := WorkIn (Now O w w') w' b S ∧ Rest O w w'

theorem StepEnd.of_below {O : Nat → Prop} {w w' : World} {b : Nat} {S : WS} (h : WorkIn O w b S) (k : Below w.heap.size w w') : StepEnd O w w' b S :=
  ⟨h.kept k.size (fun i hi => k.block i (h.lts i hi)) (fun _ h => .inl h) (fun i hi => hi.elim (fun q => Nat.lt_of_lt_of_le (h.lts i q) k.size) (fun q => q.2)), Rest.of_below k⟩

/-- Two steps. -/
theorem StepEnd.trans {O : Nat → Prop} {w w1 w2 : World} {b : Nat} {S1 S2 : WS} (h : StepEnd O w w1 b S1) (k : StepEnd (Now O w w1) w1 w2 b S2) : StepEnd O w w2 b S2 := by
  refine ⟨k.1.kept (Nat.le_refl _) (fun _ _ => rfl) (fun i hi => ?_) (fun i hi => ?_), h.2.trans k.2 fun i hi q => q.elim id (fun q => absurd q.1 (by omega))⟩
  · rcases hi with (hi | hi) | hi
    · exact .inl hi
    · exact .inr ⟨hi.1, Nat.lt_of_lt_of_le hi.2 k.2.size⟩
    · exact .inr ⟨Nat.le_trans h.2.size hi.1, hi.2⟩
  · rcases hi with hi | hi
    · exact Nat.lt_of_lt_of_le (h.1.lts i (.inl hi)) k.2.size
    · exact hi.2

/-- A step behind what only makes new blocks. -/
theorem StepEnd.behind {O : Nat → Prop} {w w1 w2 : World} {b : Nat} {S1 S2 : WS} (h : WorkIn O w b S1) (k1 : Below w.heap.size w w1) (k : StepEnd O w1 w2 b S2) : StepEnd O w w2 b S2 := by
  refine ⟨k.1.kept (Nat.le_refl _) (fun _ _ => rfl) (fun i hi => ?_) (fun i hi => ?_), (Rest.of_below k1).trans k.2 fun i hi q => q⟩
  · rcases hi with hi | hi
    · exact .inl hi
    · exact .inr ⟨Nat.le_trans k1.size hi.1, hi.2⟩
  · rcases hi with hi | hi
    · exact Nat.lt_of_lt_of_le (h.lts i hi) (Nat.le_trans k1.size k.2.size)
    · exact hi.2

/-- What only makes new blocks, behind a step. -/
theorem StepEnd.then {O : Nat → Prop} {w w1 w2 : World} {b : Nat} {S : WS} (h : StepEnd O w w1 b S) (k : Below w1.heap.size w1 w2) : StepEnd O w w2 b S := h.trans (StepEnd.of_below h.1 k)

/-- A block that the work hasn't. -/
theorem StepEnd.far {O : Nat → Prop} {w w' : World} {b : Nat} {S : WS} (h : StepEnd O w w' b S) {i : Nat} (hi : i < w.heap.size) (hn : ¬ O i) : w'.heap[i]? = w.heap[i]? := h.2.block i hi hn

theorem setCells_put (b : Nat) : ∀ (vs : List Value) (o : Nat) (w : World), w.setCells b o vs = putL w b o vs
  | [], _, _ => rfl
  | v :: vs, o, w => setCells_put b vs (o + 1) _

theorem setL_size : ∀ (vs : List Value) (o : Nat) (cs : Array Value), (setL cs o vs).size = cs.size
  | [], _, _ => rfl
  | v :: vs, o, cs => by
    show (setL (cs.setIfInBounds o v) (o + 1) vs).size = _
    rw [setL_size vs]
    simp

theorem setL_list : ∀ (vs : List Value) (o : Nat) (cs : Array Value), o + vs.length ≤ cs.size → (setL cs o vs).toList = cs.toList.take o ++ vs ++ cs.toList.drop (o + vs.length)
  | [], o, cs, _ => by simp [setL]
  | v :: vs, o, cs, h => by
    have h' : o + 1 + vs.length ≤ (cs.setIfInBounds o v).size := by simp at h ⊢; omega
    show (setL (cs.setIfInBounds o v) (o + 1) vs).toList = _
    rw [setL_list vs (o + 1) _ h']
    have ho : o < cs.toList.length := by simp at h ⊢; omega
    rw [Array.toList_setIfInBounds]
    have e1 : (cs.toList.set o v).take (o + 1) = cs.toList.take o ++ [v] := by
      rw [List.take_add_one, List.getElem?_set_self ho, List.take_set_of_le (Nat.le_refl _)]
      rfl
    have e2 : (cs.toList.set o v).drop (o + 1 + vs.length) = cs.toList.drop (o + 1 + vs.length) := by
      rw [List.drop_set_of_lt (by omega)]
    rw [e1, e2]
    simp [Nat.add_comm, Nat.add_left_comm]

theorem flat_len {α : Type} (f : α → List Value) (k : Nat) (hk : ∀ x, (f x).length = k) : ∀ L : List α, (L.map f).flatten.length = L.length * k
  | [] => by simp
  | x :: L => by
    simp only [List.map_cons, List.flatten_cons, List.length_append, List.length_cons, hk, flat_len f k hk L, Nat.add_mul]
    omega

theorem flat_take {α : Type} (f : α → List Value) (k : Nat) (hk : ∀ x, (f x).length = k) (L : List α) (i : Nat) (hi : i ≤ L.length) : ((L.map f).flatten).take (i * k) = ((L.take i).map f).flatten := by
  have e : (L.map f).flatten = ((L.take i).map f).flatten ++ ((L.drop i).map f).flatten := by
    rw [← List.flatten_append, ← List.map_append, List.take_append_drop]
  have hl : ((L.take i).map f).flatten.length = i * k := by rw [flat_len f k hk, List.length_take, Nat.min_eq_left hi]
  rw [e, List.take_append_of_le_length (by omega), List.take_of_length_le (by omega)]

/-- A row without one place: those behind it moved, the last one's cells written over. -/
theorem own_erase {α : Type} (f : α → List Value) (k : Nat) (hk : ∀ x, (f x).length = k) {w : World} {e : TypeId} {g cap : Nat} (L : List α) (i : Nat) (hi : i < L.length) (h : w.ownsRow 0 e k (.slice (some ⟨g, 0, none⟩) L.length cap) L.length ((L.map f).flatten)) (zs : List Value) (hz : zs.length = k) :
    ((w.setCells g (i * k) (((L.drop (i + 1)).map f).flatten)).setCells g ((L.length - 1) * k) zs).ownsRow 0 e k (.slice (some ⟨g, 0, none⟩) (L.length - 1) cap) (L.length - 1) (((L.eraseIdx i).map f).flatten) := by
  obtain ⟨_, h⟩ := h
  refine ⟨by rw [flat_len f k hk, List.length_eraseIdx_of_lt hi], .inr ?_⟩
  rcases h with ⟨h0, h1⟩ | ⟨g', cap', cur, h0, h1, h2, h3, h4, h5, h6⟩
  · omega
  · injection h0 with e1 _ e3
    injection e1 with e1
    injection e1 with e1
    subst e1 e3
    have hn : ((L.drop (i + 1)).map f).flatten.length = (L.length - 1 - i) * k := by rw [flat_len f k hk, List.length_drop]; congr 1; omega
    have hnk : L.length * k ≤ cur.size := by rw [h5]; exact Nat.mul_le_mul_right k h3
    have e7 : i * k + (L.length - 1 - i) * k = (L.length - 1) * k := by rw [← Nat.add_mul]; congr 1; omega
    have e8 : (L.length - 1) * k + k = L.length * k := by
      have : L.length = (L.length - 1) + 1 := by omega
      conv => rhs; rw [this, Nat.add_mul, Nat.one_mul]
    have q1 := putL_here (((L.drop (i + 1)).map f).flatten) (i * k) w cur h2
    have q2 := putL_here zs ((L.length - 1) * k) _ _ q1
    rw [← setCells_put, ← setCells_put] at q2
    refine ⟨g, cap, _, rfl, Nat.zero_le _, q2, by omega, h4, by rw [setL_size, setL_size, h5], ?_⟩
    have l1 : (setL cur (i * k) (((L.drop (i + 1)).map f).flatten)).toList = cur.toList.take (i * k) ++ ((L.drop (i + 1)).map f).flatten ++ cur.toList.drop (i * k + (((L.drop (i + 1)).map f).flatten).length) := setL_list _ _ _ (by omega)
    rw [setL_list zs _ _ (by rw [setL_size]; omega), l1]
    have l2 : (cur.toList.take (i * k) ++ ((L.drop (i + 1)).map f).flatten).length = (L.length - 1) * k := by
      rw [List.length_append, List.length_take, hn, Nat.min_eq_left (by simp; have := Nat.mul_le_mul_right k (Nat.le_of_lt hi); omega)]
      exact e7
    have l3 : ∀ (A B C D : List Value) (m : Nat), A.length = m → List.take m (List.take m (A ++ B) ++ C ++ D) = A := by
      intro A B C D m hm
      rw [List.append_assoc, List.take_append_of_le_length (by simp [hm]), List.take_take, Nat.min_self, List.take_append_of_le_length (by omega), List.take_of_length_le (by omega)]
    rw [l3 _ _ _ _ _ l2]
    have l4 : cur.toList.take (i * k) = ((L.take i).map f).flatten := by
      rw [← flat_take f k hk L i (Nat.le_of_lt hi), ← h6, List.take_take, Nat.min_eq_left (Nat.mul_le_mul_right k (Nat.le_of_lt hi))]
    rw [l4, List.eraseIdx_eq_take_drop_succ, List.map_append, List.flatten_append]

set_option maxHeartbeats 4000000 in
set_option maxRecDepth 100000 in
theorem deleteN_any (L : List Nd) (g cap i r : Nat) (w : World) (hn : L.length = i + 1 + r) (h : w.ownsRow 0 52 3 (.slice (some ⟨g, 0, none⟩) (i + 1 + r) cap) (i + 1 + r) (rowN L)) (hl : i + 1 + r ≤ 1000) :
    Calls Tryd.prog 46 #[.slice (some ⟨g, 0, none⟩) (i + 1 + r) cap, .int .i64 i, .int .i64 (i + 1)] w fun e w' => e = .returned (.slice (some ⟨g, 0, none⟩) (i + r) cap) ∧ w'.ownsRow 0 52 3 (.slice (some ⟨g, 0, none⟩) (i + r) cap) (i + r) (rowN (L.eraseIdx i)) ∧ Rest (fun j => j = g) w w' := by
  obtain ⟨news, hnews⟩ : ∃ z, z = ((L.drop (i + 1)).map Nd.cells).flatten := ⟨_, rfl⟩
  have hlen : news.length = r * 3 := by rw [hnews, flat_len Nd.cells 3 (fun _ => rfl), List.length_drop, hn]; congr 1; omega
  have hfl : rowN L = ((L.take (i + 1)).map Nd.cells).flatten ++ news := by rw [hnews, ← List.flatten_append, ← List.map_append, List.take_append_drop]; rfl
  have hft : ((L.take (i + 1)).map Nd.cells).flatten.length = (i + 1) * 3 := by rw [flat_len Nd.cells 3 (fun _ => rfl), List.length_take, hn, Nat.min_eq_left (by omega)]
  have hm : maxLen ≤ 9223372036854775807 := by unfold maxLen; decide
  obtain ⟨cur, hblk, hnc, hcm, hsz, htk⟩ : ∃ cur, w.heap[g]? = some (.cells cur 52 (0, 0)) ∧ i + 1 + r ≤ cap ∧ cap ≤ 9223372036854775807 ∧ cur.size = cap * 3 ∧ cur.toList.take ((i + 1 + r) * 3) = rowN L := by
    rcases h.2 with ⟨h0, _⟩ | ⟨g', cap', cur, h0, _, h2, h3, h4, h5, h6⟩
    · cases h0
    · injection h0 with e1 _ e3
      injection e1 with e1
      injection e1 with e1
      subst e1 e3
      exact ⟨cur, h2, h3, Nat.le_trans h4 hm, h5, h6⟩
  have hcell : ∀ o, w.cell? ⟨g, o, none⟩ = cur[o]? := fun o => cell_of hblk o
  have hfree : ∀ o, w.frozen? ⟨g, o, none⟩ = false := fun o => free_of hblk o
  have hread : ∀ t u, news[t]? = some u → w.cell? ⟨g, (i + 1) * 3 + t, none⟩ = some u := fun t u hu => by
    have ht : t < news.length := (List.getElem?_eq_some_iff.1 hu).1
    rw [hcell, ← Array.getElem?_toList]
    have e : (rowN L)[(i + 1) * 3 + t]? = some u := by rw [hfl, List.getElem?_append_right (by omega), hft, Nat.add_sub_cancel_left]; exact hu
    rw [← htk, List.getElem?_take] at e
    split at e
    · exact e
    · cases e
  obtain ⟨A, hA, hsrc⟩ : ∃ A : Addr, (if cap = i + 1 then some (⟨g, 0, none⟩ : Addr) else some ⟨g, (i + 1) * 3, none⟩) = some A ∧ Hid (∀ t u, news[t]? = some u → w.drew.cell? (A.add t) = some u) := by
    by_cases hc : cap = i + 1
    · refine ⟨⟨g, 0, none⟩, by simp [hc], fun t u hu => ?_⟩
      have ht : t < news.length := (List.getElem?_eq_some_iff.1 hu).1
      rw [hlen] at ht
      have : r = 0 := by omega
      subst this
      omega
    · refine ⟨⟨g, (i + 1) * 3, none⟩, by simp [hc], fun t u hu => ?_⟩
      rw [add_none]
      exact hread t u hu
  have s1 : Hid (news.length = r * 3) := hlen
  have s2 : Hid (∀ u ∈ news, u.oneCell' = true) := fun u hu => by
    rw [hnews] at hu
    obtain ⟨l, hl1, hl2⟩ := List.mem_flatten.1 hu
    obtain ⟨x, _, rfl⟩ := List.mem_map.1 hl1
    simp [Nd.cells] at hl2; rcases hl2 with rfl | rfl | rfl <;> rfl
  have s3 : Hid (∀ t, t < news.length → (w.drew.cell? ⟨g, 0 + i * 3 + t, none⟩).isSome = true ∧ w.drew.frozen? ⟨g, 0 + i * 3 + t, none⟩ = false) := fun t ht => by
    refine ⟨?_, hfree _⟩
    show (w.cell? _).isSome = true
    rw [hcell]
    have hq : 0 + i * 3 + t < cur.size := by rw [hlen] at ht; rw [hsz]; omega
    rw [Array.getElem?_eq_getElem hq]
    rfl
  obtain ⟨W1, hW1⟩ : ∃ W1, W1 = w.drew.setCells g (0 + i * 3) news := ⟨_, rfl⟩
  have hb1 : W1.heap[g]? = some (.cells (setL cur (0 + i * 3) news) 52 (0, 0)) := by rw [hW1, setCells_put]; exact putL_here news _ w.drew cur hblk
  have hcl : ∀ ty, (Builtin.clear_ #[22] ty #[.slice (some ⟨g, (i + r) * 3, none⟩) (i + 1 + r - (i + r)) (cap - (i + r))]).run Tryd.prog W1 = .ok (.tuple #[]) (W1.setCells g ((i + r) * 3) [.int .i64 0, .slice none 0 0, .slice none 0 0]) := fun ty => by
    have e1 : i + 1 + r - (i + r) = 1 := by omega
    rw [e1]
    have hst := run_storeCells_cells (P := Tryd.prog) g ((i + r) * 3) [.int .i64 0, .slice none 0 0, .slice none 0 0] 0 W1 (fun j hj => by
      rw [cell_of hb1]
      have hj' : j < 3 := hj
      have hq : (i + r) * 3 + 0 + j < (setL cur (0 + i * 3) news).size := by rw [setL_size, hsz]; omega
      rw [Array.getElem?_eq_getElem hq]
      rfl) (fun j hj => free_of hb1 _) (by simp [Value.oneCell'])
    simp only [Nat.add_zero] at hst
    have hzc : (Builtin.zeroCells (.agg #[.int .i64 0, .slice none 0 0, .slice none 0 0] : Value).cells 1).toList = [.int .i64 0, .slice none 0 0, .slice none 0 0] := by simp [Builtin.zeroCells, Value.cells, Array.range]
    simp [Builtin.clear_, run_underlying Tryd.underlying22, Tryd.zeroValue52, hzc, hst]
  have X1 := toHid hW1
  have HH := toHid h
  have HN := toHid hn
  have HNEWS := toHid hnews
  have hic : i + 1 ≤ cap := by omega
  have hcne : ¬ (cap = i + r) := by omega
  have hii : i ≤ cap := by omega
  have hp0 : (0 : Int) ≤ (i : Int) + 1 := by omega
  have hb2 : (i : Int) + 1 ≤ (i : Int) + 1 + (r : Int) := by omega
  have hb3 : (i : Int) + (r : Int) ≤ (i : Int) + 1 + (r : Int) := by omega
  have hb4 : i + 1 + r ≤ cap := by omega
  have hne : ((i : Int) == (i : Int) + 1) = false := by simp; omega
  have hroom : i + r ≤ cap := by omega
  obtain ⟨i0, hi0, hiz, his, hib⟩ := info_Node
  have HI0 := toHid hi0
  have HIS := toHid his
  clear h hn hnews hlen hfl hft hread hcell hfree hblk hb1 hW1 htk hsz hi0 hiz his hib hm
  go_enter Tryd.func46, Tryd.ntmps46
  go_upto_region 5 with fail
  go_region_law (first
    | (refine step_append_room (by rfl) (.tmp 22) (.tmp 25) 22 (by rfl) 52 i0 3 Tryd.underlying22 HI0.out HIS.out g 0 i cap (by simp [Act.eval, Act.put]) A r (cap - (i + 1)) news (by simp [Act.eval, Act.put]) s1.out hsrc.out s2.out hroom s3.out ?_; rw [← X1.out]))
  go_wp2_with fail
  go_ret
  refine ⟨rfl, ?_, ?_⟩
  · have h' : w.drew.ownsRow 0 52 3 (.slice (some ⟨g, 0, none⟩) L.length cap) L.length ((L.map Nd.cells).flatten) := by rw [HN.out]; exact HH.out
    have q := own_erase Nd.cells 3 (fun _ => rfl) L i (by rw [HN.out]; omega) h' [.int .i64 0, .slice none 0 0, .slice none 0 0] rfl
    have e : i + 1 + r - 1 = i + r := by omega
    rw [HN.out, ← HNEWS.out, e] at q
    rw [X1.out, Nat.zero_add]
    exact q
  · rw [X1.out, setCells_put, setCells_put]
    have k1 := putL_bel g news (0 + i * 3) w.drew
    have k2 := putL_bel g [.int .i64 0, .slice none 0 0, .slice none 0 0] ((i + r) * 3) (putL w.drew g (0 + i * 3) news)
    exact ⟨k2.os.trans k1.os, k2.tape.trans k1.tape, k2.output.trans k1.output, Nat.le_trans k1.size k2.size, fun j _ hj => (putL_other g _ _ _ j hj).trans (putL_other g news _ w.drew j hj)⟩

set_option maxHeartbeats 4000000 in
set_option maxRecDepth 100000 in
theorem deleteE_any (L : List Ed) (g cap i r : Nat) (w : World) (hn : L.length = i + 1 + r) (h : w.ownsRow 0 45 5 (.slice (some ⟨g, 0, none⟩) (i + 1 + r) cap) (i + 1 + r) (rowX L)) (hl : i + 1 + r ≤ 1000) :
    Calls Tryd.prog 48 #[.slice (some ⟨g, 0, none⟩) (i + 1 + r) cap, .int .i64 i, .int .i64 (i + 1)] w fun e w' => e = .returned (.slice (some ⟨g, 0, none⟩) (i + r) cap) ∧ w'.ownsRow 0 45 5 (.slice (some ⟨g, 0, none⟩) (i + r) cap) (i + r) (rowX (L.eraseIdx i)) ∧ Rest (fun j => j = g) w w' := by
  obtain ⟨news, hnews⟩ : ∃ z, z = ((L.drop (i + 1)).map Ed.cells).flatten := ⟨_, rfl⟩
  have hlen : news.length = r * 5 := by rw [hnews, flat_len Ed.cells 5 (fun _ => rfl), List.length_drop, hn]; congr 1; omega
  have hfl : rowX L = ((L.take (i + 1)).map Ed.cells).flatten ++ news := by rw [hnews, ← List.flatten_append, ← List.map_append, List.take_append_drop]; rfl
  have hft : ((L.take (i + 1)).map Ed.cells).flatten.length = (i + 1) * 5 := by rw [flat_len Ed.cells 5 (fun _ => rfl), List.length_take, hn, Nat.min_eq_left (by omega)]
  have hm : maxLen ≤ 9223372036854775807 := by unfold maxLen; decide
  obtain ⟨cur, hblk, hnc, hcm, hsz, htk⟩ : ∃ cur, w.heap[g]? = some (.cells cur 45 (0, 0)) ∧ i + 1 + r ≤ cap ∧ cap ≤ 9223372036854775807 ∧ cur.size = cap * 5 ∧ cur.toList.take ((i + 1 + r) * 5) = rowX L := by
    rcases h.2 with ⟨h0, _⟩ | ⟨g', cap', cur, h0, _, h2, h3, h4, h5, h6⟩
    · cases h0
    · injection h0 with e1 _ e3
      injection e1 with e1
      injection e1 with e1
      subst e1 e3
      exact ⟨cur, h2, h3, Nat.le_trans h4 hm, h5, h6⟩
  have hcell : ∀ o, w.cell? ⟨g, o, none⟩ = cur[o]? := fun o => cell_of hblk o
  have hfree : ∀ o, w.frozen? ⟨g, o, none⟩ = false := fun o => free_of hblk o
  have hread : ∀ t u, news[t]? = some u → w.cell? ⟨g, (i + 1) * 5 + t, none⟩ = some u := fun t u hu => by
    have ht : t < news.length := (List.getElem?_eq_some_iff.1 hu).1
    rw [hcell, ← Array.getElem?_toList]
    have e : (rowX L)[(i + 1) * 5 + t]? = some u := by rw [hfl, List.getElem?_append_right (by omega), hft, Nat.add_sub_cancel_left]; exact hu
    rw [← htk, List.getElem?_take] at e
    split at e
    · exact e
    · cases e
  obtain ⟨A, hA, hsrc⟩ : ∃ A : Addr, (if cap = i + 1 then some (⟨g, 0, none⟩ : Addr) else some ⟨g, (i + 1) * 5, none⟩) = some A ∧ Hid (∀ t u, news[t]? = some u → w.drew.cell? (A.add t) = some u) := by
    by_cases hc : cap = i + 1
    · refine ⟨⟨g, 0, none⟩, by simp [hc], fun t u hu => ?_⟩
      have ht : t < news.length := (List.getElem?_eq_some_iff.1 hu).1
      rw [hlen] at ht
      have : r = 0 := by omega
      subst this
      omega
    · refine ⟨⟨g, (i + 1) * 5, none⟩, by simp [hc], fun t u hu => ?_⟩
      rw [add_none]
      exact hread t u hu
  have s1 : Hid (news.length = r * 5) := hlen
  have s2 : Hid (∀ u ∈ news, u.oneCell' = true) := fun u hu => by
    rw [hnews] at hu
    obtain ⟨l, hl1, hl2⟩ := List.mem_flatten.1 hu
    obtain ⟨x, _, rfl⟩ := List.mem_map.1 hl1
    simp [Ed.cells] at hl2; rcases hl2 with rfl | rfl | rfl | rfl | rfl <;> rfl
  have s3 : Hid (∀ t, t < news.length → (w.drew.cell? ⟨g, 0 + i * 5 + t, none⟩).isSome = true ∧ w.drew.frozen? ⟨g, 0 + i * 5 + t, none⟩ = false) := fun t ht => by
    refine ⟨?_, hfree _⟩
    show (w.cell? _).isSome = true
    rw [hcell]
    have hq : 0 + i * 5 + t < cur.size := by rw [hlen] at ht; rw [hsz]; omega
    rw [Array.getElem?_eq_getElem hq]
    rfl
  obtain ⟨W1, hW1⟩ : ∃ W1, W1 = w.drew.setCells g (0 + i * 5) news := ⟨_, rfl⟩
  have hb1 : W1.heap[g]? = some (.cells (setL cur (0 + i * 5) news) 45 (0, 0)) := by rw [hW1, setCells_put]; exact putL_here news _ w.drew cur hblk
  have hcl : ∀ ty, (Builtin.clear_ #[23] ty #[.slice (some ⟨g, (i + r) * 5, none⟩) (i + 1 + r - (i + r)) (cap - (i + r))]).run Tryd.prog W1 = .ok (.tuple #[]) (W1.setCells g ((i + r) * 5) [.int .i64 0, .int .i64 0, .int .i64 0, .string ⟨#[]⟩, .slice none 0 0]) := fun ty => by
    have e1 : i + 1 + r - (i + r) = 1 := by omega
    rw [e1]
    have hst := run_storeCells_cells (P := Tryd.prog) g ((i + r) * 5) [.int .i64 0, .int .i64 0, .int .i64 0, .string ⟨#[]⟩, .slice none 0 0] 0 W1 (fun j hj => by
      rw [cell_of hb1]
      have hj' : j < 5 := hj
      have hq : (i + r) * 5 + 0 + j < (setL cur (0 + i * 5) news).size := by rw [setL_size, hsz]; omega
      rw [Array.getElem?_eq_getElem hq]
      rfl) (fun j hj => free_of hb1 _) (by simp [Value.oneCell'])
    simp only [Nat.add_zero] at hst
    have hzc : (Builtin.zeroCells (.agg #[.int .i64 0, .int .i64 0, .int .i64 0, .string ⟨#[]⟩, .slice none 0 0] : Value).cells 1).toList = [.int .i64 0, .int .i64 0, .int .i64 0, .string ⟨#[]⟩, .slice none 0 0] := by simp [Builtin.zeroCells, Value.cells, Array.range]
    simp [Builtin.clear_, run_underlying Tryd.underlying23, Tryd.zeroValue45, hzc, hst]
  have X1 := toHid hW1
  have HH := toHid h
  have HN := toHid hn
  have HNEWS := toHid hnews
  have hic : i + 1 ≤ cap := by omega
  have hcne : ¬ (cap = i + r) := by omega
  have hii : i ≤ cap := by omega
  have hp0 : (0 : Int) ≤ (i : Int) + 1 := by omega
  have hb2 : (i : Int) + 1 ≤ (i : Int) + 1 + (r : Int) := by omega
  have hb3 : (i : Int) + (r : Int) ≤ (i : Int) + 1 + (r : Int) := by omega
  have hb4 : i + 1 + r ≤ cap := by omega
  have hne : ((i : Int) == (i : Int) + 1) = false := by simp; omega
  have hroom : i + r ≤ cap := by omega
  obtain ⟨i0, hi0, hiz, his, hib⟩ := info_Edge
  have HI0 := toHid hi0
  have HIS := toHid his
  clear h hn hnews hlen hfl hft hread hcell hfree hblk hb1 hW1 htk hsz hi0 hiz his hib hm
  go_enter Tryd.func48, Tryd.ntmps48
  go_upto_region 5 with fail
  go_region_law (first
    | (refine step_append_room (by rfl) (.tmp 22) (.tmp 25) 23 (by rfl) 45 i0 5 Tryd.underlying23 HI0.out HIS.out g 0 i cap (by simp [Act.eval, Act.put]) A r (cap - (i + 1)) news (by simp [Act.eval, Act.put]) s1.out hsrc.out s2.out hroom s3.out ?_; rw [← X1.out]))
  go_wp2_with fail
  go_ret
  refine ⟨rfl, ?_, ?_⟩
  · have h' : w.drew.ownsRow 0 45 5 (.slice (some ⟨g, 0, none⟩) L.length cap) L.length ((L.map Ed.cells).flatten) := by rw [HN.out]; exact HH.out
    have q := own_erase Ed.cells 5 (fun _ => rfl) L i (by rw [HN.out]; omega) h' [.int .i64 0, .int .i64 0, .int .i64 0, .string ⟨#[]⟩, .slice none 0 0] rfl
    have e : i + 1 + r - 1 = i + r := by omega
    rw [HN.out, ← HNEWS.out, e] at q
    rw [X1.out, Nat.zero_add]
    exact q
  · rw [X1.out, setCells_put, setCells_put]
    have k1 := putL_bel g news (0 + i * 5) w.drew
    have k2 := putL_bel g [.int .i64 0, .int .i64 0, .int .i64 0, .string ⟨#[]⟩, .slice none 0 0] ((i + r) * 5) (putL w.drew g (0 + i * 5) news)
    exact ⟨k2.os.trans k1.os, k2.tape.trans k1.tape, k2.output.trans k1.output, Nat.le_trans k1.size k2.size, fun j _ hj => (putL_other g _ _ _ j hj).trans (putL_other g news _ w.drew j hj)⟩
end Go.Proofs.YtaehecajihgggaaDoor
