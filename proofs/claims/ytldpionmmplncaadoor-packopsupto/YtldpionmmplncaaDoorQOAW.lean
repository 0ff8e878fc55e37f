/-
  What is proved here: what the texts HLackT, HPure, KoSame, KoArg, HSameG prove, in one text.
-/
import Derived.Test.YtldpionmmplncaaDoorQOAV
import Derived.Test.YtldpionmmplncaaDoorQOAF
import Derived.Test.YtldpionmmplncaaDoorQOAH
import Derived.Test.YtldpionmmplncaaDoorQOAM
import Derived.Test.YtldpionmmplncaaDoorQOAQ
namespace Go.Proofs.YtldpionmmplncaaDoor
open Go.RowKit
set_option linter.unusedVariables false

theorem lt_block {w : World} {b : Nat} {o : Obj} (h : w.heap[b]? = some o) : b < w.heap.size := (Array.getElem?_eq_some_iff.1 h).1

/-- Where the first one stands that is meant; -1: none. -/
def idxF {α : Type} (s : α → Bool) : Nat → List α → Int
  | _, [] => -1
  | i, y :: ys => if s y = true then (i : Int) else idxF s (i + 1) ys

theorem idxF_any {α : Type} (s : α → Bool) : ∀ (Y : List α) (i : Nat), (Y.any s = true ∧ 0 ≤ idxF s i Y) ∨ (Y.any s = false ∧ idxF s i Y = -1)
  | [], i => .inr ⟨rfl, rfl⟩
  | y :: ys, i => by
    unfold idxF
    by_cases h : s y = true
    · exact .inl ⟨by simp [h], by rw [if_pos h]; omega⟩
    · rw [if_neg h]
      rcases idxF_any s ys (i + 1) with ⟨h1, h2⟩ | ⟨h1, h2⟩
      · exact .inl ⟨by simp [h1], h2⟩
      · exact .inr ⟨by simp [h1]; simpa using h, h2⟩

/-- Those of A of which B has none the same. -/
def lackL {α : Type} (s : α → α → Bool) (A B : List α) : List α := A.filter fun x => !(B.any (s x))

theorem lackL_cons {α : Type} (s : α → α → Bool) (x : α) (A B : List α) : lackL s (x :: A) B = if B.any (s x) = true then lackL s A B else x :: lackL s A B := by
  unfold lackL
  rw [List.filter_cons]
  cases h : B.any (s x) <;> simp

def LackEndN (W w' : World) (X : List AN) (e : Ending) : Prop := ∃ v, e = .returned v ∧ ∃ N, w'.ownsRow W.heap.size 87 3 v N.length (rowN N) ∧ Pair2 (NdIn W) N X
def LackEndE (W w' : World) (X : List AE) (e : Ending) : Prop := ∃ v, e = .returned v ∧ ∃ N, w'.ownsRow W.heap.size 89 5 v N.length (rowX N) ∧ Pair2 (EdIn W) N X

/-- What lacks can be read. -/
theorem LackEndN.reads {W w' : World} {X : List AN} {e : Ending} (h : LackEndN W w' X e) (k : Below W.heap.size W w') : ∃ a c, e = .returned (.slice a X.length c) ∧ X.length ≤ c ∧ NsAt w' X a X.length := by
  obtain ⟨v, rfl, N, h1, h2⟩ := h
  obtain ⟨a, c, rfl, hc⟩ := slice_of_row h1
  have e1 := h2.1
  refine ⟨a, c, by rw [← e1], by omega, N, ?_, h2.mono fun p x _ _ hp => hp.below k⟩
  rw [← e1]
  exact row_nodes h1

theorem LackEndE.reads {W w' : World} {X : List AE} {e : Ending} (h : LackEndE W w' X e) (k : Below W.heap.size W w') : ∃ a c, e = .returned (.slice a X.length c) ∧ X.length ≤ c ∧ EsAt w' X a X.length := by
  obtain ⟨v, rfl, N, h1, h2⟩ := h
  obtain ⟨a, c, rfl, hc⟩ := slice_of_row h1
  have e1 := h2.1
  refine ⟨a, c, by rw [← e1], by omega, N, ?_, h2.mono fun p x _ _ hp => hp.below k⟩
  rw [← e1]
  refine row_edges h1 fun p hp => ?_
  obtain ⟨i, hi⟩ := List.getElem?_of_mem hp
  obtain ⟨x, _, hx⟩ := h2.left hi
  exact hx.2.2.2.2.1

theorem eqB_self {α : Type} (s : α → α → Bool) (h : ∀ x, s x x = true) : ∀ X : List α, eqB s X X = true
  | [] => rfl
  | x :: X => by
    show (s x x && eqB s X X) = true
    rw [h x, eqB_self s h X]
    rfl

theorem sameP_self (x : AP) : sameP x x = true := by
  unfold sameP
  rw [ordT_self]
  simp

theorem sameN_self (x : AN) : sameN x x = true := by
  unfold sameN eqS
  rw [eqB_self _ (fun y => by simp), eqB_self _ sameP_self]
  simp

theorem sameE_self (x : AE) : sameE x x = true := by
  unfold sameE
  rw [eqB_self _ sameP_self]
  simp

theorem lackL_self {α : Type} (s : α → α → Bool) (h : ∀ x, s x x = true) (X : List α) : lackL s X X = [] := by
  unfold lackL
  rw [List.filter_eq_nil_iff]
  intro x hx
  have : X.any (s x) = true := List.any_eq_true.2 ⟨x, hx, h x⟩
  simp [this]

def AO.ok (x : AO) : Prop := x.pr.ok ∧ ∀ p ∈ x.props, p.ok

theorem eqS_self (L : List ByteArray) : eqS L L = true := eqB_self _ (fun x => by simp) L
theorem ord_self (x : AP) : (ordT x.t x.t == 0) = true := by
  have := sameP_self x
  unfold sameP at this
  simp only [Bool.and_eq_true] at this
  exact this.2

set_option maxHeartbeats 4000000 in
set_option maxRecDepth 100000 in
theorem sameOp_self (p q : Oq) (x : AO) (w : World) (h : OpIn w p x) (h' : OpIn w q x) (hx : x.ok) :
    Calls Tryd.prog 20 #[.agg #[.int .i64 p.k, .int .i64 p.id, .int .i64 p.frm, .int .i64 p.dst, .string p.pr.name, .int .i64 p.pr.k, .int .i64 p.pr.n, .string p.pr.s, .slice p.pr.a p.pr.l p.pr.c, .slice p.la p.ll p.lc, .slice p.pa p.pl p.pc], .agg #[.int .i64 q.k, .int .i64 q.id, .int .i64 q.frm, .int .i64 q.dst, .string q.pr.name, .int .i64 q.pr.k, .int .i64 q.pr.n, .string q.pr.s, .slice q.pr.a q.pr.l q.pr.c, .slice q.la q.ll q.lc, .slice q.pa q.pl q.pc]] w fun e w' => e = .returned (.bool true) ∧ Below w.heap.size w w' := by
  obtain ⟨⟨a1, a2, a3, a4⟩, ⟨hn, _, _, h2, Lt, h3, h4⟩, hl, hS, hP, hpp⟩ := h
  obtain ⟨⟨b1, b2, b3, b4⟩, ⟨gn, _, _, g2, Lu, g3, g4⟩, gl, gS, gP, gpp⟩ := h'
  have HW : Hid (wtL Lt ≤ 1099511627776 ∧ wtL Lu ≤ 1099511627776) := by
    have hx1 := hx.1
    have hx2 := hx.1
    unfold AP.ok at hx1 hx2
    rw [h3] at hx1
    rw [g3] at hx2
    unfold wtT at hx1 hx2
    exact toHid ⟨by omega, by omega⟩
  have HC : Hid (∀ W, Below w.heap.size w W → Calls Tryd.prog 21 #[.agg #[.int .i64 p.pr.k, .int .i64 p.pr.n, .string p.pr.s, .slice p.pr.a p.pr.l p.pr.c], .agg #[.int .i64 q.pr.k, .int .i64 q.pr.n, .string q.pr.s, .slice q.pr.a q.pr.l q.pr.c]] W fun e w' => e = .returned (.bool true) ∧ Below W.heap.size W w') := by
    intro W kW
    have := same_of p.pr.k p.pr.n p.pr.s p.pr.a p.pr.l p.pr.c q.pr.k q.pr.n q.pr.s q.pr.a q.pr.l q.pr.c (ordT (.node p.pr.k p.pr.n p.pr.s Lt) (.node q.pr.k q.pr.n q.pr.s Lu)) W fun W' kW' => ref_ord63 (wtL Lt) p.pr.k p.pr.n p.pr.s p.pr.a p.pr.l p.pr.c Lt q.pr.k q.pr.n q.pr.s q.pr.a q.pr.l q.pr.c Lu W' (Nat.le_refl _) (by have := HW.out.1; omega) (by have := HW.out.2; omega) (((LieA.lies _ _ _ h4).below kW).below kW') (((LieA.lies _ _ _ g4).below kW).below kW')
    rw [← h3, ← g3, ord_self x.pr] at this
    exact this
  have HL : Hid (∀ W, Below w.heap.size w W → Calls Tryd.prog 22 #[.slice p.la p.ll p.lc, .slice q.la q.ll q.lc] W fun e w' => e = .returned (.bool true) ∧ Below W.heap.size W w') := by
    intro W kW
    have := equal_strs p.labs q.labs p.la p.ll p.lc q.la q.ll q.lc W (hS.below kW) (gS.below kW)
    rw [hl, gl, eqS_self] at this
    exact this
  have HP : Hid (∀ W, Below w.heap.size w W → Calls Tryd.prog 23 #[.slice p.pa p.pl p.pc, .slice q.pa q.pl q.pc] W fun e w' => e = .returned (.bool true) ∧ Below W.heap.size W w') := by
    intro W kW
    have := sameProps_ref x.props x.props p.pa p.pl p.pc q.pa q.pl q.pc W (PsAt.below ⟨_, hP, hpp⟩ kW) (PsAt.below ⟨_, gP, gpp⟩ kW) hx.2 hx.2
    rw [eqB_self _ sameP_self] at this
    exact this
  have c1 : p.k = q.k := a1.trans b1.symm
  have c2 : p.id = q.id := a2.trans b2.symm
  have c3 : p.frm = q.frm := a3.trans b3.symm
  have c4 : p.dst = q.dst := a4.trans b4.symm
  have c5 : p.pr.name = q.pr.name := hn.trans gn.symm
  rw [c1, c2, c3, c4, c5]
  clear a1 a2 a3 a4 hn h2 h3 h4 hl hS hP hpp b1 b2 b3 b4 gn g2 g3 g4 gl gS gP gpp hx HW c1 c2 c3 c4 c5
  have hb0 : Below w.heap.size w ((w.alloc (.cells #[.int .i64 q.k, .int .i64 q.id, .int .i64 q.frm, .int .i64 q.dst, .string q.pr.name, .int .i64 p.pr.k, .int .i64 p.pr.n, .string p.pr.s, .slice p.pr.a p.pr.l p.pr.c, .slice p.la p.ll p.lc, .slice p.pa p.pl p.pc] 38)).alloc (.cells #[.int .i64 q.k, .int .i64 q.id, .int .i64 q.frm, .int .i64 q.dst, .string q.pr.name, .int .i64 q.pr.k, .int .i64 q.pr.n, .string q.pr.s, .slice q.pr.a q.pr.l q.pr.c, .slice q.la q.ll q.lc, .slice q.pa q.pl q.pc] 38)) := ((Below.refl _ _).alloc (Nat.le_refl _) _).alloc (by simp) _
  have HB0 := toHid hb0
  have z0 : ((w.alloc (.cells #[.int .i64 q.k, .int .i64 q.id, .int .i64 q.frm, .int .i64 q.dst, .string q.pr.name, .int .i64 p.pr.k, .int .i64 p.pr.n, .string p.pr.s, .slice p.pr.a p.pr.l p.pr.c, .slice p.la p.ll p.lc, .slice p.pa p.pl p.pc] 38)).alloc (.cells #[.int .i64 q.k, .int .i64 q.id, .int .i64 q.frm, .int .i64 q.dst, .string q.pr.name, .int .i64 q.pr.k, .int .i64 q.pr.n, .string q.pr.s, .slice q.pr.a q.pr.l q.pr.c, .slice q.la q.ll q.lc, .slice q.pa q.pl q.pc] 38)).heap.size = w.heap.size + 2 := by simp
  have HU := toHid ((Below.heap_alloc (w.alloc (.cells #[.int .i64 q.k, .int .i64 q.id, .int .i64 q.frm, .int .i64 q.dst, .string q.pr.name, .int .i64 p.pr.k, .int .i64 p.pr.n, .string p.pr.s, .slice p.pr.a p.pr.l p.pr.c, .slice p.la p.ll p.lc, .slice p.pa p.pl p.pc] 38)) (.cells #[.int .i64 q.k, .int .i64 q.id, .int .i64 q.frm, .int .i64 q.dst, .string q.pr.name, .int .i64 q.pr.k, .int .i64 q.pr.n, .string q.pr.s, .slice q.pr.a q.pr.l q.pr.c, .slice q.la q.ll q.lc, .slice q.pa q.pl q.pc] 38) w.heap.size (by simp)).trans (alloc_new w (.cells #[.int .i64 q.k, .int .i64 q.id, .int .i64 q.frm, .int .i64 q.dst, .string q.pr.name, .int .i64 p.pr.k, .int .i64 p.pr.n, .string p.pr.s, .slice p.pr.a p.pr.l p.pr.c, .slice p.la p.ll p.lc, .slice p.pa p.pl p.pc] 38)))
  have HV := toHid (alloc_two w (.cells #[.int .i64 q.k, .int .i64 q.id, .int .i64 q.frm, .int .i64 q.dst, .string q.pr.name, .int .i64 p.pr.k, .int .i64 p.pr.n, .string p.pr.s, .slice p.pr.a p.pr.l p.pr.c, .slice p.la p.ll p.lc, .slice p.pa p.pl p.pc] 38) (.cells #[.int .i64 q.k, .int .i64 q.id, .int .i64 q.frm, .int .i64 q.dst, .string q.pr.name, .int .i64 q.pr.k, .int .i64 q.pr.n, .string q.pr.s, .slice q.pr.a q.pr.l q.pr.c, .slice q.la q.ll q.lc, .slice q.pa q.pl q.pc] 38))
  have HZ := toHid z0
  clear hb0 z0
  go_enter Tryd.func20, Tryd.ntmps20
  go_upto_region 1 with fail
  generalize (w.alloc (.cells #[.int .i64 q.k, .int .i64 q.id, .int .i64 q.frm, .int .i64 q.dst, .string q.pr.name, .int .i64 p.pr.k, .int .i64 p.pr.n, .string p.pr.s, .slice p.pr.a p.pr.l p.pr.c, .slice p.la p.ll p.lc, .slice p.pa p.pl p.pc] 38)).alloc (.cells #[.int .i64 q.k, .int .i64 q.id, .int .i64 q.frm, .int .i64 q.dst, .string q.pr.name, .int .i64 q.pr.k, .int .i64 q.pr.n, .string q.pr.s, .slice q.pr.a q.pr.l q.pr.c, .slice q.la q.ll q.lc, .slice q.pa q.pl q.pc] 38) = W0 at HB0 HU HV HZ ⊢
  have r0 := cell_of HU.out 0
  have r1 := cell_of HU.out 1
  have r2 := cell_of HU.out 2
  have r3 := cell_of HU.out 3
  have r4 := cell_of HU.out 4
  have r5 := cell_of HU.out 5
  have r6 := cell_of HU.out 6
  have r7 := cell_of HU.out 7
  have r8 := cell_of HU.out 8
  have r9 := cell_of HU.out 9
  have r10 := cell_of HU.out 10
  have t0 := cell_of HV.out 0
  have t1 := cell_of HV.out 1
  have t2 := cell_of HV.out 2
  have t3 := cell_of HV.out 3
  have t4 := cell_of HV.out 4
  have t5 := cell_of HV.out 5
  have t6 := cell_of HV.out 6
  have t7 := cell_of HV.out 7
  have t8 := cell_of HV.out 8
  have t9 := cell_of HV.out 9
  have t10 := cell_of HV.out 10
  simp at r0 r1 r2 r3 r4 r5 r6 r7 r8 r9 r10 t0 t1 t2 t3 t4 t5 t6 t7 t8 t9 t10
  go_wp2_with fail
  refine (HC.out _ HB0.out).mono ?_
  rintro e w1 ⟨rfl, k1⟩
  have HB1 := toHid (HB0.out.trans (k1.mono HB0.out.size))
  have HU1 := toHid ((k1.block w.heap.size (by rw [HZ.out]; omega)).trans HU.out)
  have HV1 := toHid ((k1.block (w.heap.size + 1) (by rw [HZ.out]; omega)).trans HV.out)
  have z1 : w.heap.size + 1 < w1.heap.size := (Array.getElem?_eq_some_iff.1 HV1.out).1
  clear k1 r0 r1 r2 r3 r4 r5 r6 r7 r8 r9 r10 t0 t1 t2 t3 t4 t5 t6 t7 t8 t9 t10
  have r9 := cell_of HU1.out 9
  have r10 := cell_of HU1.out 10
  have t9 := cell_of HV1.out 9
  have t10 := cell_of HV1.out 10
  simp at r9 r10 t9 t10
  go_wp2_with fail
  refine (HL.out _ HB1.out).mono ?_
  rintro e w2 ⟨rfl, k2⟩
  have HB2 := toHid (HB1.out.trans (k2.mono HB1.out.size))
  have HU2 := toHid ((k2.block w.heap.size (by omega)).trans HU1.out)
  have HV2 := toHid ((k2.block (w.heap.size + 1) z1).trans HV1.out)
  clear k2 r9 r10 t9 t10
  have r10 := cell_of HU2.out 10
  have t10 := cell_of HV2.out 10
  simp at r10 t10
  go_wp2_with fail
  refine (HP.out _ HB2.out).mono ?_
  rintro e w3 ⟨rfl, k3⟩
  have HB3 := toHid (HB2.out.trans (k3.mono HB2.out.size))
  clear k3 r10 t10
  go_wp2_with fail
  go_ret
  exact ⟨rfl, HB3.out⟩

set_option maxHeartbeats 4000000 in
set_option maxRecDepth 100000 in
theorem equalO_self (X : List AO) (a : Option Addr) (l c : Nat) (a' : Option Addr) (l' c' : Nat) (w : World) (h : OsAt w X a l) (h' : OsAt w X a' l') (hX : ∀ x ∈ X, x.ok) :
    Calls Tryd.prog 19 #[.slice a l c, .slice a' l' c', .func (.func 20) #[] #[]] w fun e w' => e = .returned (.bool true) ∧ Below w.heap.size w w' := by
  have e1 := at_lenO h
  have e2 := at_lenO h'
  have hll : l' = l := by omega
  subst hll
  have HX := toHid hX
  have H1 := toHid h
  have H2 := toHid h'
  have HL := toHid e1.1
  have hmx := e1.2
  clear h h' hX e1 e2
  go_enter Tryd.func19, Tryd.ntmps19
  go_wp2_with fail
  go_loopg [17] l' (fun g s17 wr => ∃ i : Nat, i ≤ l' ∧ l' - i ≤ g ∧ s17 = .int .i64 i ∧ Below w.heap.size w wr)
  case atStart => exact ⟨0, Nat.zero_le _, by omega, rfl, Below.refl _ _⟩
  case round =>
    obtain ⟨i, hi, hg, rfl, hbw⟩ := hrel
    by_cases hlt : i < l'
    · have hil : (i : Int) < l' := by omega
      obtain ⟨y, hy⟩ : ∃ y, X[i]? = some y := ⟨X[i]'(by rw [← HL.out]; exact hlt), List.getElem?_eq_getElem _⟩
      obtain ⟨P, ⟨hl1, _, hat⟩, hpair⟩ := H1.out
      obtain ⟨P', ⟨hl2, _, hat'⟩, hpair'⟩ := H2.out
      obtain ⟨p, hp, hpi⟩ := hpair.right hy
      obtain ⟨q, hq, hqi⟩ := hpair'.right hy
      obtain ⟨nb, off, ha, hnb, hc⟩ := hat (by omega)
      obtain ⟨mb, off', ha', hmb, hc'⟩ := hat' (by omega)
      subst ha ha'
      obtain ⟨c0, c1, c2, c3, c4, c5, c6, c7, c8, c9, c10⟩ := hc i p hp
      obtain ⟨e0, e1, e2, e3, e4, e5, e6, e7, e8, e9, e10⟩ := hc' i q hq
      have k1 : ∀ o, wr.cell? ⟨nb, o, none⟩ = w.cell? ⟨nb, o, none⟩ := fun o => hbw.cell (p := ⟨nb, o, none⟩) hnb
      have k2 : ∀ o, wr.cell? ⟨mb, o, none⟩ = w.cell? ⟨mb, o, none⟩ := fun o => hbw.cell (p := ⟨mb, o, none⟩) hmb
      have d0 := (k1 _).trans c0
      have d1 := (k1 _).trans c1
      have d2 := (k1 _).trans c2
      have d3 := (k1 _).trans c3
      have d4 := (k1 _).trans c4
      have d5 := (k1 _).trans c5
      have d6 := (k1 _).trans c6
      have d7 := (k1 _).trans c7
      have d8 := (k1 _).trans c8
      have d9 := (k1 _).trans c9
      have d10 := (k1 _).trans c10
      have kP : Below wr.heap.size wr (wr.alloc (.cells #[.int .i64 p.k, .int .i64 p.id, .int .i64 p.frm, .int .i64 p.dst, .string p.pr.name, .int .i64 p.pr.k, .int .i64 p.pr.n, .string p.pr.s, .slice p.pr.a p.pr.l p.pr.c, .slice p.la p.ll p.lc, .slice p.pa p.pl p.pc] 38)) := (Below.refl _ _).alloc (Nat.le_refl _) _
      have HBP := toHid (alloc_new wr (.cells #[.int .i64 p.k, .int .i64 p.id, .int .i64 p.frm, .int .i64 p.dst, .string p.pr.name, .int .i64 p.pr.k, .int .i64 p.pr.n, .string p.pr.s, .slice p.pr.a p.pr.l p.pr.c, .slice p.la p.ll p.lc, .slice p.pa p.pl p.pc] 38))
      have hmb2 : mb < wr.heap.size := Nat.lt_of_lt_of_le hmb hbw.size
      have k3 : ∀ o, (wr.alloc (.cells #[.int .i64 p.k, .int .i64 p.id, .int .i64 p.frm, .int .i64 p.dst, .string p.pr.name, .int .i64 p.pr.k, .int .i64 p.pr.n, .string p.pr.s, .slice p.pr.a p.pr.l p.pr.c, .slice p.la p.ll p.lc, .slice p.pa p.pl p.pc] 38)).cell? ⟨mb, o, none⟩ = wr.cell? ⟨mb, o, none⟩ := fun o => kP.cell (p := ⟨mb, o, none⟩) hmb2
      have g0 := ((k3 _).trans (k2 _)).trans e0
      have g1 := ((k3 _).trans (k2 _)).trans e1
      have g2 := ((k3 _).trans (k2 _)).trans e2
      have g3 := ((k3 _).trans (k2 _)).trans e3
      have g4 := ((k3 _).trans (k2 _)).trans e4
      have g5 := ((k3 _).trans (k2 _)).trans e5
      have g6 := ((k3 _).trans (k2 _)).trans e6
      have g7 := ((k3 _).trans (k2 _)).trans e7
      have g8 := ((k3 _).trans (k2 _)).trans e8
      have g9 := ((k3 _).trans (k2 _)).trans e9
      have g10 := ((k3 _).trans (k2 _)).trans e10
      have HPI := toHid hpi
      have HQI := toHid hqi
      have HOK := toHid (HX.out y (List.mem_of_getElem? hy))
      have hz : (wr.alloc (.cells #[.int .i64 p.k, .int .i64 p.id, .int .i64 p.frm, .int .i64 p.dst, .string p.pr.name, .int .i64 p.pr.k, .int .i64 p.pr.n, .string p.pr.s, .slice p.pr.a p.pr.l p.pr.c, .slice p.la p.ll p.lc, .slice p.pa p.pl p.pc] 38)).heap.size = wr.heap.size + 1 := by simp
      have HZ := toHid hz
      clear hl1 hl2 hc hc' hp hq hpi hqi hpair hpair' hat hat' hy k1 k2 k3 hz c0 c1 c2 c3 c4 c5 c6 c7 c8 c9 c10 e0 e1 e2 e3 e4 e5 e6 e7 e8 e9 e10
      go_upto_region 6 with fail
      generalize wr.alloc (.cells #[.int .i64 p.k, .int .i64 p.id, .int .i64 p.frm, .int .i64 p.dst, .string p.pr.name, .int .i64 p.pr.k, .int .i64 p.pr.n, .string p.pr.s, .slice p.pr.a p.pr.l p.pr.c, .slice p.la p.ll p.lc, .slice p.pa p.pl p.pc] 38) = WA at kP HBP HZ g0 g1 g2 g3 g4 g5 g6 g7 g8 g9 g10 ⊢
      clear d0 d1 d2 d3 d4 d5 d6 d7 d8 d9 d10
      have kQ : Below WA.heap.size WA (WA.alloc (.cells #[.int .i64 q.k, .int .i64 q.id, .int .i64 q.frm, .int .i64 q.dst, .string q.pr.name, .int .i64 q.pr.k, .int .i64 q.pr.n, .string q.pr.s, .slice q.pr.a q.pr.l q.pr.c, .slice q.la q.ll q.lc, .slice q.pa q.pl q.pc] 38)) := (Below.refl _ _).alloc (Nat.le_refl _) _
      have HBQ := toHid (alloc_new WA (.cells #[.int .i64 q.k, .int .i64 q.id, .int .i64 q.frm, .int .i64 q.dst, .string q.pr.name, .int .i64 q.pr.k, .int .i64 q.pr.n, .string q.pr.s, .slice q.pr.a q.pr.l q.pr.c, .slice q.la q.ll q.lc, .slice q.pa q.pl q.pc] 38))
      go_upto_region 7 with fail
      generalize WA.alloc (.cells #[.int .i64 q.k, .int .i64 q.id, .int .i64 q.frm, .int .i64 q.dst, .string q.pr.name, .int .i64 q.pr.k, .int .i64 q.pr.n, .string q.pr.s, .slice q.pr.a q.pr.l q.pr.c, .slice q.la q.ll q.lc, .slice q.pa q.pl q.pc] 38) = WB at kQ HBQ ⊢
      clear g0 g1 g2 g3 g4 g5 g6 g7 g8 g9 g10
      have HBP2 := toHid ((kQ.block wr.heap.size (by rw [HZ.out]; omega)).trans HBP.out)
      have HKB := toHid (below2 (below2 hbw kP) kQ)
      have r0 := cell_of HBP2.out 0
      have r1 := cell_of HBP2.out 1
      have r2 := cell_of HBP2.out 2
      have r3 := cell_of HBP2.out 3
      have r4 := cell_of HBP2.out 4
      have r5 := cell_of HBP2.out 5
      have r6 := cell_of HBP2.out 6
      have r7 := cell_of HBP2.out 7
      have r8 := cell_of HBP2.out 8
      have r9 := cell_of HBP2.out 9
      have r10 := cell_of HBP2.out 10
      have t0 := cell_of HBQ.out 0
      have t1 := cell_of HBQ.out 1
      have t2 := cell_of HBQ.out 2
      have t3 := cell_of HBQ.out 3
      have t4 := cell_of HBQ.out 4
      have t5 := cell_of HBQ.out 5
      have t6 := cell_of HBQ.out 6
      have t7 := cell_of HBQ.out 7
      have t8 := cell_of HBQ.out 8
      have t9 := cell_of HBQ.out 9
      have t10 := cell_of HBQ.out 10
      simp at r0 r1 r2 r3 r4 r5 r6 r7 r8 r9 r10 t0 t1 t2 t3 t4 t5 t6 t7 t8 t9 t10
      have HSO := toHid (sameOp_self p q y WB (HPI.out.below HKB.out) (HQI.out.below HKB.out) HOK.out)
      go_wp2_with fail
      refine HSO.out.mono ?_
      rintro e w2 ⟨rfl, j2⟩
      have HK2 := toHid (below2 HKB.out j2)
      clear j2 HSO r0 r1 r2 r3 r4 r5 r6 r7 r8 r9 r10 t0 t1 t2 t3 t4 t5 t6 t7 t8 t9 t10
      go_wp2_with fail
      go_roundg (l' - (i + 1))
      case measure => omega
      case rel => exact ⟨i + 1, by omega, by omega, by go_num, HK2.out⟩
    · have hil : ¬ (i : Int) < l' := by omega
      go_wp2_with fail
      go_ret
      exact ⟨rfl, hbw⟩

theorem sameOps_self (X : List AO) (a : Option Addr) (l c : Nat) (a' : Option Addr) (l' c' : Nat) (w : World) (h : OsAt w X a l) (h' : OsAt w X a' l') (hX : ∀ x ∈ X, x.ok) :
    Calls Tryd.prog 8 #[.slice a l c, .slice a' l' c'] w fun e w' => e = .returned (.bool true) ∧ Below w.heap.size w w' := by
  have HC := toHid (equalO_self X a l c a' l' c' w h h' hX)
  clear h h' hX
  go_enter Tryd.func8, Tryd.ntmps8
  go_wp2_with fail
  refine HC.out.mono ?_
  rintro e w1 ⟨rfl, k1⟩
  go_wp2_with fail
  go_ret
  exact ⟨rfl, k1⟩

set_option linter.unusedSimpArgs false

theorem cells11q : Tryd.prog.cellsOf 38 = 11 := by kernel_rfl

theorem len11q {cs : List Value} (h : cs.length = 11) : ∃ c0 c1 c2 c3 c4 c5 c6 c7 c8 c9 c10, cs = [c0, c1, c2, c3, c4, c5, c6, c7, c8, c9, c10] := by
  match cs, h with
  | [c0, c1, c2, c3, c4, c5, c6, c7, c8, c9, c10], _ => exact ⟨c0, c1, c2, c3, c4, c5, c6, c7, c8, c9, c10, rfl⟩

theorem wf_lowq {n : Int} (h : (Lit.int .i64 n).wf = true) : -9223372036854775808 ≤ n ∧ n ≤ 9223372036854775807 := by simpa [Lit.wf, IntKind.min, IntKind.max, IntKind.signed, IntKind.bits] using h

/-- What is asked of an operation in memory, with its weight. -/
def OOkU (w : World) (M : Nat) (p : Oq) : Prop := OOk w p ∧ ((-9223372036854775808 ≤ p.k ∧ p.k ≤ 9223372036854775807) ∧ (-9223372036854775808 ≤ p.id ∧ p.id ≤ 9223372036854775807) ∧ (-9223372036854775808 ≤ p.frm ∧ p.frm ≤ 9223372036854775807) ∧ (-9223372036854775808 ≤ p.dst ∧ p.dst ≤ 9223372036854775807)) ∧ PrOkU w M p.pr ∧ ∀ q ∈ p.props, PrOkU w M q

section
variable {H : Type} {enc : TypeId × Value → H} {w : World} {base : Nat} {spare : Nat → Bool} {held : Bool}

theorem trod_opU {fuel : Nat} {cs : List Value} {x : DataW H × List MemPlace} (h : DataW.trod enc Tryd.prog w base spare held fuel 38 cs = some x) :
    ∃ k id frm dst name vk vn vs va vl vc la ll lc pa pl pc m m' y1 y2 y3, cs = [.int .i64 k, .int .i64 id, .int .i64 frm, .int .i64 dst, .string name, .int .i64 vk, .int .i64 vn, .string vs, .slice va vl vc, .slice la ll lc, .slice pa pl pc] ∧ (Lit.int .i64 k).wf = true ∧ (Lit.int .i64 id).wf = true ∧ (Lit.int .i64 frm).wf = true ∧ (Lit.int .i64 dst).wf = true ∧ name.size ≤ maxLen ∧ (Lit.int .i64 vn).wf = true ∧ vs.size ≤ maxLen ∧ DataW.trod enc Tryd.prog w base spare held m' 32 [.slice va vl vc] = some y1 ∧ DataW.trod enc Tryd.prog w base spare held m 35 [.slice la ll lc] = some y2 ∧ DataW.trod enc Tryd.prog w base spare held m 36 [.slice pa pl pc] = some y3 ∧ Rows.uptoBulk y1.1 ≤ Rows.uptoBulk x.1 ∧ Rows.uptoBulk y3.1 ≤ Rows.uptoBulk x.1 := by
  obtain ⟨xs, m, rfl, rfl, hlen, hxs, hf⟩ := DataW.trod_struct Tryd.underlying38 h
  rw [cells11q] at hlen
  obtain ⟨c0, c1, c2, c3, c4, c5, c6, c7, c8, c9, c10, rfl⟩ := len11q hlen
  have f0 : DataW.trod enc Tryd.prog w base spare held m 3 (([c0, c1, c2, c3, c4, c5, c6, c7, c8, c9, c10].drop 0).take (Tryd.prog.cellsOf 3)) = xs[0]? := hf 0 _ rfl
  have f1 : DataW.trod enc Tryd.prog w base spare held m 3 (([c0, c1, c2, c3, c4, c5, c6, c7, c8, c9, c10].drop 1).take (Tryd.prog.cellsOf 3)) = xs[1]? := hf 1 _ rfl
  have f2 : DataW.trod enc Tryd.prog w base spare held m 3 (([c0, c1, c2, c3, c4, c5, c6, c7, c8, c9, c10].drop 2).take (Tryd.prog.cellsOf 3)) = xs[2]? := hf 2 _ rfl
  have f3 : DataW.trod enc Tryd.prog w base spare held m 3 (([c0, c1, c2, c3, c4, c5, c6, c7, c8, c9, c10].drop 3).take (Tryd.prog.cellsOf 3)) = xs[3]? := hf 3 _ rfl
  have f4 : DataW.trod enc Tryd.prog w base spare held m 9 (([c0, c1, c2, c3, c4, c5, c6, c7, c8, c9, c10].drop 4).take (Tryd.prog.cellsOf 9)) = xs[4]? := hf 4 _ rfl
  have f5 : DataW.trod enc Tryd.prog w base spare held m 34 (([c0, c1, c2, c3, c4, c5, c6, c7, c8, c9, c10].drop 5).take (Tryd.prog.cellsOf 34)) = xs[5]? := hf 5 _ rfl
  have f6 : DataW.trod enc Tryd.prog w base spare held m 35 (([c0, c1, c2, c3, c4, c5, c6, c7, c8, c9, c10].drop 9).take (Tryd.prog.cellsOf 35)) = xs[6]? := hf 6 _ rfl
  have f7 : DataW.trod enc Tryd.prog w base spare held m 36 (([c0, c1, c2, c3, c4, c5, c6, c7, c8, c9, c10].drop 10).take (Tryd.prog.cellsOf 36)) = xs[7]? := hf 7 _ rfl
  have hx : xs.length = 8 := hxs
  obtain ⟨y0, hy0⟩ : ∃ y, xs[0]? = some y := ⟨xs[0], by simp [hx]⟩
  obtain ⟨y1, hy1⟩ : ∃ y, xs[1]? = some y := ⟨xs[1], by simp [hx]⟩
  obtain ⟨y2, hy2⟩ : ∃ y, xs[2]? = some y := ⟨xs[2], by simp [hx]⟩
  obtain ⟨y3, hy3⟩ : ∃ y, xs[3]? = some y := ⟨xs[3], by simp [hx]⟩
  obtain ⟨y4, hy4⟩ : ∃ y, xs[4]? = some y := ⟨xs[4], by simp [hx]⟩
  obtain ⟨y5, hy5⟩ : ∃ y, xs[5]? = some y := ⟨xs[5], by simp [hx]⟩
  obtain ⟨y6, hy6⟩ : ∃ y, xs[6]? = some y := ⟨xs[6], by simp [hx]⟩
  obtain ⟨y7, hy7⟩ : ∃ y, xs[7]? = some y := ⟨xs[7], by simp [hx]⟩
  rw [hy0, cells1i] at f0
  rw [hy1, cells1i] at f1
  rw [hy2, cells1i] at f2
  rw [hy3, cells1i] at f3
  rw [hy4, cells1s] at f4
  rw [hy5, cells4] at f5
  rw [hy6, cells1t] at f6
  rw [hy7, cells1p] at f7
  have g0 : DataW.trod enc Tryd.prog w base spare held m 3 [c0] = some y0 := f0
  have g1 : DataW.trod enc Tryd.prog w base spare held m 3 [c1] = some y1 := f1
  have g2 : DataW.trod enc Tryd.prog w base spare held m 3 [c2] = some y2 := f2
  have g3 : DataW.trod enc Tryd.prog w base spare held m 3 [c3] = some y3 := f3
  have g4 : DataW.trod enc Tryd.prog w base spare held m 9 [c4] = some y4 := f4
  have g5 : DataW.trod enc Tryd.prog w base spare held m 34 [c5, c6, c7, c8] = some y5 := f5
  have g6 : DataW.trod enc Tryd.prog w base spare held m 35 [c9] = some y6 := f6
  have g7 : DataW.trod enc Tryd.prog w base spare held m 36 [c10] = some y7 := f7
  obtain ⟨k, e0, _, w0⟩ := DataW.trod_int Tryd.underlying3 g0
  obtain ⟨id, e1, _, w1⟩ := DataW.trod_int Tryd.underlying3 g1
  obtain ⟨frm, e2, _, w2⟩ := DataW.trod_int Tryd.underlying3 g2
  obtain ⟨dst, e3, _, w3⟩ := DataW.trod_int Tryd.underlying3 g3
  obtain ⟨name, e4, _, w4⟩ := DataW.trod_string Tryd.underlying9 g4
  have hb5 := bulk_part (List.mem_map_of_mem (f := (·.1)) (List.mem_of_getElem? hy5))
  have hb7 := bulk_part (List.mem_map_of_mem (f := (·.1)) (List.mem_of_getElem? hy7))
  obtain ⟨vk, vn, vs, va, vl, vc, m', y, e5, wk, wn, hs, hm', hy⟩ := trod_value g5
  obtain ⟨k3, n3, s3, a3, l3, c3', m3, y3', e6, _, hm3, hy3', hb3⟩ := trod_weight g5
  rw [e5] at e6
  simp only [List.cons.injEq, and_true, Value.int.injEq, Value.string.injEq, Value.slice.injEq, true_and] at e6
  obtain ⟨rfl, rfl, rfl, rfl, rfl, rfl⟩ := e6
  obtain rfl : m' = m3 := by omega
  rw [hy] at hy3'
  obtain rfl := Option.some.inj hy3'
  obtain ⟨la, ll, lc, rfl⟩ := slice_form Tryd.underlying35 g6
  obtain ⟨pa, pl, pc, rfl⟩ := slice_form Tryd.underlying36 g7
  simp only [List.cons.injEq, and_true] at e0 e1 e2 e3 e4 e5
  obtain ⟨rfl, rfl, rfl, rfl⟩ := e5
  subst e0 e1 e2 e3 e4
  exact ⟨k, id, frm, dst, name, vk, vn, vs, va, vl, vc, la, ll, lc, pa, pl, pc, m, m', y, y6, y7, rfl, w0, w1, w2, w3, w4, wn, hs, hy, g6, g7, by simp only [Rows.uptoBulk]; omega, by simp only [Rows.uptoBulk]; omega⟩

theorem op_inU (M B : Nat) (hB : B ≤ w.heap.size) (hT : Tabs B w) {fuel : Nat} {cs : List Value} {x : DataW H × List MemPlace} (h : DataW.trod enc Tryd.prog w base spare held fuel 38 cs = some x) (hM : Rows.uptoBulk x.1 ≤ M) : ∃ o : Oq, cs = o.cells ∧ OOkU w M o := by
  have hm : maxLen ≤ 9223372036854775807 := by unfold maxLen; decide
  obtain ⟨k, id, frm, dst, name, vk, vn, vs, va, vl, vc, la, ll, lc, pa, pl, pc, m, m', y1, y2, y3, rfl, w0, w1, w2, w3, hn, wn, hs, q1, q2, q3, b1, b3⟩ := trod_opU h
  obtain ⟨_, L9, hL9, hw9⟩ := tree_of m' q1
  obtain ⟨hvc, Lv, hLv, hin⟩ := tree_in m' q1
  obtain ⟨_, labs, hlabs⟩ := strs_in q2
  obtain ⟨_, P, hP, hO⟩ := props_inU M B hB hT q3 (by omega)
  have hT2 : InT (.node vk vn vs Lv) := by
    unfold InT
    exact ⟨wf_lowq wn, hin⟩
  obtain ⟨e, he, hck⟩ := bk_all B w hB hT 6 0 rfl vk vn vs va vl vc Lv (by omega) hT2 hLv
  have hpr : PrOkU w M ⟨name, vk, vn, vs, va, vl, vc, e⟩ := ⟨⟨⟨(by show vs.size ≤ _; omega), hvc⟩, Lv, hT2, hLv, he, hck⟩, fun L8 hL8 => by rw [liesS_one L8 L9 _ _ hL8 hL9]; omega⟩
  exact ⟨⟨k, id, frm, dst, ⟨name, vk, vn, vs, va, vl, vc, e⟩, labs, la, ll, lc, P, pa, pl, pc⟩, rfl, ⟨⟨by show name.size ≤ _; omega, hpr.1⟩, hlabs, hP, fun q hq => (hO q hq).1⟩, ⟨wf_lowq w0, wf_lowq w1, wf_lowq w2, wf_lowq w3⟩, hpr, hO⟩

theorem ops_inU (M B : Nat) (hB : B ≤ w.heap.size) (hT : Tabs B w) {fuel : Nat} {a : Option Addr} {l c : Nat} {y : DataW H × List MemPlace} (h : DataW.trod enc Tryd.prog w base spare held fuel 22 [.slice a l c] = some y) (hM : Rows.uptoBulk y.1 ≤ M) : ∃ P, OpsAt w P a l ∧ ∀ p ∈ P, OOkU w M p := by
  obtain ⟨h1, h2, h3⟩ := slice_rowsU Tryd.underlying22 cells11q (by omega) h
  by_cases h0 : l = 0
  · subst h0
    exact ⟨[], ⟨rfl, by omega, fun h => absurd h (Nat.lt_irrefl _)⟩, fun p hp => by cases hp⟩
  · obtain ⟨b, off, ha, hb, hall⟩ := h3 (by omega)
    obtain ⟨L, hl, hL⟩ := list_of (fun i (o : Oq) => (∀ j v, o.cells[j]? = some v → w.cell? ⟨b, off + i * 11 + j, none⟩ = some v) ∧ OOkU w M o) l (fun i hi => by
      obtain ⟨m, cs, z, q1, q2, q3, q4⟩ := hall i hi
      obtain ⟨o, rfl, ho⟩ := op_inU M B hB hT q3 (by omega)
      exact ⟨o, q2, ho⟩)
    refine ⟨L, ⟨hl.symm, h2, fun _ => ⟨b, off, ha, hb, fun i o ho => ?_⟩⟩, fun d hd => ?_⟩
    · have q2 := (hL i o ho).1
      exact ⟨q2 0 _ rfl, q2 1 _ rfl, q2 2 _ rfl, q2 3 _ rfl, q2 4 _ rfl, q2 5 _ rfl, q2 6 _ rfl, q2 7 _ rfl, q2 8 _ rfl, q2 9 _ rfl, q2 10 _ rfl⟩
    · obtain ⟨i, hi⟩ := List.getElem?_of_mem hd
      exact (hL i d hi).2
end

/-- Operations that are fit hold right operations. -/
theorem ops_right {w : World} {M : Nat} {P : List Oq} {a : Option Addr} {n : Nat} (hP : OpsAt w P a n) (hO : ∀ p ∈ P, OOkU w M p) (h0 : opsE P = 0) : ∃ X, OsAt w X a n ∧ OkOs X ∧ ∀ x ∈ X, OpL (M + 1) x := by
  have h20 : P.length ≤ 20 ∧ P.all fitO = true := by
    unfold opsE at h0
    split at h0
    · cases h0
    · split at h0
      · exact ⟨by omega, by assumption⟩
      · cases h0
  have one : ∀ (pr : Pr), PrOkU w M pr → pr.name.size ≤ 9223372036854775807 → pr.e = 0 → ∃ x : AP, PrIn AnyB w pr x ∧ Ck 6 x.t ∧ wtT x.t ≤ M + 1 := fun pr hu hn he => by
    obtain ⟨⟨⟨h1, h2⟩, L, _, h3, _, h4⟩, hw⟩ := hu
    exact ⟨⟨pr.name, .node pr.k pr.n pr.s L⟩, ⟨rfl, hn, h1, h2, L, rfl, LiesS.lie _ _ _ h3⟩, h4 he, by show wtT (.node pr.k pr.n pr.s L) ≤ _; rw [wtT]; have := hw L h3; omega⟩
  obtain ⟨X, hX⟩ := pair_choose (R := fun p x => OpIn w p x ∧ OkO x ∧ OpL (M + 1) x) P (fun p hp => by
    obtain ⟨⟨⟨hnl, _⟩, hS, hQ, _⟩, hr, hpu, hqu⟩ := hO p hp
    have hf := List.all_eq_true.1 h20.2 p hp
    simp only [fitO, Bool.and_eq_true, decide_eq_true_eq, beq_iff_eq] at hf
    obtain ⟨a1, a2, a3, a4, a5, a6⟩ := hf
    obtain ⟨x, hx1, hx2, hx3⟩ := one p.pr hpu hnl a4
    obtain ⟨Y, hY⟩ := pair_choose (R := fun q y => PrIn AnyB w q y ∧ y.name.size ≤ 12 ∧ Ck 6 y.t ∧ wtT y.t ≤ M + 1) p.props (fun q hq => by
      have hfq := List.all_eq_true.1 a6 q hq
      simp only [fitP, Bool.and_eq_true, decide_eq_true_eq, beq_iff_eq] at hfq
      obtain ⟨y, hy1, hy2, hy3⟩ := one q (hqu q hq) (by omega) hfq.2
      exact ⟨y, hy1, by rw [← hy1.1]; exact hfq.1, hy2, hy3⟩)
    have hyy : ∀ y ∈ Y, y.name.size ≤ 12 ∧ Ck 6 y.t ∧ wtT y.t ≤ M + 1 := fun y hy => by
      obtain ⟨q, _, h⟩ := pair_mem hY hy
      exact h.2
    have hn : x.name.size ≤ 12 := by rw [← hx1.1]; exact a1
    have hl : ∀ s ∈ p.labs, s.size ≤ 12 := fun s hs => by have := List.all_eq_true.1 a5 s hs; simpa [fitS] using this
    exact ⟨⟨p.k, p.id, p.frm, p.dst, x, p.labs, Y⟩, ⟨⟨rfl, rfl, rfl, rfl⟩, hx1, rfl, hS, hQ, hY.mono fun _ _ _ _ h => h.1⟩, ⟨⟨hr, ⟨by show x.name.size ≤ _; omega, hx2⟩, fun s hs => by have := hl s hs; omega, fun y hy => ⟨by have := (hyy y hy).1; omega, (hyy y hy).2.1⟩⟩, hn, a2, by show Y.length ≤ 6; rw [← hY.1]; exact a3, hl, fun y hy => (hyy y hy).1⟩, hx3, fun y hy => (hyy y hy).2.2⟩)
  refine ⟨X, ⟨P, hP, hX.mono fun _ _ _ _ h => h.1⟩, ⟨by rw [← hX.1]; exact h20.1, fun x hx => ?_⟩, fun x hx => ?_⟩
  · obtain ⟨p, _, h⟩ := pair_mem hX hx
    exact h.2.1
  · obtain ⟨p, _, h⟩ := pair_mem hX hx
    exact h.2.2

set_option maxHeartbeats 8000000 in
set_option maxRecDepth 100000 in
theorem sameGraph_ref (XN YN : List AN) (XE YE : List AE) (na : Option Addr) (nl nc : Nat) (ea : Option Addr) (el ec : Nat) (nx : Int) (ma : Option Addr) (ml mc : Nat) (fa : Option Addr) (fl fc : Nat) (mx : Int) (w : World) (h1 : NsAt w XN na nl) (h2 : EsAt w XE ea el) (h3 : NsAt w YN ma ml) (h4 : EsAt w YE fa fl) (o1 : ∀ x ∈ XN, x.ok) (o2 : ∀ x ∈ XE, x.ok) (o3 : ∀ x ∈ YN, x.ok) (o4 : ∀ x ∈ YE, x.ok) :
    Calls Tryd.prog 17 #[.agg #[.slice na nl nc, .slice ea el ec, .int .i64 nx], .agg #[.slice ma ml mc, .slice fa fl fc, .int .i64 mx]] w fun e w' => e = .returned (.bool ((nx == mx) && (eqB sameN XN YN && eqB sameE XE YE))) ∧ Below w.heap.size w w' := by
  obtain ⟨R, hR⟩ : ∃ R, R = ((nx == mx) && (eqB sameN XN YN && eqB sameE XE YE)) := ⟨_, rfl⟩
  rw [← hR]
  obtain ⟨s1, hs1⟩ : ∃ z, z = eqB sameN XN YN := ⟨_, rfl⟩
  obtain ⟨s2, hs2⟩ : ∃ z, z = eqB sameE XE YE := ⟨_, rfl⟩
  have HP1 : Hid (∀ W, Below w.heap.size w W → Calls Tryd.prog 40 #[.slice na nl nc, .slice ma ml mc, .func (.func 41) #[] #[]] W fun e w' => e = .returned (.bool s1) ∧ Below W.heap.size W w') := by
    intro W kW
    rw [hs1]
    exact equalN_any XN YN na nl nc ma ml mc W (h1.below kW) (h3.below kW) (fun p x q y W hx hy hp hq => sameNode_ref p x q y W hp hq (o1 x hx) (o3 y hy))
  have HP2 : Hid (∀ W, Below w.heap.size w W → Calls Tryd.prog 42 #[.slice ea el ec, .slice fa fl fc, .func (.func 43) #[] #[]] W fun e w' => e = .returned (.bool s2) ∧ Below W.heap.size W w') := by
    intro W kW
    rw [hs2]
    exact equalE_any XE YE ea el ec fa fl fc W (h2.below kW) (h4.below kW) (fun p x q y W hx hy hp hq => sameEdge_ref p x q y W hp hq (o2 x hx) (o4 y hy))
  have HR : Hid (R = ((nx == mx) && (s1 && s2))) := by rw [hR, hs1, hs2]; exact toHid rfl
  clear hR hs1 hs2 h1 h2 h3 h4 o1 o2 o3 o4
  have hb0 : Below w.heap.size w ((w.alloc (.cells #[.slice na nl nc, .slice ea el ec, .int .i64 nx] 56)).alloc (.cells #[.slice ma ml mc, .slice fa fl fc, .int .i64 mx] 56)) := ((Below.refl _ _).alloc (Nat.le_refl _) _).alloc (by simp) _
  have HB0 := toHid hb0
  have z0 : ((w.alloc (.cells #[.slice na nl nc, .slice ea el ec, .int .i64 nx] 56)).alloc (.cells #[.slice ma ml mc, .slice fa fl fc, .int .i64 mx] 56)).heap.size = w.heap.size + 2 := by simp
  have hu := (Below.heap_alloc (w.alloc (.cells #[.slice na nl nc, .slice ea el ec, .int .i64 nx] 56)) (.cells #[.slice ma ml mc, .slice fa fl fc, .int .i64 mx] 56) w.heap.size (by simp)).trans (alloc_new w (.cells #[.slice na nl nc, .slice ea el ec, .int .i64 nx] 56))
  have hv := alloc_two w (.cells #[.slice na nl nc, .slice ea el ec, .int .i64 nx] 56) (.cells #[.slice ma ml mc, .slice fa fl fc, .int .i64 mx] 56)
  have HU := toHid hu
  have HV := toHid hv
  have HZ := toHid z0
  clear hb0 z0 hu hv
  cases i0 : (nx == mx) with
  | false =>
    have H3 := toHid (show R = false by rw [HR.out, i0]; rfl)
    clear HR
    go_enter Tryd.func17, Tryd.ntmps17
    go_wp2_with fail
    go_ret
    exact ⟨ret_bool (by rw [H3.out]), HB0.out⟩
  | true =>
    go_enter Tryd.func17, Tryd.ntmps17
    go_wp2_with fail
    refine (HP1.out _ HB0.out).mono ?_
    generalize (w.alloc (.cells #[.slice na nl nc, .slice ea el ec, .int .i64 nx] 56)).alloc (.cells #[.slice ma ml mc, .slice fa fl fc, .int .i64 mx] 56) = W0 at HB0 HU HV HZ ⊢
    rintro e w1 ⟨rfl, k1⟩
    have hb1 := HB0.out.trans (k1.mono HB0.out.size)
    have A1 := toHid ((k1.block w.heap.size (by rw [HZ.out]; omega)).trans HU.out)
    have A2 := toHid ((k1.block (w.heap.size + 1) (by rw [HZ.out]; omega)).trans HV.out)
    have z1 : w.heap.size + 2 ≤ w1.heap.size := by have := k1.size; rw [HZ.out] at this; exact this
    have u1 := cell_of A1.out 1
    have v1 := cell_of A2.out 1
    simp at u1 v1
    clear k1
    cases s1 with
    | false =>
      have H3 := toHid (show R = false by rw [HR.out, i0]; rfl)
      clear HR
      go_wp2_with fail
      go_ret
      exact ⟨ret_bool (by rw [H3.out]), hb1⟩
    | true =>
      go_wp2_with fail
      refine (HP2.out _ hb1).mono ?_
      rintro e w2 ⟨rfl, k2⟩
      have hb2 := hb1.trans (k2.mono hb1.size)
      have H3 := toHid (show R = s2 by rw [HR.out, i0]; rfl)
      clear HR
      go_wp2_with fail
      go_ret
      exact ⟨ret_bool (by rw [H3.out]), hb2⟩
end Go.Proofs.YtldpionmmplncaaDoor
