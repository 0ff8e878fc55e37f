/-
  What is proved here: what the texts GuOwn, GuFreshG, GuTell prove, in one text.
-/
import Derived.Test.YtmjeanpjiogkiaaDoorQTAP
namespace Go.Proofs.YtmjeanpjiogkiaaDoor
open Go.RowKit
set_option linter.unusedVariables false

set_option linter.unusedSimpArgs false

def sumL : List (List Cn) → Nat
  | [] => 0
  | X :: r => X.length + sumL r

theorem sumL_append : ∀ A B : List (List Cn), sumL (A ++ B) = sumL A + sumL B
  | [], B => by simp [sumL]
  | X :: A, B => by
    show X.length + sumL (A ++ B) = X.length + sumL A + sumL B
    rw [sumL_append A B, Nat.add_assoc]

theorem sumL_of : ∀ Q : List Qd, (∀ q ∈ Q, q.l = q.X.length) → sumL (Q.map (·.X)) = qN Q
  | [], _ => rfl
  | q :: Q, h => by
    show q.X.length + sumL (Q.map (·.X)) = q.l + qN Q
    rw [sumL_of Q fun y hy => h y (List.mem_cons_of_mem _ hy), h q (List.mem_cons_self ..)]

theorem RB.len {w : World} {X : List Cn} {a : Option Addr} {l : Nat} (h : RB w X a l) : l = X.length := by
  obtain ⟨F, _, _, hl, _⟩ := h.cts
  exact hl

/-- A right queue: these bags lie there. -/
def GQ (w : World) (XS : List (List Cn)) (a : Option Addr) (l : Nat) : Prop := ∃ Q : List Qd, Q.map (·.X) = XS ∧ QIn w Q a l ∧ ∀ q ∈ Q, q.z = 0

theorem GQ.below {w w' : World} (k : Below w.heap.size w w') {XS : List (List Cn)} {a : Option Addr} {l : Nat} (h : GQ w XS a l) : GQ w' XS a l := by
  obtain ⟨Q, h1, h2, h3⟩ := h
  exact ⟨Q, h1, h2.below k, h3⟩

theorem GQ.nil (w : World) : GQ w [] none 0 := ⟨[], rfl, ⟨⟨rfl, by omega, fun h => absurd h (Nat.lt_irrefl _)⟩, fun q hq => (by cases hq), by simp [qN]⟩, fun q hq => (by cases hq)⟩

/-- The bags of a queue are right where its check tells nothing. -/
theorem QIn.gq {w : World} {Q : List Qd} {a : Option Addr} {l : Nat} (h : QIn w Q a l) (h0 : ∀ q ∈ Q, q.z = 0) : GQ w (Q.map (·.X)) a l ∧ sumL (Q.map (·.X)) = qN Q := by
  refine ⟨⟨Q, rfl, h, h0⟩, sumL_of Q fun q hq => ((h.bags q hq).right (h0 q hq)).len⟩

def QAtA (A : Nat → Prop) (w : World) (P : List Qd) (a : Option Addr) (l : Nat) : Prop := l = P.length ∧ (0 < l → ∃ b off, a = some ⟨b, off, none⟩ ∧ A b ∧ b < w.heap.size ∧ ∀ i q, P[i]? = some q → w.cell? ⟨b, off + i, none⟩ = some (.slice q.a q.l q.c))

/-- A right queue in blocks of this kind. -/
def QB (A : Nat → Prop) (w : World) (XS : List (List Cn)) (a : Option Addr) (l : Nat) : Prop := ∃ P : List Qd, P.map (·.X) = XS ∧ l ≤ 2000000 ∧ QAtA A w P a l ∧ ∀ p ∈ P, p.z = 0 ∧ RBA A w p.X p.a p.l

theorem QB.nil (A : Nat → Prop) (w : World) : QB A w [] none 0 := ⟨[], rfl, by omega, ⟨rfl, fun h => absurd h (Nat.lt_irrefl _)⟩, fun p hp => (by cases hp)⟩

theorem QB.kept {A A' : Nat → Prop} {w w' : World} (k : Keep A A' w w') {XS : List (List Cn)} {a : Option Addr} {l : Nat} (h : QB A w XS a l) : QB A' w' XS a l := by
  obtain ⟨P, h1, h2, ⟨h3, h4⟩, h5⟩ := h
  refine ⟨P, h1, h2, ⟨h3, fun h0 => ?_⟩, fun p hp => ⟨(h5 p hp).1, (h5 p hp).2.kept k⟩⟩
  obtain ⟨b, off, e, hA, hb, hc⟩ := h4 h0
  have hk := k.2 b hA hb
  exact ⟨b, off, e, hk.1, Nat.lt_of_lt_of_le hb k.1, fun i q hq => (World.cell?_of_block hk.2).trans (hc i q hq)⟩

theorem QB.gq {A : Nat → Prop} {B : Nat} {w : World} (hB : B ≤ w.heap.size) (hT : Tabs B w) {XS : List (List Cn)} {a : Option Addr} {l : Nat} (h : QB A w XS a l) (hs : sumL XS ≤ 2000000) : GQ w XS a l := by
  obtain ⟨P, h1, h2, ⟨h3, h4⟩, h5⟩ := h
  have hr : ∀ p ∈ P, RB w p.X p.a p.l := fun p hp => (h5 p hp).2.rb hB hT
  refine ⟨P, h1, ⟨⟨h3, h2, fun h0 => ?_⟩, fun p hp => ?_, ?_⟩, fun p hp => (h5 p hp).1⟩
  · obtain ⟨b, off, e, _, hb, hc⟩ := h4 h0
    exact ⟨b, off, e, hb, hc⟩
  · rw [(h5 p hp).1]
    exact (hr p hp).bagZ _
  · rw [← sumL_of P fun p hp => (hr p hp).len, h1]
    exact hs

theorem qRow_get {P : List Qd} {i : Nat} {q : Qd} (h : P[i]? = some q) : (qRow P)[i]? = some (.slice q.a q.l q.c) := by
  unfold qRow
  rw [List.getElem?_map, h]
  rfl

/-- A row of the call's own, its bags in blocks of this kind. -/
theorem own_qb {A : Nat → Prop} {B : Nat} {w : World} {v : Value} {P : List Qd} (h : w.ownsRow B 26 1 v P.length (qRow P)) (hA : ∀ g, B ≤ g → A g) (hl : P.length ≤ 2000000) (hP : ∀ p ∈ P, p.z = 0 ∧ RBA A w p.X p.a p.l) : ∃ a c, v = .slice a P.length c ∧ QB A w (P.map (·.X)) a P.length := by
  obtain ⟨a, l, c, rfl⟩ : ∃ a l c, v = .slice a l c := by
    rcases h.2 with ⟨h0, _⟩ | ⟨g', cap', cur, h0, _⟩
    · exact ⟨_, _, _, h0⟩
    · exact ⟨_, _, _, h0⟩
  have hl2 : l = P.length := rowSl h
  subst hl2
  refine ⟨a, c, rfl, P, rfl, hl, ⟨rfl, fun h0 => ?_⟩, hP⟩
  obtain ⟨g, cap, hf, hg0, hg⟩ := h.form (by omega)
  injection hf with q1 q2 q3
  subst q1 q3
  refine ⟨g, 0, rfl, hA g hg0, hg, fun i q hq => ?_⟩
  have hi := (List.getElem?_eq_some_iff.1 hq).1
  rw [Nat.zero_add]
  exact (h.cellAt i (by omega)).trans (qRow_get hq)

theorem pair_X {R : Qd → Qd → Prop} (hR : ∀ p q, R p q → p.X = q.X) {P Q : List Qd} (h : Pair2 R P Q) : P.map (·.X) = Q.map (·.X) := by
  refine List.ext_getElem? fun i => ?_
  rw [List.getElem?_map, List.getElem?_map]
  cases hx : P[i]? with
  | none =>
    have := List.getElem?_eq_none_iff.1 hx
    rw [List.getElem?_eq_none (by rw [← h.1]; exact this)]
  | some p =>
    obtain ⟨x, hx2, hr⟩ := h.left hx
    rw [hx2]
    exact congrArg some (hR _ _ hr)

theorem pair_mem {R : Qd → Qd → Prop} {P Q : List Qd} (h : Pair2 R P Q) : ∀ p ∈ P, ∃ q, R p q := fun p hp => by
  obtain ⟨i, hi, hx⟩ := List.getElem_of_mem hp
  obtain ⟨y, _, hR⟩ := h.left (List.getElem?_eq_some_iff.2 ⟨hi, hx⟩)
  exact ⟨y, hR⟩

theorem guE_two {z zb R : Int} (hR : R = if z = 0 then zb else z) (h0 : R = 0) : z = 0 ∧ zb = 0 := by
  by_cases hz : z = 0
  · rw [if_pos hz] at hR
    exact ⟨hz, by omega⟩
  · rw [if_neg hz] at hR
    omega

theorem qN_len : ∀ Q : List Qd, (∀ q ∈ Q, q.l ≠ 0) → Q.length ≤ qN Q
  | [], _ => Nat.zero_le _
  | q :: Q, h => by
    have h1 := h q (List.mem_cons_self ..)
    have h2 := qN_len Q fun y hy => h y (List.mem_cons_of_mem _ hy)
    simp only [qN, List.length_cons]
    omega

set_option linter.unusedSimpArgs false

abbrev gZ : Obj := .cells #[.int .i64 0, .slice none 0 0, .bool false, .int .i64 0] 24

set_option maxHeartbeats 4000000 in
set_option maxRecDepth 100000 in
theorem freshG_any (v : Int) (Q : List Qd) (a : Option Addr) (l c : Nat) (f : Bool) (t : Int) (w : World) (h : QAt w Q a l) (hok : ∀ q ∈ Q, RB w q.X q.a q.l) :
    Calls Tryd.prog 19 #[gV v a l c f t] w fun e w' => (∃ a' l' c', e = .returned (gV v a' l' c' f t) ∧ QNew w.heap.size w' Q (.slice a' l' c')) ∧ Below w.heap.size w w' := by
  have HV : Hid (∀ W, Below w.heap.size w W → Calls Tryd.prog 36 #[.slice a l c, .func (.func 21) #[] #[]] W fun e w' => (∃ v, e = .returned v ∧ QNew W.heap.size w' Q v) ∧ Below W.heap.size W w') := fun W kW => each_bags Q a l c W (h.below kW) fun q hq => (hok q hq).below kW
  clear h hok
  have b0 : Below w.heap.size w ((w.alloc (gObj v a l c f t)).alloc gZ) := ((Below.refl _ _).alloc (Nat.le_refl _) _).alloc (by simp) _
  have hx := (Below.heap_alloc (w.alloc (gObj v a l c f t)) gZ w.heap.size (by simp)).trans (alloc_new w (gObj v a l c f t))
  have hy := alloc_two w (gObj v a l c f t) gZ
  have z0 : ((w.alloc (gObj v a l c f t)).alloc gZ).heap.size = w.heap.size + 2 := by simp
  have HB := toHid b0
  have HX := toHid hx
  have HY := toHid hy
  have HZ := toHid z0
  clear b0 hx hy z0
  go_enter Tryd.func19, Tryd.ntmps19
  go_wp2_with fail
  refine (HV.out _ HB.out).mono ?_
  generalize (w.alloc (gObj v a l c f t)).alloc gZ = W at HB HX HY HZ ⊢
  rintro e w1 ⟨⟨qv, rfl, hL⟩, k1⟩
  have s1 : w.heap.size + 2 ≤ w1.heap.size := by have := k1.size; rw [HZ.out] at this; exact this
  have c1 := HB.out.trans (k1.mono HB.out.size)
  have hv1 := (k1.block w.heap.size (by rw [HZ.out]; omega)).trans HX.out
  have hr1 := (k1.block (w.heap.size + 1) (by rw [HZ.out]; omega)).trans HY.out
  obtain ⟨a', l', c', rfl⟩ : ∃ a' l' c', qv = .slice a' l' c' := by
    obtain ⟨P, hP, _⟩ := hL
    rcases hP.2 with ⟨h0, _⟩ | ⟨g', cap', cur, h0, _⟩
    · exact ⟨_, _, _, h0⟩
    · exact ⟨_, _, _, h0⟩
  have x1 := cell_of hv1 1
  have f1 := free_of hv1 1
  simp at x1
  have hlt : w.heap.size < w1.heap.size := by omega
  obtain ⟨X, hX⟩ : ∃ X, X = w1.setCell ⟨w.heap.size, 1, none⟩ (.slice a' l' c') := ⟨_, rfl⟩
  have hXp : X = putL w1 w.heap.size 1 [.slice a' l' c'] := hX
  have hvX : X.heap[w.heap.size]? = some (gObj v a' l' c' f t) := by rw [hXp, putL_here _ _ _ _ hv1]; rfl
  have hrX : X.heap[w.heap.size + 1]? = some gZ := by rw [hXp, putL_other _ _ _ _ _ (by omega)]; exact hr1
  have hLX : QNew W.heap.size X Q (.slice a' l' c') := by
    obtain ⟨P, p1, p2⟩ := hL
    rw [hXp]
    refine ⟨P, rowK1 p1 fun g hg => putL_other _ _ _ _ g (by have := (rowLt p1 hg).1; have := HZ.out; omega), p2.mono fun p q _ _ hp => hp.kept ⟨by rw [putL_size]; exact Nat.le_refl _, fun i hi _ => ⟨hi, putL_other _ _ _ _ i (by have := HZ.out; have := hi.1; omega)⟩⟩⟩
  have hcX : Below w.heap.size w X := by rw [hXp]; exact c1.trans (putL_bel _ _ _ _)
  have hsX : w.heap.size + 2 ≤ X.heap.size := by rw [hXp, putL_size]; exact s1
  have hXs : w1.setCell ⟨w.heap.size, 1, none⟩ (.slice a' l' c') = X := hX.symm
  have HRX := toHid hrX
  have HLX := toHid hLX
  have HCX := toHid hcX
  have q0 := cell_of hvX 0
  have q1 := cell_of hvX 1
  have q2 := cell_of hvX 2
  have q3 := cell_of hvX 3
  have r0 := cell_of hrX 0
  have r1 := cell_of hrX 1
  have r2 := cell_of hrX 2
  have r3 := cell_of hrX 3
  have g0 := free_of hrX 0
  have g1 := free_of hrX 1
  have g2 := free_of hrX 2
  have g3 := free_of hrX 3
  simp at q0 q1 q2 q3 r0 r1 r2 r3
  clear hX hXp hvX hrX hLX hcX hv1 hr1 k1 c1 hL
  go_wp2_with fail
  have eP : ∀ X : World, (((X.setCell ⟨w.heap.size + 1, 0, none⟩ (.int .i64 v)).setCell ⟨w.heap.size + 1, 1, none⟩ (.slice a' l' c')).setCell ⟨w.heap.size + 1, 2, none⟩ (.bool f)).setCell ⟨w.heap.size + 1, 3, none⟩ (.int .i64 t) = putL X (w.heap.size + 1) 0 [.int .i64 v, .slice a' l' c', .bool f, .int .i64 t] := fun _ => rfl
  rw [eP]
  have E := putL_here [.int .i64 v, .slice a' l' c', .bool f, .int .i64 t] 0 X _ HRX.out
  have hbb : Below w.heap.size w (putL X (w.heap.size + 1) 0 [.int .i64 v, .slice a' l' c', .bool f, .int .i64 t]) := HCX.out.trans ((putL_bel (w.heap.size + 1) _ _ X).mono (by omega))
  have hLL : QNew w.heap.size (putL X (w.heap.size + 1) 0 [.int .i64 v, .slice a' l' c', .bool f, .int .i64 t]) Q (.slice a' l' c') := by
    obtain ⟨P, p1, p2⟩ := HLX.out
    have hWs := HZ.out
    refine ⟨P, ⟨p1.1, p1.2.elim .inl fun ⟨g, cap, cur, e1, e2, e3⟩ => .inr ⟨g, cap, cur, e1, by omega, (putL_other _ _ _ _ g (by omega)).trans e3.1, e3.2⟩⟩, p2.mono fun p q _ _ hp => hp.kept ⟨by rw [putL_size]; exact Nat.le_refl _, fun i hi _ => ⟨⟨by have := hi.1; omega, hi.2⟩, putL_other _ _ _ _ i (by have := hi.1; omega)⟩⟩⟩
  generalize putL X (w.heap.size + 1) 0 [.int .i64 v, .slice a' l' c', .bool f, .int .i64 t] = Y at E hbb hLL ⊢
  have t0 := cell_of E 0
  have t1 := cell_of E 1
  have t2 := cell_of E 2
  have t3 := cell_of E 3
  simp [setL] at t0 t1 t2 t3
  refine bodyPost_ret (v := gV v a' l' c' f t) (by simp [results, Tryd.results19, go_sem, t0, t1, t2, t3]) rfl ⟨⟨a', l', c', rfl, hLL⟩, hbb⟩

set_option linter.unusedSimpArgs false

/-- What Tell makes of what waits. -/
def tellF (f : Bool) (XS : List (List Cn)) (Y : List Cn) : Bool × List (List Cn) := if f = true ∨ Y.length = 0 then (f, XS) else if 40 < sumL XS + Y.length then (true, []) else (f, XS ++ [Y])

/-- What Tell answers. -/
def TellEnd (w w' : World) (v t : Int) (f : Bool) (XS : List (List Cn)) (Y : List Cn) (R : Int) (e : Ending) : Prop := (R ≠ 0 ∧ e = .returned (.tuple #[gV 0 none 0 0 false 0, .int .i64 R])) ∨ (R = 0 ∧ ∃ a' l' c', e = .returned (.tuple #[gV v a' l' c' (tellF f XS Y).1 t, .int .i64 0]) ∧ QB (fun i => w.heap.size ≤ i) w' (tellF f XS Y).2 a' l')

set_option maxHeartbeats 8000000 in
set_option maxRecDepth 100000 in
theorem tell_any (B : Nat) (v : Int) (Q : List Qd) (a : Option Addr) (l c : Nat) (f : Bool) (t : Int) (Y : List Cn) (zb R : Int) (ba : Option Addr) (bl bc : Nat) (w : World) (hB : B ≤ w.heap.size) (hT : Tabs B w) (hQ : QIn w Q a l) (hb : BagZ w ba bl bc zb Y) (hR : R = if guE v t f Q = 0 then zb else guE v t f Q) :
    Calls Tryd.prog 6 #[gV v a l c f t, .slice ba bl bc] w fun e w' => TellEnd w w' v t f (Q.map (·.X)) Y R e ∧ Below w.heap.size w w' := by
  have b0 : Below w.heap.size w ((w.alloc (gObj v a l c f t)).alloc gZ) := ((Below.refl _ _).alloc (Nat.le_refl _) _).alloc (by simp) _
  have hx := (Below.heap_alloc (w.alloc (gObj v a l c f t)) gZ w.heap.size (by simp)).trans (alloc_new w (gObj v a l c f t))
  have hy := alloc_two w (gObj v a l c f t) gZ
  have z0 : ((w.alloc (gObj v a l c f t)).alloc gZ).heap.size = w.heap.size + 2 := by simp
  obtain ⟨z, hz⟩ : ∃ z, z = guE v t f Q := ⟨_, rfl⟩
  rw [← hz] at hR
  have HC1 : Hid (Calls Tryd.prog 9 #[gV v a l c f t] ((w.alloc (gObj v a l c f t)).alloc gZ) fun e w' => e = .returned (.int .i64 z) ∧ Below ((w.alloc (gObj v a l c f t)).alloc gZ).heap.size ((w.alloc (gObj v a l c f t)).alloc gZ) w') := by
    show Calls _ _ _ _ _
    rw [hz]
    exact checkG_any v Q a l c f t _ (hQ.below b0)
  have HQ := toHid hQ
  have HBG := toHid hb
  have HZE := toHid hz
  have HR := toHid hR
  have HTB := toHid hT
  have HB := toHid b0
  have HX := toHid hx
  have HY := toHid hy
  have HZ := toHid z0
  clear b0 hx hy z0 hQ hb hz hR hT
  go_enter Tryd.func6, Tryd.ntmps6
  go_upto_region 1 with fail
  generalize (w.alloc (gObj v a l c f t)).alloc gZ = W at HB HX HY HZ HC1 ⊢
  have x0 := cell_of HX.out 0
  have x1 := cell_of HX.out 1
  have x2 := cell_of HX.out 2
  have x3 := cell_of HX.out 3
  simp at x0 x1 x2 x3
  have hlx := blkB_lt HX.out
  go_wp2_with fail
  refine HC1.out.mono ?_
  rintro e w1 ⟨rfl, k1⟩
  have HC2 := toHid (HBG.out.prog w1 (HB.out.trans (k1.mono HB.out.size)))
  have KW1 := toHid k1
  clear k1 HC1 x0 x1 x2 x3 hlx
  go_wp2_with fail
  refine HC2.out.mono ?_
  rintro e w2 ⟨rfl, k2⟩
  have KW3 : Hid (Below W.heap.size W (w2.alloc (.cells #[.int .i64 z, .int .i64 zb] 27))) := (KW1.out.trans (k2.mono KW1.out.size)).alloc (KW1.out.trans (k2.mono KW1.out.size)).size _
  have HOR := toHid (or_two z zb R HR.out w2.heap.size (w2.alloc (.cells #[.int .i64 z, .int .i64 zb] 27)) (cell_of (alloc_new w2 _) 0) (cell_of (alloc_new w2 _) 1))
  clear k2 HC2 KW1
  go_wp2_with fail
  refine HOR.out.mono ?_
  rintro e w3 ⟨rfl, rfl⟩
  clear HOR
  generalize w2.alloc (.cells #[.int .i64 z, .int .i64 zb] 27) = w3 at KW3 ⊢
  have HX3 := toHid ((KW3.out.block w.heap.size (by have := HZ.out; omega)).trans HX.out)
  have HY3 := toHid ((KW3.out.block (w.heap.size + 1) (by have := HZ.out; omega)).trans HY.out)
  have HB3 := toHid (HB.out.trans (KW3.out.mono HB.out.size))
  have hs3 : w.heap.size + 2 ≤ w3.heap.size := by have := KW3.out.size; have := HZ.out; omega
  clear HX HY HZ KW3 HB
  by_cases hr : R = 0
  case neg =>
    have hr' : (R != 0) = true := by simp [hr]
    have HNE := toHid hr
    clear hr
    have r0 := cell_of HY3.out 0
    have r1 := cell_of HY3.out 1
    have r2 := cell_of HY3.out 2
    have r3 := cell_of HY3.out 3
    simp at r0 r1 r2 r3
    have g0 := free_of HY3.out 0
    have g1 := free_of HY3.out 1
    have g2 := free_of HY3.out 2
    have g3 := free_of HY3.out 3
    go_wp2_with fail
    have eP : ∀ X : World, (((X.setCell ⟨w.heap.size + 1, 0, none⟩ (.int .i64 0)).setCell ⟨w.heap.size + 1, 1, none⟩ (.slice none 0 0)).setCell ⟨w.heap.size + 1, 2, none⟩ (.bool false)).setCell ⟨w.heap.size + 1, 3, none⟩ (.int .i64 0) = putL X (w.heap.size + 1) 0 [.int .i64 0, .slice none 0 0, .bool false, .int .i64 0] := fun _ => rfl
    rw [eP]
    have E := putL_here [.int .i64 0, .slice none 0 0, .bool false, .int .i64 0] 0 w3 _ HY3.out
    have hbb : Below w.heap.size w (putL w3 (w.heap.size + 1) 0 [.int .i64 0, .slice none 0 0, .bool false, .int .i64 0]) := HB3.out.trans ((putL_bel (w.heap.size + 1) _ _ w3).mono (by omega))
    generalize putL w3 (w.heap.size + 1) 0 [.int .i64 0, .slice none 0 0, .bool false, .int .i64 0] = Y at E hbb ⊢
    have t0 := cell_of E 0
    have t1 := cell_of E 1
    have t2 := cell_of E 2
    have t3 := cell_of E 3
    simp [setL] at t0 t1 t2 t3
    exact bodyPost_ret (v := .tuple #[.agg #[.int .i64 0, .slice none 0 0, .bool false, .int .i64 0], .int .i64 R]) (by simp [results, Tryd.results6, go_sem, t0, t1, t2, t3]) rfl ⟨.inl ⟨HNE.out, rfl⟩, hbb⟩
  have hr' : (R != 0) = false := by simp [hr]
  have HR0 := toHid hr
  obtain ⟨hz0, hb0⟩ := guE_two HR.out hr
  obtain ⟨-, -, hqs, hN, -⟩ := guE_zero (HZE.out.symm.trans hz0)
  have hgq := HQ.out.gq fun q hq => (hqs q hq).1
  have hyr := HBG.out.right hb0
  have hbl2 : bl ≤ 2000 := by rw [hyr.len]; exact hyr.1.len
  have HYL : Hid (bl = Y.length) := hyr.len
  have HYR := toHid hyr
  have HFG := toHid (freshG_any v Q a l c f t w3 (HQ.out.at'.below HB3.out) fun q hq => ((HQ.out.bags q hq).right (hqs q hq).1).below HB3.out)
  have HSX : Hid (sumL (Q.map (·.X)) = qN Q) := hgq.2
  have HN := toHid hN
  have HQS := toHid hqs
  have x0 := cell_of HX3.out 0
  have x1 := cell_of HX3.out 1
  have x2 := cell_of HX3.out 2
  have x3 := cell_of HX3.out 3
  simp at x0 x1 x2 x3
  have hlx := blkB_lt HX3.out
  clear hr hz0 hb0 hqs hN hgq hyr HR HZE HBG
  go_wp2_with fail
  refine HFG.out.mono ?_
  rintro e w4 ⟨⟨a', l', c', rfl, hq⟩, k4⟩
  have hX4 := (k4.block w.heap.size (by omega)).trans HX3.out
  have hY4 := (k4.block (w.heap.size + 1) (by omega)).trans HY3.out
  have HB4 := toHid (HB3.out.trans (k4.mono HB3.out.size))
  have hs4 : w.heap.size + 2 ≤ w4.heap.size := by have := k4.size; omega
  clear x0 x1 x2 x3 hlx HFG
  have x0 := cell_of hX4 0
  have x1 := cell_of hX4 1
  have x2 := cell_of hX4 2
  have x3 := cell_of hX4 3
  simp at x0 x1 x2 x3
  have f0 := free_of hX4 0
  have f1 := free_of hX4 1
  have f2 := free_of hX4 2
  have f3 := free_of hX4 3
  have hlx := blkB_lt hX4
  obtain ⟨X, hX⟩ : ∃ X, X = (((w4.setCell ⟨w.heap.size, 0, none⟩ (.int .i64 v)).setCell ⟨w.heap.size, 1, none⟩ (.slice a' l' c')).setCell ⟨w.heap.size, 2, none⟩ (.bool f)).setCell ⟨w.heap.size, 3, none⟩ (.int .i64 t) := ⟨_, rfl⟩
  have hXp : X = putL w4 w.heap.size 0 [.int .i64 v, .slice a' l' c', .bool f, .int .i64 t] := hX
  have hvX : X.heap[w.heap.size]? = some (gObj v a' l' c' f t) := by rw [hXp, putL_here _ _ _ _ hX4]; rfl
  have hrX : X.heap[w.heap.size + 1]? = some gZ := by rw [hXp, putL_other _ _ _ _ _ (by omega)]; exact hY4
  have hqX : QNew w3.heap.size X Q (.slice a' l' c') := by
    obtain ⟨P, p1, p2⟩ := hq
    rw [hXp]
    exact ⟨P, rowK1 p1 fun g hg => putL_other _ _ _ _ g (by have := (rowLt p1 hg).1; omega), p2.mono fun p q _ _ hp => hp.kept ⟨by rw [putL_size]; exact Nat.le_refl _, fun i hi _ => ⟨hi, putL_other _ _ _ _ i (by have := hi.1; omega)⟩⟩⟩
  have hcX : Below w.heap.size w X := by rw [hXp]; exact HB4.out.trans (putL_bel _ _ _ _)
  have hsX : w.heap.size + 2 ≤ X.heap.size := by rw [hXp, putL_size]; exact hs4
  have hs34 : w3.heap.size ≤ X.heap.size := by rw [hXp, putL_size]; exact k4.size
  have hXs := hX.symm
  have HVX := toHid hvX
  have HRX := toHid hrX
  have HCX := toHid hcX
  have HQX := toHid hqX
  have hqb0 : l' ≤ 2000000 ∧ QB (fun i => w.heap.size + 2 ≤ i) X (Q.map (·.X)) a' l' := by
    obtain ⟨P, p1, p2⟩ := hqX
    have hl1 := rowSl p1
    have hl2 : P.length ≤ 2000000 := by rw [p2.1, ← HQ.out.at'.1]; exact HQ.out.at'.2.1
    obtain ⟨a2, c2, e2, h2⟩ := own_qb p1 (A := fun i => w.heap.size + 2 ≤ i) (fun g hg => by omega) hl2 fun p hp => by
      obtain ⟨q, h3, _, _, h4⟩ := pair_mem p2 p hp
      exact ⟨h3, h4.kept ⟨Nat.le_refl _, fun i hi _ => ⟨by have := hi.1; omega, rfl⟩⟩⟩
    injection e2 with e3 e4 e5
    subst e3
    rw [pair_X (fun p q h => h.2.1) p2, ← hl1] at h2
    exact ⟨by omega, h2⟩
  have hl6 := hqb0.1
  have HN4 : Hid (l' ≤ 40) := by
    have h1 := qN_len Q fun q hq => (HQS.out q hq).2
    have h2 : l' = Q.length := by
      obtain ⟨P, p1, p2⟩ := hqX
      rw [rowSl p1, p2.1]
    have h3 := HN.out
    show _ ≤ _
    omega
  have HQB := toHid hqb0.2
  have HRW : Hid (∀ W, Below X.heap.size X W → Calls Tryd.prog 20 #[gV v a' l' c' f t] W fun e w' => e = .returned (.int .i64 (qN Q : Nat)) ∧ Below W.heap.size W w') := fun W kW => by
    obtain ⟨Q2, h1, h2, h3⟩ := QB.gq (Nat.le_trans hB HCX.out.size) (HTB.out.below (HCX.out.mono hB)) HQB.out (by have := HSX.out; have := HN.out; omega)
    have h4 := (h2.gq h3).2
    rw [h1, HSX.out] at h4
    have h5 := rows_any v Q2 a' l' c' f t W (h2.below kW)
    rw [← h4] at h5
    exact h5
  have q0 := cell_of hvX 0
  have q1 := cell_of hvX 1
  have q2 := cell_of hvX 2
  have q3 := cell_of hvX 3
  simp at q0 q1 q2 q3
  have r0 := cell_of hrX 0
  have r1 := cell_of hrX 1
  have r2 := cell_of hrX 2
  have r3 := cell_of hrX 3
  simp at r0 r1 r2 r3
  have g0 := free_of hrX 0
  have g1 := free_of hrX 1
  have g2 := free_of hrX 2
  have g3 := free_of hrX 3
  clear hX hXp hX4 hY4 hq k4 hqX hqb0 hcX HY3 HX3 HB3
  go_upto_region 6 with fail
  obtain ⟨N, hNe⟩ : ∃ N, N = qN Q := ⟨_, rfl⟩
  have HSN : Hid (sumL (Q.map (·.X)) = N) := HSX.out.trans hNe.symm
  have hNm : N ≤ 40 := by rw [hNe]; exact HN.out
  rw [← hNe] at HRW
  clear hNe HN HSX hXs x0 x1 x2 x3 f0 f1 f2 f3
  by_cases hd : f = true ∨ bl = 0
  · have HTF : Hid (tellF f (Q.map (·.X)) Y = (f, Q.map (·.X))) := by
      show _ = _
      unfold tellF
      rw [if_pos (by rw [← HYL.out]; exact hd)]
    cases f with
    | true =>
      clear hd
      go_wp2_with fail
      have eP : ∀ X : World, (((X.setCell ⟨w.heap.size + 1, 0, none⟩ (.int .i64 v)).setCell ⟨w.heap.size + 1, 1, none⟩ (.slice a' l' c')).setCell ⟨w.heap.size + 1, 2, none⟩ (.bool true)).setCell ⟨w.heap.size + 1, 3, none⟩ (.int .i64 t) = putL X (w.heap.size + 1) 0 [.int .i64 v, .slice a' l' c', .bool true, .int .i64 t] := fun _ => rfl
      rw [eP]
      have E := putL_here [.int .i64 v, .slice a' l' c', .bool true, .int .i64 t] 0 X _ HRX.out
      have hbb : Below w.heap.size w (putL X (w.heap.size + 1) 0 [.int .i64 v, .slice a' l' c', .bool true, .int .i64 t]) := HCX.out.trans ((putL_bel (w.heap.size + 1) _ _ X).mono (by omega))
      have hqb := (HQB.out).kept (A' := fun i => w.heap.size ≤ i) (w' := putL X (w.heap.size + 1) 0 [.int .i64 v, .slice a' l' c', .bool true, .int .i64 t]) ⟨by rw [putL_size]; exact Nat.le_refl _, fun i hi _ => ⟨by omega, putL_other _ _ _ _ i (by omega)⟩⟩
      generalize putL X (w.heap.size + 1) 0 [.int .i64 v, .slice a' l' c', .bool true, .int .i64 t] = Y at E hbb hqb ⊢
      have t0 := cell_of E 0
      have t1 := cell_of E 1
      have t2 := cell_of E 2
      have t3 := cell_of E 3
      simp [setL] at t0 t1 t2 t3
      exact bodyPost_ret (v := .tuple #[.agg #[.int .i64 v, .slice a' l' c', .bool true, .int .i64 t], .int .i64 0]) (by simp [results, Tryd.results6, go_sem, t0, t1, t2, t3]) rfl ⟨.inr ⟨HR0.out, _, _, _, by rw [HTF.out], by rw [HTF.out]; exact hqb⟩, hbb⟩
    | false =>
      have h0 : bl = 0 := hd.resolve_left (by simp)
      have hbe : ((bl : Int) == 0) = true := by simp [h0]
      have hbi : (bl : Int) = 0 := by omega
      clear hd
      go_wp2_with fail
      have eP : ∀ X : World, (((X.setCell ⟨w.heap.size + 1, 0, none⟩ (.int .i64 v)).setCell ⟨w.heap.size + 1, 1, none⟩ (.slice a' l' c')).setCell ⟨w.heap.size + 1, 2, none⟩ (.bool false)).setCell ⟨w.heap.size + 1, 3, none⟩ (.int .i64 t) = putL X (w.heap.size + 1) 0 [.int .i64 v, .slice a' l' c', .bool false, .int .i64 t] := fun _ => rfl
      rw [eP]
      have E := putL_here [.int .i64 v, .slice a' l' c', .bool false, .int .i64 t] 0 X _ HRX.out
      have hbb : Below w.heap.size w (putL X (w.heap.size + 1) 0 [.int .i64 v, .slice a' l' c', .bool false, .int .i64 t]) := HCX.out.trans ((putL_bel (w.heap.size + 1) _ _ X).mono (by omega))
      have hqb := (HQB.out).kept (A' := fun i => w.heap.size ≤ i) (w' := putL X (w.heap.size + 1) 0 [.int .i64 v, .slice a' l' c', .bool false, .int .i64 t]) ⟨by rw [putL_size]; exact Nat.le_refl _, fun i hi _ => ⟨by omega, putL_other _ _ _ _ i (by omega)⟩⟩
      generalize putL X (w.heap.size + 1) 0 [.int .i64 v, .slice a' l' c', .bool false, .int .i64 t] = Y at E hbb hqb ⊢
      have t0 := cell_of E 0
      have t1 := cell_of E 1
      have t2 := cell_of E 2
      have t3 := cell_of E 3
      simp [setL] at t0 t1 t2 t3
      exact bodyPost_ret (v := .tuple #[.agg #[.int .i64 v, .slice a' l' c', .bool false, .int .i64 t], .int .i64 0]) (by simp [results, Tryd.results6, go_sem, t0, t1, t2, t3]) rfl ⟨.inr ⟨HR0.out, _, _, _, by rw [HTF.out], by rw [HTF.out]; exact hqb⟩, hbb⟩
  · have hf : f = false := by
      cases f with
      | true => exact absurd (.inl rfl) hd
      | false => rfl
    subst hf
    have hbn : bl ≠ 0 := fun e => hd (.inr e)
    have hbe : ((bl : Int) == 0) = false := by simp [hbn]
    have hbi : ¬ ((bl : Int) = 0) := by omega
    have HC5 := toHid (HRW.out X (Below.refl _ _))
    go_wp2_with fail
    refine HC5.out.mono ?_
    rintro e w5 ⟨rfl, k5⟩
    have hX5 := (k5.block w.heap.size (by omega)).trans HVX.out
    have hY5 := (k5.block (w.heap.size + 1) (by omega)).trans HRX.out
    have HB5 := toHid (HCX.out.trans (k5.mono HCX.out.size))
    have hs5 : w.heap.size + 2 ≤ w5.heap.size := by have := k5.size; omega
    have hs35 : w3.heap.size ≤ w5.heap.size := by have := k5.size; omega
    have HK5 := toHid k5
    clear q0 q1 q2 q3 r0 r1 r2 r3 g0 g1 g2 g3 HC5 HRW k5
    by_cases hn : 40 < N + bl
    · have hn' : (40 : Int) < (N : Int) + (bl : Int) := by omega
      have HTF : Hid (tellF false (Q.map (·.X)) Y = (true, [])) := by
        show _ = _
        unfold tellF
        rw [← HYL.out, HSN.out, if_neg (by simp [hbn]), if_pos hn]
      have x1 := cell_of hX5 1
      have x2 := cell_of hX5 2
      simp at x1 x2
      have f1 := free_of hX5 1
      have f2 := free_of hX5 2
      have hlx2 := blkB_lt hX5
      obtain ⟨Z, hZ⟩ : ∃ Z, Z = (w5.setCell ⟨w.heap.size, 1, none⟩ (.slice none 0 0)).setCell ⟨w.heap.size, 2, none⟩ (.bool true) := ⟨_, rfl⟩
      have hZp : Z = putL w5 w.heap.size 1 [.slice none 0 0, .bool true] := hZ
      have hvZ : Z.heap[w.heap.size]? = some (gObj v none 0 0 true t) := by rw [hZp, putL_here _ _ _ _ hX5]; rfl
      have hrZ : Z.heap[w.heap.size + 1]? = some gZ := by rw [hZp, putL_other _ _ _ _ _ (by omega)]; exact hY5
      have hcZ : Below w.heap.size w Z := by rw [hZp]; exact HB5.out.trans (putL_bel _ _ _ _)
      have hZs := hZ.symm
      have HRZ := toHid hrZ
      have HCZ := toHid hcZ
      have q0 := cell_of hvZ 0
      have q1 := cell_of hvZ 1
      have q2 := cell_of hvZ 2
      have q3 := cell_of hvZ 3
      simp at q0 q1 q2 q3
      have r0 := cell_of hrZ 0
      have r1 := cell_of hrZ 1
      have r2 := cell_of hrZ 2
      have r3 := cell_of hrZ 3
      simp at r0 r1 r2 r3
      have g0 := free_of hrZ 0
      have g1 := free_of hrZ 1
      have g2 := free_of hrZ 2
      have g3 := free_of hrZ 3
      clear hZ hZp hvZ hrZ hcZ hX5 hY5 HQX HQB
      go_wp2_with fail
      have eP : ∀ X : World, (((X.setCell ⟨w.heap.size + 1, 0, none⟩ (.int .i64 v)).setCell ⟨w.heap.size + 1, 1, none⟩ (.slice none 0 0)).setCell ⟨w.heap.size + 1, 2, none⟩ (.bool true)).setCell ⟨w.heap.size + 1, 3, none⟩ (.int .i64 t) = putL X (w.heap.size + 1) 0 [.int .i64 v, .slice none 0 0, .bool true, .int .i64 t] := fun _ => rfl
      rw [eP]
      have E := putL_here [.int .i64 v, .slice none 0 0, .bool true, .int .i64 t] 0 Z _ HRZ.out
      have hbb : Below w.heap.size w (putL Z (w.heap.size + 1) 0 [.int .i64 v, .slice none 0 0, .bool true, .int .i64 t]) := HCZ.out.trans ((putL_bel (w.heap.size + 1) _ _ Z).mono (by omega))
      generalize putL Z (w.heap.size + 1) 0 [.int .i64 v, .slice none 0 0, .bool true, .int .i64 t] = Y at E hbb ⊢
      have t0 := cell_of E 0
      have t1 := cell_of E 1
      have t2 := cell_of E 2
      have t3 := cell_of E 3
      simp [setL] at t0 t1 t2 t3
      exact bodyPost_ret (v := .tuple #[.agg #[.int .i64 v, .slice none 0 0, .bool true, .int .i64 t], .int .i64 0]) (by simp [results, Tryd.results6, go_sem, t0, t1, t2, t3]) rfl ⟨.inr ⟨HR0.out, _, _, _, by rw [HTF.out], by rw [HTF.out]; exact QB.nil _ _⟩, hbb⟩
    · have hn' : ¬ ((40 : Int) < (N : Int) + (bl : Int)) := by omega
      have HTF : Hid (tellF false (Q.map (·.X)) Y = (false, Q.map (·.X) ++ [Y])) := by
        show _ = _
        unfold tellF
        rw [← HYL.out, HSN.out, if_neg (by simp [hbn]), if_neg hn]
      have HX5 := toHid hX5
      have HY5 := toHid hY5
      obtain ⟨P, p1, p2⟩ := HQX.out
      have hlP : l' = P.length := rowSl p1
      have HOW := toHid (rowK1 p1 (w' := w5) fun g hg => HK5.out.block g (rowLt p1 hg).2)
      have HOB : Hid (∀ g, (Value.slice a' l' c').ownBlock = some g → w3.heap.size ≤ g ∧ g < X.heap.size) := fun g hg => rowLt p1 hg
      have HPP := toHid p2
      have HLP := toHid hlP
      have hfl : l' ≤ 2000000 := hl6
      obtain ⟨i0, hi0, hiz, his, hib⟩ := bag_info
      have HI0 := toHid hi0
      have HIZ := toHid hiz
      have HIS := toHid his
      have HIB := toHid hib
      have HBy : (l' + 1) * 24 ≤ 140737488355328 := by omega
      have HBm : l' + 1 ≤ maxLen := by unfold maxLen; omega
      have D7 : Below w5.heap.size w5 w5.drew := (Below.refl _ _).drew
      have HFB := toHid (fresh_rb Y ba bl bc w5.drew (HYR.out.below (HB5.out.trans (D7.mono HB5.out.size))))
      have x1 := cell_of hX5 1
      simp at x1
      have hlx5 := blkB_lt hX5
      rw [← hlP] at HOW
      clear p1 p2 hlP hi0 hiz his hib hX5 hY5
      go_upto_region 5 with fail
      go_region_law (first
        | (refine step_append_lies _ (by rfl) _ _ _ (by rfl) w3.heap.size 26 i0 _ 1 24 Tryd.underlying22 HI0.out HIZ.out HIS.out HIB.out rfl (by omega) (.slice a' l' c') l' (qRow P) (by rfl) (hown6.alloc _) ⟨u2.heap.size, 0, none⟩ 1 1 [.slice ya bl yc] (by rfl) (by rfl) (World.news_of_block (cs := #[.slice ya bl yc]) (t := 26) (fr := (0, 0)) (alloc_new u2 _)) (by simp [Value.oneCell']) (by omega) HBm HBy (by simp; omega) (u2.heap.size + 1) (by simp) ?_; intro gg cap w6 hown7 hgrow hat7 hlt7
           have hX6 : w6.heap[w.heap.size]? = some (gObj v a' l' c' false t) := by
             rw [hgrow.block w.heap.size (by simp; omega) (fun e => by have := HOB.out w.heap.size e.symm; omega), Below.heap_alloc u2 _ w.heap.size (by omega), k6.block w.heap.size (by omega)]
             exact HX5.out
           have hY6 : w6.heap[w.heap.size + 1]? = some gZ := by
             rw [hgrow.block (w.heap.size + 1) (by simp; omega) (fun e => by have := HOB.out (w.heap.size + 1) e.symm; omega), Below.heap_alloc u2 _ (w.heap.size + 1) (by omega), k6.block (w.heap.size + 1) (by omega)]
             exact HY5.out
           have d1 := cell_of hX6 1
           have e1 := free_of hX6 1
           simp at d1
           have hlx6 := blkB_lt hX6
           obtain ⟨Z, hZ⟩ : ∃ Z, Z = w6.setCell ⟨w.heap.size, 1, none⟩ (.slice (some ⟨gg, 0, none⟩) (l' + 1) cap) := ⟨_, rfl⟩
           have hZp : Z = putL w6 w.heap.size 1 [.slice (some ⟨gg, 0, none⟩) (l' + 1) cap] := hZ
           have hvZ : Z.heap[w.heap.size]? = some (gObj v (some ⟨gg, 0, none⟩) (l' + 1) cap false t) := by rw [hZp, putL_here _ _ _ _ hX6]; rfl
           have hrZ : Z.heap[w.heap.size + 1]? = some gZ := by rw [hZp, putL_other _ _ _ _ _ (by omega)]; exact hY6
           have hZs := hZ.symm
           have HZP := toHid hZp
           have HRZ := toHid hrZ
           have q0 := cell_of hvZ 0
           have q1 := cell_of hvZ 1
           have q2 := cell_of hvZ 2
           have q3 := cell_of hvZ 3
           simp at q0 q1 q2 q3
           have r0 := cell_of hrZ 0
           have r1 := cell_of hrZ 1
           have r2 := cell_of hrZ 2
           have r3 := cell_of hrZ 3
           simp at r0 r1 r2 r3
           have g0 := free_of hrZ 0
           have g1 := free_of hrZ 1
           have g2 := free_of hrZ 2
           have g3 := free_of hrZ 3
           have HOWN7 := toHid hown7
           have HGROW := toHid hgrow
           have HAT7 := toHid hat7
           clear hX6 hY6 hZ hZp hvZ hrZ hown7 hgrow hat7 hlt7)
        | (go_simp
           go_at_call 21
           refine HFB.out.mono ?_
           rintro e u2 ⟨⟨ya, yc, rfl, hy⟩, h2⟩
           have k6 : Below w5.heap.size w5 u2 := D7.trans h2
           have hs6 : w5.heap.size ≤ u2.heap.size := k6.size
           have x1' : u2.cell? ⟨w.heap.size, 1, none⟩ = some (.slice a' l' c') := (k6.cell (p := ⟨w.heap.size, 1, none⟩) hlx5).trans x1
           have x1'' : ∀ o, (u2.alloc o).cell? ⟨w.heap.size, 1, none⟩ = some (.slice a' l' c') := fun o => by rw [cell_past _ _ _ _ (by omega)]; exact x1'
           have hown6 : u2.ownsRow w3.heap.size 26 1 (.slice a' l' c') l' (qRow P) := rowK1 HOW.out fun g hg => k6.block g (rowLt HOW.out hg).2))
      all_goals
        have hK56 : Below X.heap.size X u2 := HK5.out.trans (k6.mono HK5.out.size)
        have hsame : ∀ j, j < u2.heap.size → (Value.slice a' l' c').ownBlock ≠ some j → w6.heap[j]? = u2.heap[j]? := fun j hj hn => (HGROW.out.block j (by simp; omega) (fun e => hn e.symm)).trans (Below.heap_alloc u2 _ j hj)
        have hsz6 : u2.heap.size ≤ w6.heap.size := Nat.le_trans (by simp) HGROW.out.size
        have hZs2 : Z.heap.size = w6.heap.size := by rw [HZP.out, putL_size]
        have hZo : ∀ j, j ≠ w.heap.size → Z.heap[j]? = w6.heap[j]? := fun j hj => by rw [HZP.out]; exact putL_other _ _ _ _ j hj
        have hXs5 : X.heap.size ≤ w5.heap.size := HK5.out.size
        have hqZ : QB (fun i => w.heap.size + 2 ≤ i) Z (Q.map (·.X) ++ [Y]) (some ⟨gg, 0, none⟩) (l' + 1) := by
          have hPl := HLP.out
          have ho : Z.ownsRow w3.heap.size 26 1 (.slice (some ⟨gg, 0, none⟩) (l' + 1) cap) (P ++ [(⟨ya, bl, yc, 0, Y⟩ : Qd)]).length (qRow (P ++ [(⟨ya, bl, yc, 0, Y⟩ : Qd)])) := by
            rw [qRow_snoc, List.length_append, List.length_singleton, ← hPl]
            exact rowK1 HOWN7.out fun g hg => hZo g (by have := (rowLt HOWN7.out hg).1; omega)
          obtain ⟨a2, c2, e2, h2⟩ := own_qb ho (A := fun i => w.heap.size + 2 ≤ i) (fun g hg => by omega) (by rw [List.length_append, List.length_singleton, ← hPl]; have := HN4.out; omega) fun p hp => by
            rcases List.mem_append.1 hp with hp | hp
            · obtain ⟨q, h3, _, _, h4⟩ := pair_mem HPP.out p hp
              refine ⟨h3, h4.kept ⟨by omega, fun i hi hl => ⟨by have := hi.1; omega, ?_⟩⟩⟩
              rw [hZo i (by have := hi.1; omega), hsame i (by omega) hi.2]
              exact hK56.block i hl
            · rw [List.mem_singleton] at hp
              subst hp
              refine ⟨rfl, hy.kept ⟨by omega, fun i hi hl => ⟨by have h5 : w5.heap.size ≤ i := hi; omega, ?_⟩⟩⟩
              have h5 : w5.heap.size ≤ i := hi
              rw [hZo i (by omega), hsame i hl (fun e => by have := (HOB.out i e).2; omega)]
          injection e2 with e3 e4 e5
          subst e3
          rw [List.map_append, pair_X (fun p q h => h.2.1) HPP.out] at h2
          have e6 : (P ++ [(⟨ya, bl, yc, 0, Y⟩ : Qd)]).length = l' + 1 := by rw [List.length_append, List.length_singleton, ← hPl]
          rw [e6] at h2
          exact h2
        have hcZ : Below w.heap.size w Z := by
          rw [HZP.out]
          have h5 : Below w.heap.size w u2 := HB5.out.trans (k6.mono HB5.out.size)
          exact ((h5.alloc h5.size _).grown HGROW.out (by simp; omega) (fun j hj => by have := HOB.out j hj; omega)).trans (putL_bel _ _ _ _)
        have HQZ := toHid hqZ
        have HCZ := toHid hcZ
        clear hqZ hcZ hZo hsame hK56 hy h2 k6 hown6
        go_wp2_with fail
        have eP : ∀ X : World, (((X.setCell ⟨w.heap.size + 1, 0, none⟩ (.int .i64 v)).setCell ⟨w.heap.size + 1, 1, none⟩ (.slice (some ⟨gg, 0, none⟩) (l' + 1) cap)).setCell ⟨w.heap.size + 1, 2, none⟩ (.bool false)).setCell ⟨w.heap.size + 1, 3, none⟩ (.int .i64 t) = putL X (w.heap.size + 1) 0 [.int .i64 v, .slice (some ⟨gg, 0, none⟩) (l' + 1) cap, .bool false, .int .i64 t] := fun _ => rfl
        rw [eP]
        have E := putL_here [.int .i64 v, .slice (some ⟨gg, 0, none⟩) (l' + 1) cap, .bool false, .int .i64 t] 0 Z _ HRZ.out
        have hbb : Below w.heap.size w (putL Z (w.heap.size + 1) 0 [.int .i64 v, .slice (some ⟨gg, 0, none⟩) (l' + 1) cap, .bool false, .int .i64 t]) := HCZ.out.trans ((putL_bel (w.heap.size + 1) _ _ Z).mono (by omega))
        have hqb := (HQZ.out).kept (A' := fun i => w.heap.size ≤ i) (w' := putL Z (w.heap.size + 1) 0 [.int .i64 v, .slice (some ⟨gg, 0, none⟩) (l' + 1) cap, .bool false, .int .i64 t]) ⟨by rw [putL_size]; exact Nat.le_refl _, fun i hi _ => ⟨by omega, putL_other _ _ _ _ i (by omega)⟩⟩
        generalize putL Z (w.heap.size + 1) 0 [.int .i64 v, .slice (some ⟨gg, 0, none⟩) (l' + 1) cap, .bool false, .int .i64 t] = Y at E hbb hqb ⊢
        have t0 := cell_of E 0
        have t1 := cell_of E 1
        have t2 := cell_of E 2
        have t3 := cell_of E 3
        simp [setL] at t0 t1 t2 t3
        exact bodyPost_ret (v := .tuple #[.agg #[.int .i64 v, .slice (some ⟨gg, 0, none⟩) (l' + 1) cap, .bool false, .int .i64 t], .int .i64 0]) (by simp [results, Tryd.results6, go_sem, t0, t1, t2, t3]) rfl ⟨.inr ⟨HR0.out, _, _, _, by rw [HTF.out], by rw [HTF.out]; exact hqb⟩, hbb⟩
end Go.Proofs.YtmjeanpjiogkiaaDoor
