/-
  What is proved here: what the texts HPutN, HBox, HAddN, HErase prove, in one text.
-/
import Derived.Test.YtebbjmjgojekdaaGreatDoorQCBB
import Derived.Test.YtebbjmjgojekdaaGreatDoorQCAI
import Derived.Deep.RegionHeld3
import Derived.Deep.RegionLaw
import Derived.Test.YtebbjmjgojekdaaGreatDoorQCAW
namespace Go.Proofs.YtebbjmjgojekdaaGreatDoor
open Go.RowKit
set_option linter.unusedVariables false

theorem WorkAt.putN {O : Nat → Prop} {w u w5 : World} {b : Nat} {S : WS} {na : Option Addr} {nc : Nat} {ea : Option Addr} {ec : Nat} {ma : Option Addr} {mc : Nat} {PN PE PM : Nat → Prop} (h : WorkAt O w b S na nc ea ec ma mc PN PE PM) (k : Below w.heap.size w u) {y : Nd} {X : AN} (hy : NdOwn (fun i => w.heap.size ≤ i) u y X) (o : Obj)
    {L : List Nd} (hrow : w.ownsRow 0 72 3 (.slice na S.N.length nc) S.N.length (rowN L)) (hpair : PairD (fun B => NdOwn B w) (fun i => PN i ∧ (Value.slice na S.N.length nc).ownBlock ≠ some i) L S.N) {gg cap : Nat}
    (hgrow : (u.alloc o).grownBy w5 (Value.slice na S.N.length nc).ownBlock) (hown : w5.ownsRow 0 72 3 (.slice (some ⟨gg, 0, none⟩) (S.N.length + 1) cap) (S.N.length + 1) (rowN L ++ y.cells))
    (hat : (Value.slice na S.N.length nc).ownBlock = some gg ∨ gg = u.heap.size + 1) (hlt : gg < w5.heap.size) :
    StepEnd O w (w5.setCell ⟨b, 0, none⟩ (.slice (some ⟨gg, 0, none⟩) (S.N.length + 1) cap)) b ⟨S.N ++ [X], S.E, S.next, S.made⟩ := by
  obtain ⟨Y, hY⟩ : ∃ Y, Y = w5.setCell ⟨b, 0, none⟩ (.slice (some ⟨gg, 0, none⟩) (S.N.length + 1) cap) := ⟨_, rfl⟩
  rw [← hY]
  have hbw : b < w.heap.size := h.lt b h.ob
  have hwu := k.size
  have hu5 : u.heap.size + 1 ≤ w5.heap.size := by have := hgrow.size; simpa using this
  have hob : ∀ g, (Value.slice na S.N.length nc).ownBlock = some g → PN g := h.ns.1
  have hol : ∀ g, (Value.slice na S.N.length nc).ownBlock = some g → g < w.heap.size := fun g hg => row_lt hrow hg
  have h5 : ∀ j, j < u.heap.size → (Value.slice na S.N.length nc).ownBlock ≠ some j → w5.heap[j]? = u.heap[j]? := fun j hj hn => (hgrow.block j (by simp; omega) (fun e => hn e.symm)).trans (Below.heap_alloc u o j hj)
  have hb5 : w5.heap[b]? = some (.cells #[.slice na S.N.length nc, .slice ea S.E.length ec, .int .i64 S.next, .slice ma S.made.length mc] 95 (0, 0)) := by
    rw [h5 b (by omega) (fun e => absurd rfl (h.pn b (hob b e)).2), k.block b hbw]
    exact h.blk
  have hYb : Y.heap[b]? = some (.cells #[.slice (some ⟨gg, 0, none⟩) (S.N.length + 1) cap, .slice ea S.E.length ec, .int .i64 S.next, .slice ma S.made.length mc] 95 (0, 0)) := by rw [hY, set_here hb5]; rfl
  have hYo : ∀ j, j ≠ b → Y.heap[j]? = w5.heap[j]? := fun j hj => by rw [hY]; exact Below.heap_setCell w5 ⟨b, 0, none⟩ _ j hj
  have hYs : Y.heap.size = w5.heap.size := by rw [hY]; simp [World.setCell]
  have hYf : Y.os = w5.os ∧ Y.tape = w5.tape ∧ Y.output = w5.output := by rw [hY]; exact ⟨rfl, rfl, rfl⟩
  have old : ∀ j, j < w.heap.size → j ≠ b → (Value.slice na S.N.length nc).ownBlock ≠ some j → Y.heap[j]? = w.heap[j]? := fun j h1 h2 h3 => (hYo j h2).trans ((h5 j (by omega) h3).trans (k.block j h1))
  have ggN : ∀ j, j < u.heap.size → (Value.slice na S.N.length nc).ownBlock ≠ some j → j ≠ gg := fun j h1 h2 e => by
    subst e
    rcases hat with h3 | h3
    · exact h2 h3
    · omega
  have nv : (Value.slice (some ⟨gg, 0, none⟩) (S.N.length + 1) cap).ownBlock = some gg := rfl
  have e1 : (⟨S.N ++ [X], S.E, S.next, S.made⟩ : WS).N.length = S.N.length + 1 := by simp
  have ggB : gg ≠ b := by
    rcases hat with h3 | h3
    · exact (h.pn gg (hob gg h3)).2
    · omega
  have ggO : Now O w Y gg := by
    rcases hat with h3 | h3
    · exact .inl (h.pn gg (hob gg h3)).1
    · exact .inr ⟨by omega, by rw [hYs]; exact hlt⟩
  have lts : ∀ i, Now O w Y i → i < Y.heap.size := fun i hi => by
    rcases hi with hi | hi
    · have := h.lt i hi; omega
    · exact hi.2
  have hns : NsOwn (fun i => (PN i ∧ (Value.slice na S.N.length nc).ownBlock ≠ some i) ∨ i = gg ∨ (w.heap.size ≤ i ∧ i < u.heap.size)) Y (S.N ++ [X]) (.slice (some ⟨gg, 0, none⟩) (S.N.length + 1) cap) := by
    refine ⟨fun g hg => .inr (.inl (by rw [nv] at hg; exact (Option.some.inj hg).symm)), L ++ [y], ?_, ?_⟩
    · rw [rowN_snoc, show (L ++ [y]).length = S.N.length + 1 by simp [hpair.1]]
      exact row_keep hown fun g hg _ => by
        rw [nv] at hg
        obtain rfl := Option.some.inj hg
        exact hYo gg ggB
    · refine (hpair.carry (R' := fun B => NdOwn B Y) (A' := fun i => (((PN i ∧ (Value.slice na S.N.length nc).ownBlock ≠ some i) ∨ i = gg ∨ (w.heap.size ≤ i ∧ i < u.heap.size)) ∧ (Value.slice (some ⟨gg, 0, none⟩) (S.N.length + 1) cap).ownBlock ≠ some i) ∧ i < w.heap.size) (fun i => i < w.heap.size) (fun B p x hB hp => hp.kept ⟨by omega, fun j hj hjl => ⟨⟨hj, hjl⟩, old j hjl (h.pn j (hB j hj).1).2 (hB j hj).2⟩⟩) (fun b hb hz => ⟨⟨.inl hb, ?_⟩, hz⟩)).snoc (B := fun i => (((PN i ∧ (Value.slice na S.N.length nc).ownBlock ≠ some i) ∨ i = gg ∨ (w.heap.size ≤ i ∧ i < u.heap.size)) ∧ (Value.slice (some ⟨gg, 0, none⟩) (S.N.length + 1) cap).ownBlock ≠ some i) ∧ w.heap.size ≤ i) (hy.kept ⟨by omega, fun j hj hjl => ⟨⟨⟨.inr (.inr ⟨hj, hjl⟩), ?_⟩, hj⟩, ?_⟩⟩) (fun b hb => hb.1) (fun b hb => hb.1) (fun b hb hb' => by have h1 := hb.2; have h2 := hb'.2; omega)
      · rw [nv]
        exact fun e => ggN b (by omega) hb.2 (Option.some.inj e).symm
      · rw [nv]
        exact fun e => ggN j hjl (fun e => by have := hol j e; have : w.heap.size ≤ j := hj; omega) (Option.some.inj e).symm
      · have hj' : w.heap.size ≤ j := hj
        exact (hYo j (by omega)).trans (h5 j hjl (fun e => by have := hol j e; omega))
  have own : ∀ i, (PN i ∧ (Value.slice na S.N.length nc).ownBlock ≠ some i) ∨ i = gg ∨ (w.heap.size ≤ i ∧ i < u.heap.size) → Now O w Y i ∧ i ≠ b := fun i hi => by
    rcases hi with hi | rfl | hi
    · exact ⟨.inl (h.pn i hi.1).1, (h.pn i hi.1).2⟩
    · exact ⟨ggO, ggB⟩
    · exact ⟨.inr ⟨hi.1, by omega⟩, by omega⟩
  have apart : ∀ i, O i → ¬ PN i → ¬ ((PN i ∧ (Value.slice na S.N.length nc).ownBlock ≠ some i) ∨ i = gg ∨ (w.heap.size ≤ i ∧ i < u.heap.size)) := fun i hi hn q => by
    have hil := h.lt i hi
    rcases q with q | rfl | q
    · exact hn q.1
    · rcases hat with h3 | h3
      · exact hn (hob _ h3)
      · omega
    · omega
  have rest : Rest O w Y := ⟨hYf.1.trans (hgrow.os.trans k.os), hYf.2.1.trans (hgrow.tape.trans k.tape), hYf.2.2.trans (hgrow.output.trans k.output), by omega, fun i hi hn => old i hi (fun e => hn (e ▸ h.ob)) (fun e => hn (h.pn i (hob i e)).1)⟩
  refine ⟨⟨some ⟨gg, 0, none⟩, cap, ea, ec, ma, mc, _, PE, PM, ?_, .inl h.ob, lts, own, fun i hi => ⟨.inl (h.pe i hi).1, (h.pe i hi).2.1, apart i (h.pe i hi).1 (h.pe i hi).2.2⟩, fun i hi => ⟨.inl (h.pm i hi).1, (h.pm i hi).2.1, apart i (h.pm i hi).1 (h.pm i hi).2.2.1, (h.pm i hi).2.2.2⟩, ?_, ?_, h.ms, ?_⟩, rest⟩
  · rw [hYb, e1]
  · rw [e1]
    exact hns
  · exact h.es.kept ⟨by omega, fun i hi hl => ⟨hi, old i hl (h.pe i hi).2.1 (fun e => (h.pe i hi).2.2 (hob i e))⟩⟩
  · exact row_keep h.mr fun g hg hl => old g hl (h.pm g (h.ms g hg)).2.1 (fun e => (h.pm g (h.ms g hg)).2.2.1 (hob g e))

/-- Behind a step and a new box: the box, apart from the work. -/
def BoxCut (O : Nat → Prop) (u0 : World) (b : Nat) (S : WS) (cs : Array Value) (t : TypeId) (s : Value) (wx : World) : Prop :=
  ∃ (p : Nat) (O1 : Nat → Prop), s = .pointer (some ⟨p, 0, none⟩) ∧ wx.heap[p]? = some (.cells cs t (0, 0)) ∧ ¬ O1 p ∧ WorkIn O1 wx b S ∧ Rest O u0 wx ∧ ∀ i, O1 i → Now O u0 wx i

theorem boxA {O : Nat → Prop} {u0 u1 : World} {b : Nat} {S : WS} (h : StepEnd O u0.drew u1 b S) (cs : Array Value) (t : TypeId) : BoxCut O u0 b S cs t (.pointer (some ⟨u1.heap.size, 0, none⟩)) (u1.alloc (.cells cs t)) := by
  have r : Rest O u0 u1 := (Rest.of_below (Below.refl _ _).drew).trans h.2 (fun _ _ q => q)
  refine ⟨u1.heap.size, Now O u0.drew u1, rfl, alloc_new u1 _, fun q => Nat.lt_irrefl _ (h.1.lts _ q), h.1.below ((Below.refl _ _).alloc (Nat.le_refl _) _), r.alloc _, fun i hi => ?_⟩
  rcases hi with hi | hi
  · exact .inl hi
  · exact .inr ⟨hi.1, by simp; omega⟩

theorem boxB {O : Nat → Prop} {u0 u1 : World} {b : Nat} {S : WS} {Z : Array Value} {t : TypeId} (hl : ∀ i, O i → i < u0.heap.size) (h : StepEnd O (u0.drew.alloc (.cells Z t)) u1 b S) (vs : List Value) (cs : Array Value) (hcs : setL Z 0 vs = cs) : BoxCut O u0 b S cs t (.pointer (some ⟨u0.heap.size, 0, none⟩)) (putL u1 u0.heap.size 0 vs) := by
  have k : Below u0.heap.size u0 (u0.drew.alloc (.cells Z t)) := ((Below.refl _ _).drew).alloc (Nat.le_refl _) _
  have r : Rest O u0 u1 := (Rest.of_below k).trans h.2 (fun _ _ q => q)
  have hz : (u0.drew.alloc (.cells Z t)).heap.size = u0.heap.size + 1 := by simp
  have hn : ¬ Now O (u0.drew.alloc (.cells Z t)) u1 u0.heap.size := fun q => by
    rcases q with q | q
    · exact Nat.lt_irrefl _ (hl _ q)
    · rw [hz] at q; omega
  have hp : u1.heap[u0.heap.size]? = some (.cells Z t (0, 0)) := (h.far (i := u0.heap.size) (by rw [hz]; omega) (fun q => hn (.inl q))).trans (alloc_new u0.drew _)
  refine ⟨u0.heap.size, Now O (u0.drew.alloc (.cells Z t)) u1, rfl, by rw [← hcs]; exact putL_here vs 0 u1 Z hp, hn, h.1.kept (by rw [putL_size]; exact Nat.le_refl _) (fun i hi => putL_other _ vs 0 u1 i (fun e => hn (e ▸ hi))) (fun _ q => q) (fun i hi => by rw [putL_size]; exact h.1.lts i hi), ⟨?_, ?_, ?_, by rw [putL_size]; exact r.size, fun i hi hno => (putL_other _ vs 0 u1 i (by omega)).trans (r.block i hi hno)⟩, fun i hi => ?_⟩
  · exact (putL_bel u0.heap.size vs 0 u1).os.trans r.os
  · exact (putL_bel u0.heap.size vs 0 u1).tape.trans r.tape
  · exact (putL_bel u0.heap.size vs 0 u1).output.trans r.output
  · rcases hi with hi | hi
    · exact .inl hi
    · exact .inr ⟨by rw [hz] at hi; omega, by rw [putL_size]; exact hi.2⟩

/-- Behind all: a step from the box's world on. -/
theorem BoxCut.step {O O1 : Nat → Prop} {w u0 wx w' : World} {b : Nat} {S S1 S2 : WS} (hw : WorkIn O w b S) (k : Below w.heap.size w u0) (hl : ∀ i, O i → i < w.heap.size) (r : Rest O u0 wx) (h1 : WorkIn O1 wx b S1) (ho : ∀ i, O1 i → Now O u0 wx i) (h2 : StepEnd O1 wx w' b S2) : StepEnd O w w' b S2 := by
  have r0 : Rest O w wx := (Rest.of_below k).trans r (fun _ _ q => q)
  refine ⟨h2.1.kept (Nat.le_refl _) (fun _ _ => rfl) (fun i hi => ?_) (fun i hi => ?_), r0.trans h2.2 fun i hi q => ?_⟩
  · rcases hi with hi | hi
    · rcases ho i hi with q | q
      · exact .inl q
      · exact .inr ⟨Nat.le_trans k.size q.1, Nat.lt_of_lt_of_le q.2 h2.2.size⟩
    · exact .inr ⟨Nat.le_trans r0.size hi.1, hi.2⟩
  · rcases hi with hi | hi
    · exact Nat.lt_of_lt_of_le (hl i hi) (Nat.le_trans r0.size h2.2.size)
    · exact hi.2
  · rcases ho i q with q | q
    · exact q
    · have := k.size; omega

/-- An operation as it lies in memory. -/
structure Om where
  k : Int
  id : Int
  frm : Int
  dst : Int
  name : ByteArray
  vk : Int
  vn : Int
  vs : ByteArray
  va : Option Addr
  vl : Nat
  vc : Nat
  la : Option Addr
  ll : Nat
  lc : Nat
  pa : Option Addr
  pl : Nat
  pc : Nat

def Om.cells (o : Om) : Array Value := #[.int .i64 o.k, .int .i64 o.id, .int .i64 o.frm, .int .i64 o.dst, .string o.name, .int .i64 o.vk, .int .i64 o.vn, .string o.vs, .slice o.va o.vl o.vc, .slice o.la o.ll o.lc, .slice o.pa o.pl o.pc]
def Om.val (o : Om) : Value := .agg #[.int .i64 o.k, .int .i64 o.id, .int .i64 o.frm, .int .i64 o.dst, .string o.name, .int .i64 o.vk, .int .i64 o.vn, .string o.vs, .slice o.va o.vl o.vc, .slice o.la o.ll o.lc, .slice o.pa o.pl o.pc]

/-- What an act leaves: its error, and the work as it is then, if there is none. -/
def ActEnd (O : Nat → Prop) (w w' : World) (b : Nat) (S' : WS) (er : Int) (e : Ending) : Prop := e = .returned (.int .i64 er) ∧ Rest O w w' ∧ (er = 0 → StepEnd O w w' b S')

def addNE (S : WS) (er : Int) : Int := if er ≠ 0 then er else if 40 ≤ S.N.length ∨ 1099511627776 ≤ S.next then 10 else 0

theorem rest_below {O : Nat → Prop} {w W : World} {B : Nat} (hB : B ≤ w.heap.size) (hO : ∀ i, O i → B ≤ i) (h : Rest O w W) : Below B w W := h.below hB hO

set_option maxHeartbeats 8000000 in
set_option maxRecDepth 100000 in
theorem addNode_any (O : Nat → Prop) (b : Nat) (S : WS) (o : Om) (labs : List ByteArray) (P : List Pr) (X : List AP) (eL eP er : Int) (B : Nat) (w : World)
    (hW : WorkIn O w b S) (hB : B ≤ w.heap.size) (hO : ∀ i, O i → B ≤ i) (hm : S.made.length ≤ 1000) (hn0 : 0 ≤ S.next)
    (hL : ∀ W, Below B w W → Calls Tryz.prog 79 #[.slice o.la o.ll o.lc] W fun e w' => e = .returned (.int .i64 eL) ∧ Below W.heap.size W w')
    (hP : ∀ W, Below B w W → Calls Tryz.prog 80 #[.slice o.pa o.pl o.pc] W fun e w' => e = .returned (.int .i64 eP) ∧ Below W.heap.size W w')
    (her : er = if eL = 0 then eP else eL)
    (hX : er = 0 → AN.ok ⟨S.next, labs, X⟩ ∧ ∀ W, Below B w W → NdIn W ⟨S.next, labs, o.la, o.ll, o.lc, P, o.pa, o.pl, o.pc⟩ ⟨S.next, labs, X⟩) :
    Calls Tryz.prog 71 #[.pointer (some ⟨b, 0, none⟩), o.val] w fun e w' => ActEnd O w w' b ⟨S.N ++ [⟨S.next, labs, X⟩], S.E, S.next + 1, S.made ++ [S.next]⟩ (addNE S er) e := by
  obtain ⟨k, id, frm, dst, name, vk, vn, vs, va, vl, vc, la, ll, lc, pa, pl, pc⟩ := o
  simp only [Om.val] at hL hP hX ⊢
  have HL := toHid hL
  have HP := toHid hP
  have HER := toHid her
  have HX := toHid hX
  have HW := toHid hW
  have HO := toHid hO
  clear hL hP her hX hW hO
  obtain ⟨ez, hEZ⟩ : ∃ z, z = addNE S er := ⟨_, rfl⟩
  rw [← hEZ]
  have HEZ := toHid hEZ
  clear hEZ
  have b0 : Below w.heap.size w (w.alloc (.cells #[.int .i64 k, .int .i64 id, .int .i64 frm, .int .i64 dst, .string name, .int .i64 vk, .int .i64 vn, .string vs, .slice va vl vc, .slice la ll lc, .slice pa pl pc] 68)) := (Below.refl _ _).alloc (Nat.le_refl _) _
  have q0 := alloc_new w (.cells #[.int .i64 k, .int .i64 id, .int .i64 frm, .int .i64 dst, .string name, .int .i64 vk, .int .i64 vn, .string vs, .slice va vl vc, .slice la ll lc, .slice pa pl pc] 68)
  have z0 : (w.alloc (.cells #[.int .i64 k, .int .i64 id, .int .i64 frm, .int .i64 dst, .string name, .int .i64 vk, .int .i64 vn, .string vs, .slice va vl vc, .slice la ll lc, .slice pa pl pc] 68)).heap.size = w.heap.size + 1 := by simp
  have HB0 := toHid b0
  have HQ := toHid q0
  have HZ := toHid z0
  clear b0 q0 z0
  go_enter Tryz.func71, Tryz.ntmps71
  go_upto_region 1 with fail
  generalize w.alloc (.cells #[.int .i64 k, .int .i64 id, .int .i64 frm, .int .i64 dst, .string name, .int .i64 vk, .int .i64 vn, .string vs, .slice va vl vc, .slice la ll lc, .slice pa pl pc] 68) = W at HB0 HQ HZ ⊢
  have HS : Hid (∀ W' : World, Below W.heap.size W W' → W'.cell? ⟨w.heap.size, 9, none⟩ = some (.slice la ll lc) ∧ W'.cell? ⟨w.heap.size, 10, none⟩ = some (.slice pa pl pc)) := by
    intro W' kk
    have q : ∀ o, W'.cell? ⟨w.heap.size, o, none⟩ = _ := fun o => (kk.cell (p := ⟨w.heap.size, o, none⟩) (by rw [HZ.out]; show w.heap.size < _; omega)).trans (cell_of HQ.out o)
    exact ⟨q 9, q 10⟩
  have S0 := HS.out W (Below.refl _ _)
  have D0 : Below W.heap.size W W.drew := (Below.refl _ _).drew
  obtain ⟨x0, x1⟩ := S0
  have HBW : Hid (∀ W', Below W.heap.size W W' → Below B w W') := fun W' kk => (HB0.out.trans (kk.mono HB0.out.size)).mono hB
  go_cut [5] (fun s5 wx => s5 = .int .i64 er ∧ Below W.heap.size W wx)
  case first =>
    go_region_held3 (fun w' => w'.cell? ⟨w.heap.size, 9, none⟩ = some (.slice la ll lc) ∧ w'.cell? ⟨w.heap.size, 10, none⟩ = some (.slice pa pl pc))
      (first
        | exact S3
        | exact S2
        | exact S1
        | exact ⟨x0, x1⟩
        | go_keep)
      (first
        | (go_at_call 40; refine (or_two eL eP er HER.out u2.heap.size (u2.alloc (.cells #[.int .i64 eL, .int .i64 eP] 27)) (cell_of (alloc_new u2 _) 0) (cell_of (alloc_new u2 _) 1)).mono ?_; rintro e u4 ⟨rfl, rfl⟩)
        | (go_at_call 80; refine (HP.out _ (HBW.out _ k1)).mono ?_; rintro e u2 ⟨rfl, h2⟩; have k2 : Below W.heap.size W u2 := k1.trans (h2.mono k1.size); have S2 := HS.out u2 k2; have k3 : Below W.heap.size W (u2.alloc (.cells #[.int .i64 eL, .int .i64 eP] 27)) := k2.alloc k2.size _; have S3 := HS.out _ k3)
        | (go_at_call 79; refine (HL.out _ (HBW.out _ D0)).mono ?_; rintro e u1 ⟨rfl, h1⟩; have k1 : Below W.heap.size W u1 := D0.trans h1; have S1 := HS.out u1 k1))
    all_goals
      go_wp2_with fail
      go_meet
      exact ⟨rfl, k3⟩
  case rest =>
    obtain ⟨rfl, kc⟩ := hcut
    clear x0 x1 D0 HL HP HER
    have k0 := HB0.out.trans (kc.mono HB0.out.size)
    have HK0 := toHid k0
    have HWC := toHid (HW.out.below k0)
    have sc : w.heap.size + 1 ≤ wc.heap.size := by have := kc.size; rw [HZ.out] at this; exact this
    obtain ⟨v9, v10⟩ := HS.out wc kc
    clear HS kc k0 HBW
    by_cases hz : er = 0
    · subst hz
      have HX0 := toHid (HX.out rfl)
      obtain ⟨na, nc, ea, ec, ma, mc, PN, PE, PM, hw⟩ := HWC.out
      obtain ⟨nl, hnl⟩ : ∃ z, z = S.N.length := ⟨_, rfl⟩
      obtain ⟨nx, hnx⟩ : ∃ z, z = S.next := ⟨_, rfl⟩
      have hblk := hw.blk
      rw [← hnl, ← hnx] at hblk
      have c0 := cell_of hblk 0
      simp at c0
      have HBLK := toHid hblk
      have HNL := toHid hnl
      have HNX := toHid hnx
      rw [← hnx] at hn0
      have HFULL : Hid (Calls Tryz.prog 117 #[.pointer (some ⟨b, 0, none⟩)] wc fun e w' => e = .returned (.bool (decide (1099511627776 ≤ nx))) ∧ w' = wc) := full_any b _ _ _ nx wc hblk
      clear hblk hnl hnx
      by_cases h40 : 40 ≤ nl
      · have h40i : (40 : Int) ≤ nl := by omega
        go_wp2_with fail
        go_ret
        have hE : ez = 10 := by rw [HEZ.out, addNE, if_neg (by simp), if_pos (.inl (by rw [← HNL.out]; exact h40))]
        exact ⟨by rw [hE]; rfl, Rest.of_below HK0.out, fun h => by rw [hE] at h; cases h⟩
      · have h40i : ¬ ((40 : Int) ≤ nl) := by omega
        go_wp2_with fail
        refine HFULL.out.mono ?_
        rintro e u0 ⟨rfl, rfl⟩
        by_cases hfl : 1099511627776 ≤ nx
        · have hd : decide (1099511627776 ≤ nx) = true := by simp [hfl]
          go_wp2_with fail
          go_ret
          have hE : ez = 10 := by rw [HEZ.out, addNE, if_neg (by simp), if_pos (.inr (by rw [← HNX.out]; exact hfl))]
          exact ⟨by rw [hE]; rfl, Rest.of_below HK0.out, fun h => by rw [hE] at h; cases h⟩
        · have hd : decide (1099511627776 ≤ nx) = false := by simp [hfl]
          have hE : ez = 0 := by
            rw [HEZ.out, addNE, if_neg (by simp), if_neg]
            rintro (h | h)
            · rw [← HNL.out] at h; exact h40 h
            · rw [← HNX.out] at h; exact hfl h
          have HE0 := toHid hE
          clear hE
          have HNUM : Hid (∀ W, Below u0.heap.size u0 W → Calls Tryz.prog 118 #[.pointer (some ⟨b, 0, none⟩)] W fun e w' => e = .returned (.int .i64 nx) ∧ StepEnd O W w' b S.numbered) := fun W kW => by
            rw [HNX.out]
            exact number_any O b S W (HWC.out.below kW) hm (by rw [← HNX.out]; exact hn0) (by rw [← HNX.out]; omega)
          go_upto_region 6 with fail
          have D6 : Below u0.heap.size u0 u0.drew := (Below.refl _ _).drew
          have R0 : Rest O u0 u0.drew := Rest.of_below D6
          have nO : ¬ O u0.heap.size := fun q => Nat.lt_irrefl _ (HWC.out.lts _ q)
          have HSR : Hid (∀ W', Rest O u0 W' → W'.cell? ⟨w.heap.size, 9, none⟩ = some (.slice la ll lc) ∧ W'.cell? ⟨w.heap.size, 10, none⟩ = some (.slice pa pl pc)) := fun W' r => by
            have hq : W'.heap[w.heap.size]? = u0.heap[w.heap.size]? := r.block _ (by omega) (fun q => Nat.lt_irrefl _ (HW.out.lts _ q))
            exact ⟨(cell_same hq 9).trans v9, (cell_same hq 10).trans v10⟩
          go_cut [6] (fun s6 wx => BoxCut O u0 b S.numbered #[.int .i64 nx, .slice la ll lc, .slice pa pl pc] 72 s6 wx)
          case first =>
            go_region_held3 (fun w' => w'.cell? ⟨w.heap.size, 9, none⟩ = some (.slice la ll lc) ∧ w'.cell? ⟨w.heap.size, 10, none⟩ = some (.slice pa pl pc))
              (first
                | with_reducible exact HSR.out _ R1
                | with_reducible exact HSR.out _ R0
                | with_reducible exact HSR.out _ (R0.alloc _)
                | with_reducible exact HSR.out _ (R1.alloc _)
                | exact HSR.out _ (((R1.set ⟨u0.heap.size, 0, none⟩ (Nat.le_refl _) _).set ⟨u0.heap.size, 1, none⟩ (Nat.le_refl _) _).set ⟨u0.heap.size, 2, none⟩ (Nat.le_refl _) _)
                | exact HSR.out _ ((((R1.alloc _).set ⟨u1.heap.size, 0, none⟩ R1.size _).set ⟨u1.heap.size, 1, none⟩ R1.size _).set ⟨u1.heap.size, 2, none⟩ R1.size _)
                | go_keep)
              (first
                | (go_at_call 118; refine (HNUM.out _ (by first | exact D6 | exact D6.alloc (Nat.le_refl _) _)).mono ?_; rintro e u1 ⟨rfl, h1⟩; have R1 : Rest O u0 u1 := (by first | exact R0.trans h1.2 (fun _ _ q => q) | exact (R0.alloc _).trans h1.2 (fun _ _ q => q)); try (have hp := (h1.far (i := u0.heap.size) (by simp) nO).trans (alloc_new u0.drew _); have p0 := cell_of hp 0; have p1 := cell_of hp 1; have p2 := cell_of hp 2; have f0 := free_of hp 0; have f1 := free_of hp 1; have f2 := free_of hp 2; simp at p0 p1 p2)))
            all_goals
              go_wp2_with fail
              go_meet
              first
                | exact boxA h1 _ _
                | exact boxB HWC.out.lts h1 [.int .i64 nx, .slice la ll lc, .slice pa pl pc] _ rfl
          case rest =>
            obtain ⟨p, O1, rfl, hp, hnp, hw1, hr1, ho1⟩ := hcut
            obtain ⟨u1, rfl⟩ : ∃ z, z = wc := ⟨wc, rfl⟩
            have HW1 := toHid hw1
            have HR1 := toHid hr1
            have HO1 := toHid ho1
            obtain ⟨na1, nc1, ea1, ec1, ma1, mc1, PN1, PE1, PM1, hwa⟩ := hw1
            obtain ⟨hob, L, hrow, hpair⟩ := hwa.ns
            have hll : L.length = S.N.length := hpair.1
            have hblk1 : u1.heap[b]? = some (.cells #[.slice na1 S.N.length nc1, .slice ea1 S.E.length ec1, .int .i64 (S.next + 1), .slice ma1 (S.made ++ [S.next]).length mc1] 95 (0, 0)) := hwa.blk
            have hrow' : u1.ownsRow 0 72 3 (.slice na1 S.N.length nc1) S.N.length (rowN L) := by
              have := hrow
              rw [hll] at this
              exact this
            have hbl : b < u1.heap.size := hwa.lt b hwa.ob
            have hgb : ∀ g, (Value.slice na1 S.N.length nc1).ownBlock = some g → g ≠ b := fun g hg => (hwa.pn g (hob g hg)).2
            rw [← HNL.out] at hblk1 hrow' hgb
            have HBLK1 := toHid hblk1
            have HROW := toHid hrow'
            have HGB := toHid hgb
            have HPAIR := toHid hpair
            have HWA := toHid hwa
            have HLL := toHid hll
            have c0 := cell_of hblk1 0
            have p0 := cell_of hp 0
            have p1 := cell_of hp 1
            have p2 := cell_of hp 2
            simp at c0 p0 p1 p2
            have HND : Hid (∀ W, Below u1.heap.size u1 W → Calls Tryz.prog 68 #[.agg #[.int .i64 nx, .slice la ll lc, .slice pa pl pc]] W fun e w' => (∃ y : Nd, e = .returned (.agg #[.int .i64 y.id, .slice y.la y.ll y.lc, .slice y.pa y.pl y.pc]) ∧ NdOwn (fun i => W.heap.size ≤ i) w' y ⟨nx, labs, X⟩) ∧ Below W.heap.size W w') := fun W kW => by
              have hx := HX0.out
              rw [HNX.out]
              have k1 : Below B w W := ((HK0.out.mono hB).trans (HR1.out.below (Nat.le_trans hB HK0.out.size) HO.out)).trans (kW.mono (Nat.le_trans hB (Nat.le_trans HK0.out.size HR1.out.size)))
              exact (node_any ⟨S.next, labs, la, ll, lc, P, pa, pl, pc⟩ ⟨S.next, labs, X⟩ W (hx.2 W k1) hx.1).mono fun e w' ⟨⟨y, he, hy⟩, kk⟩ => ⟨⟨y, he, hy⟩, kk⟩
            obtain ⟨i0, hi0, hiz, his, hib⟩ := info_Node
            have HI0 := toHid hi0
            have HIZ := toHid hiz
            have HIS := toHid his
            have HIB := toHid hib
            have HBy : (nl + 1) * 56 ≤ 140737488355328 := by omega
            have HBm : nl + 1 ≤ maxLen := by unfold maxLen; omega
            clear hi0 hiz his hib hp hnp hr1 ho1 hob hrow hpair hll hblk1 hrow' hgb hwa HSR nO R0 D6 v9 v10 c0 HNUM HBLK HFULL hw
            have c0 := cell_of HBLK1.out 0
            simp at c0
            have D7 : Below u1.heap.size u1 u1.drew := (Below.refl _ _).drew
            go_upto_region 7 with fail
            go_region_law (first
              | (refine step_append_lies _ (by rfl) _ _ _ (by rfl) 0 72 i0 _ 3 56 Tryz.underlying22 HI0.out HIZ.out HIS.out HIB.out rfl (by omega) (.slice na1 nl nc1) nl (rowN L) (by rfl) (hown2.alloc _) ⟨u2.heap.size, 0, none⟩ 1 1 [.int .i64 y.id, .slice y.la y.ll y.lc, .slice y.pa y.pl y.pc] (by rfl) (by rfl) (World.news_of_block (cs := #[.int .i64 y.id, .slice y.la y.ll y.lc, .slice y.pa y.pl y.pc]) (t := 72) (fr := (0, 0)) (alloc_new u2 _)) (by simp [Value.oneCell']) (by omega) HBm HBy (Nat.zero_le _) (u2.heap.size + 1) (by simp) ?_; intro gg cap w5 hown5 hgrow hat5 hlt5
                 have hb5 : w5.heap[b]? = some (.cells #[.slice na1 nl nc1, .slice ea1 S.E.length ec1, .int .i64 (S.next + 1), .slice ma1 (S.made ++ [S.next]).length mc1] 95 (0, 0)) := by
                   rw [hgrow.block b (by simp; omega) (fun e => HGB.out b e.symm rfl), Below.heap_alloc u2 _ b (by omega), k2.block b hbl]
                   exact HBLK1.out
                 have d0 := cell_of hb5 0
                 have f5 := free_of hb5 0
                 simp at d0
                 clear hb5)
              | (go_simp
                 go_at_call 68
                 refine (HND.out _ D7).mono ?_
                 rintro e u2 ⟨⟨y, rfl, hy⟩, h2⟩
                 have k2 : Below u1.heap.size u1 u2 := D7.trans h2
                 have hs2 : u1.heap.size ≤ u2.heap.size := k2.size
                 have c0' : u2.cell? ⟨b, 0, none⟩ = some (.slice na1 nl nc1) := (k2.cell (p := ⟨b, 0, none⟩) hbl).trans c0
                 have c0'' : ∀ o, (u2.alloc o).cell? ⟨b, 0, none⟩ = some (.slice na1 nl nc1) := fun o => by rw [cell_past _ _ _ _ (by omega)]; exact c0'
                 have hown2 : u2.ownsRow 0 72 3 (.slice na1 nl nc1) nl (rowN L) := row_keep HROW.out fun g _ hl => k2.block g hl))
            all_goals
              go_wp2_with fail
              go_ret
              have hnl := HNL.out
              have hnx := HNX.out
              subst hnl hnx
              have hst := BoxCut.step HW.out HK0.out HW.out.lts HR1.out HW1.out HO1.out (HWA.out.putN k2 hy _ HROW.out HPAIR.out hgrow hown5 hat5 hlt5)
              exact ⟨by rw [HE0.out]; rfl, hst.2, fun _ => hst⟩
    · have hz' : (er != 0) = true := by simp [hz]
      go_wp2_with fail
      go_ret
      have hE : ez = er := by rw [HEZ.out, addNE, if_pos hz]
      exact ⟨by rw [hE]; rfl, Rest.of_below HK0.out, fun h => absurd (hE ▸ h) hz⟩

theorem Pair2.erase {α β : Type} {R : α → β → Prop} {P : List α} {L : List β} (h : Pair2 R P L) (i : Nat) : Pair2 R (P.eraseIdx i) (L.eraseIdx i) := by
  refine ⟨by rw [List.length_eraseIdx, List.length_eraseIdx, h.1], fun j p x hp hx => ?_⟩
  rw [List.getElem?_eraseIdx] at hp hx
  split at hp
  · rename_i hj
    rw [if_pos hj] at hx
    exact h.2 j p x hp hx
  · rename_i hj
    rw [if_neg hj] at hx
    exact h.2 (j + 1) p x hp hx

theorem rise_nodup {L : List Int} (h : Rise L) : L.Nodup := by
  rw [List.nodup_iff_pairwise_ne, List.pairwise_iff_getElem]
  intro i j hi hj hij
  have := h i j _ _ hij (List.getElem?_eq_getElem hi) (List.getElem?_eq_getElem hj)
  omega

theorem erase_filter {α : Type} (f : α → Int) : ∀ (L : List α) (i : Nat) (x : α), L[i]? = some x → (L.map f).Nodup → L.eraseIdx i = L.filter (fun y => f y != f x)
  | [], _, _, h, _ => by simp at h
  | y :: L, 0, x, h, hn => by
    simp at h
    subst h
    rw [List.map_cons, List.nodup_cons] at hn
    rw [List.eraseIdx_cons_zero, List.filter_cons_of_neg (by simp)]
    symm
    rw [List.filter_eq_self]
    intro z hz
    have : f z ≠ f y := fun e => hn.1 (e ▸ List.mem_map_of_mem hz)
    simpa using this
  | y :: L, i + 1, x, h, hn => by
    rw [List.map_cons, List.nodup_cons] at hn
    have hx : L[i]? = some x := by simpa using h
    have : f y ≠ f x := fun e => hn.1 (e ▸ List.mem_map_of_mem (List.mem_of_getElem? hx))
    rw [List.eraseIdx_cons_succ, List.filter_cons_of_pos (by simpa using this), erase_filter f L i x hx hn.2]

theorem WorkAt.eraseN {O : Nat → Prop} {w w1 : World} {b : Nat} {S : WS} {na : Option Addr} {nc : Nat} {ea : Option Addr} {ec : Nat} {ma : Option Addr} {mc : Nat} {PN PE PM : Nat → Prop} (h : WorkAt O w b S na nc ea ec ma mc PN PE PM) {g i : Nat} (hg : na = some ⟨g, 0, none⟩)
    {L : List Nd} (hpair : PairD (fun B => NdOwn B w) (fun j => PN j ∧ (Value.slice na S.N.length nc).ownBlock ≠ some j) L S.N) (hi : i < S.N.length) {m : Nat} (hm : m = S.N.length - 1)
    (hown : w1.ownsRow 0 72 3 (.slice (some ⟨g, 0, none⟩) m nc) m (rowN (L.eraseIdx i))) (hr : Rest (fun j => j = g) w w1) :
    StepEnd O w (w1.setCell ⟨b, 0, none⟩ (.slice (some ⟨g, 0, none⟩) m nc)) b ⟨S.N.eraseIdx i, S.E, S.next, S.made⟩ := by
  subst hg
  obtain ⟨Y, hY⟩ : ∃ Y, Y = w1.setCell ⟨b, 0, none⟩ (.slice (some ⟨g, 0, none⟩) m nc) := ⟨_, rfl⟩
  rw [← hY]
  have hgP : PN g := h.ns.1 g rfl
  have hgb : g ≠ b := (h.pn g hgP).2
  have hbw : b < w.heap.size := h.lt b h.ob
  have hb1 : w1.heap[b]? = some (.cells #[.slice (some ⟨g, 0, none⟩) S.N.length nc, .slice ea S.E.length ec, .int .i64 S.next, .slice ma S.made.length mc] 95 (0, 0)) := (hr.block b hbw (fun e => hgb e.symm)).trans h.blk
  have hYb : Y.heap[b]? = some (.cells #[.slice (some ⟨g, 0, none⟩) m nc, .slice ea S.E.length ec, .int .i64 S.next, .slice ma S.made.length mc] 95 (0, 0)) := by rw [hY, set_here hb1]; rfl
  have hYo : ∀ j, j ≠ b → Y.heap[j]? = w1.heap[j]? := fun j hj => by rw [hY]; exact Below.heap_setCell w1 ⟨b, 0, none⟩ _ j hj
  have hYs : Y.heap.size = w1.heap.size := by rw [hY]; simp [World.setCell]
  have hYf : Y.os = w1.os ∧ Y.tape = w1.tape ∧ Y.output = w1.output := by rw [hY]; exact ⟨rfl, rfl, rfl⟩
  have old : ∀ j, j < w.heap.size → j ≠ b → j ≠ g → Y.heap[j]? = w.heap[j]? := fun j h1 h2 h3 => (hYo j h2).trans (hr.block j h1 h3)
  have hws := hr.size
  have e1 : (⟨S.N.eraseIdx i, S.E, S.next, S.made⟩ : WS).N.length = m := by simp [List.length_eraseIdx, hi, hm]
  have lts : ∀ j, Now O w Y j → j < Y.heap.size := fun j hj => by
    rcases hj with hj | hj
    · have := h.lt j hj; omega
    · exact hj.2
  have nO : ∀ {j}, j = g → PN j := fun e => e ▸ hgP
  have hns : NsOwn PN Y (S.N.eraseIdx i) (.slice (some ⟨g, 0, none⟩) m nc) := by
    refine ⟨fun j hj => ?_, L.eraseIdx i, ?_, ?_⟩
    · have : g = j := by simpa [Value.ownBlock] using hj
      exact this ▸ hgP
    · have hl : (L.eraseIdx i).length = m := by rw [List.length_eraseIdx, hpair.1, if_pos hi, hm]
      rw [hl]
      exact row_keep hown fun j hj _ => by
        have : g = j := by simpa [Value.ownBlock] using hj
        subst this
        exact hYo g hgb
    · exact PairD.erase (hpair.carry (fun b => b < w.heap.size) (fun B p x hB hp => hp.kept ⟨by omega, fun j hj hjl => ⟨⟨hj, hjl⟩, old j hjl (h.pn j (hB j hj).1).2 (fun e => (hB j hj).2 (by rw [e]; rfl))⟩⟩) (fun b hb _ => ⟨hb.1, fun e => hb.2 e⟩)) i
  refine ⟨⟨some ⟨g, 0, none⟩, nc, ea, ec, ma, mc, PN, PE, PM, by rw [hYb, e1], .inl h.ob, lts, fun j hj => ⟨.inl (h.pn j hj).1, (h.pn j hj).2⟩, fun j hj => ⟨.inl (h.pe j hj).1, (h.pe j hj).2⟩, fun j hj => ⟨.inl (h.pm j hj).1, (h.pm j hj).2⟩, by rw [e1]; exact hns, ?_, h.ms, ?_⟩, ?_⟩
  · exact h.es.kept ⟨by omega, fun j hj hl => ⟨hj, old j hl (h.pe j hj).2.1 (fun e => (h.pe j hj).2.2 (nO e))⟩⟩
  · exact row_keep h.mr fun j hj hl => old j hl (h.pm j (h.ms j hj)).2.1 (fun e => (h.pm j (h.ms j hj)).2.2.1 (nO e))
  · exact ⟨hYf.1.trans hr.os, hYf.2.1.trans hr.tape, hYf.2.2.trans hr.output, by omega, fun j hj hn => old j hj (fun e => hn (e ▸ h.ob)) (fun e => hn (h.pn j (nO e)).1)⟩

theorem WorkAt.eraseE {O : Nat → Prop} {w w1 : World} {b : Nat} {S : WS} {na : Option Addr} {nc : Nat} {ea : Option Addr} {ec : Nat} {ma : Option Addr} {mc : Nat} {PN PE PM : Nat → Prop} (h : WorkAt O w b S na nc ea ec ma mc PN PE PM) {g i : Nat} (hg : ea = some ⟨g, 0, none⟩)
    {L : List Ed} (hpair : PairD (fun B => EdOwn B w) (fun j => PE j ∧ (Value.slice ea S.E.length ec).ownBlock ≠ some j) L S.E) (hi : i < S.E.length) {m : Nat} (hm : m = S.E.length - 1)
    (hown : w1.ownsRow 0 47 5 (.slice (some ⟨g, 0, none⟩) m ec) m (rowX (L.eraseIdx i))) (hr : Rest (fun j => j = g) w w1) :
    StepEnd O w (w1.setCell ⟨b, 1, none⟩ (.slice (some ⟨g, 0, none⟩) m ec)) b ⟨S.N, S.E.eraseIdx i, S.next, S.made⟩ := by
  subst hg
  obtain ⟨Y, hY⟩ : ∃ Y, Y = w1.setCell ⟨b, 1, none⟩ (.slice (some ⟨g, 0, none⟩) m ec) := ⟨_, rfl⟩
  rw [← hY]
  have hgP : PE g := h.es.1 g rfl
  have hgb : g ≠ b := (h.pe g hgP).2.1
  have hbw : b < w.heap.size := h.lt b h.ob
  have hb1 : w1.heap[b]? = some (.cells #[.slice na S.N.length nc, .slice (some ⟨g, 0, none⟩) S.E.length ec, .int .i64 S.next, .slice ma S.made.length mc] 95 (0, 0)) := (hr.block b hbw (fun e => hgb e.symm)).trans h.blk
  have hYb : Y.heap[b]? = some (.cells #[.slice na S.N.length nc, .slice (some ⟨g, 0, none⟩) m ec, .int .i64 S.next, .slice ma S.made.length mc] 95 (0, 0)) := by rw [hY, set_here hb1]; rfl
  have hYo : ∀ j, j ≠ b → Y.heap[j]? = w1.heap[j]? := fun j hj => by rw [hY]; exact Below.heap_setCell w1 ⟨b, 1, none⟩ _ j hj
  have hYs : Y.heap.size = w1.heap.size := by rw [hY]; simp [World.setCell]
  have hYf : Y.os = w1.os ∧ Y.tape = w1.tape ∧ Y.output = w1.output := by rw [hY]; exact ⟨rfl, rfl, rfl⟩
  have old : ∀ j, j < w.heap.size → j ≠ b → j ≠ g → Y.heap[j]? = w.heap[j]? := fun j h1 h2 h3 => (hYo j h2).trans (hr.block j h1 h3)
  have hws := hr.size
  have e1 : (⟨S.N, S.E.eraseIdx i, S.next, S.made⟩ : WS).E.length = m := by simp [List.length_eraseIdx, hi, hm]
  have lts : ∀ j, Now O w Y j → j < Y.heap.size := fun j hj => by
    rcases hj with hj | hj
    · have := h.lt j hj; omega
    · exact hj.2
  have nO : ∀ {j}, j = g → PE j := fun e => e ▸ hgP
  have hns : EsOwn PE Y (S.E.eraseIdx i) (.slice (some ⟨g, 0, none⟩) m ec) := by
    refine ⟨fun j hj => ?_, L.eraseIdx i, ?_, ?_⟩
    · have : g = j := by simpa [Value.ownBlock] using hj
      exact this ▸ hgP
    · have hl : (L.eraseIdx i).length = m := by rw [List.length_eraseIdx, hpair.1, if_pos hi, hm]
      rw [hl]
      exact row_keep hown fun j hj _ => by
        have : g = j := by simpa [Value.ownBlock] using hj
        subst this
        exact hYo g hgb
    · exact PairD.erase (hpair.carry (fun b => b < w.heap.size) (fun B p x hB hp => hp.kept ⟨by omega, fun j hj hjl => ⟨⟨hj, hjl⟩, old j hjl (h.pe j (hB j hj).1).2.1 (fun e => (hB j hj).2 (by rw [e]; rfl))⟩⟩) (fun b hb _ => ⟨hb.1, fun e => hb.2 e⟩)) i
  refine ⟨⟨na, nc, some ⟨g, 0, none⟩, ec, ma, mc, PN, PE, PM, by rw [hYb, e1], .inl h.ob, lts, fun j hj => ⟨.inl (h.pn j hj).1, (h.pn j hj).2⟩, fun j hj => ⟨.inl (h.pe j hj).1, (h.pe j hj).2⟩, fun j hj => ⟨.inl (h.pm j hj).1, (h.pm j hj).2⟩, ?_, by rw [e1]; exact hns, h.ms, ?_⟩, ?_⟩
  · exact h.ns.kept ⟨by omega, fun j hj hl => ⟨hj, old j hl (h.pn j hj).2 (fun e => (h.pe j (nO e)).2.2 hj)⟩⟩
  · exact row_keep h.mr fun j hj hl => old j hl (h.pm j (h.ms j hj)).2.1 (fun e => (h.pm j (h.ms j hj)).2.2.2 (nO e))
  · exact ⟨hYf.1.trans hr.os, hYf.2.1.trans hr.tape, hYf.2.2.trans hr.output, by omega, fun j hj hn => old j hj (fun e => hn (e ▸ h.ob)) (fun e => hn (h.pe j (nO e)).1)⟩
end Go.Proofs.YtebbjmjgojekdaaGreatDoor
