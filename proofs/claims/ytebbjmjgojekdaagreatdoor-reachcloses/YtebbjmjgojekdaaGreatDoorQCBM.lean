/-
  What is proved here: what the texts RApply, RIdx, RLed, RPathF, GLaid prove, in one text.
-/
import Derived.Test.YtebbjmjgojekdaaGreatDoorQCBL
import Derived.Test.YtebbjmjgojekdaaGreatDoorHDo
import Derived.Test.YtebbjmjgojekdaaGreatDoorQCBI
import Derived.Test.YtebbjmjgojekdaaGreatDoorQCAM
import Derived.Test.YtebbjmjgojekdaaGreatDoorQCAH
import Derived.Test.YtebbjmjgojekdaaGreatDoorQCAI
import Derived.Test.YtebbjmjgojekdaaGreatDoorQCAP
import Derived.Test.YtebbjmjgojekdaaGreatDoorQCAQ
import Derived.Test.YtebbjmjgojekdaaGreatDoorQCAK
import Derived.Test.YtebbjmjgojekdaaGreatDoorPM
import Derived.Test.YtebbjmjgojekdaaGreatDoorShelf
import Derived.PinnedBridge
import Derived.Lib.LaidU8T
import Derived.Lib.LaidTab
import Derived.Lay
namespace Go.Proofs.YtebbjmjgojekdaaGreatDoor
open Go.RowKit
set_option linter.unusedVariables false

set_option linter.unusedSimpArgs false

theorem edges_same {w : World} {E F : List Ed} {a : Option Addr} {l : Nat} (h : EdgesAt w E a l) (h' : EdgesAt w F a l) (i : Nat) (x y : Ed) (hx : E[i]? = some x) (hy : F[i]? = some y) : y.frm = x.frm ∧ y.dst = x.dst ∧ y.typ = x.typ := by
  have hi := (List.getElem?_eq_some_iff.1 hx).1
  obtain ⟨b, off, rfl, _, hc⟩ := h.2.2 (by have := h.1; omega)
  obtain ⟨b', off', e, _, hc'⟩ := h'.2.2 (by have := h.1; omega)
  injection e with e
  injection e with e1 e2
  subst e1 e2
  obtain ⟨_, c0, c1, c2, c3, c4⟩ := hc i x hx
  obtain ⟨_, d0, d1, d2, d3, d4⟩ := hc' i y hy
  rw [c1] at d1
  rw [c2] at d2
  rw [c3] at d3
  injection d1 with d1
  injection d1 with _ d1
  injection d2 with d2
  injection d2 with _ d2
  injection d3 with d3
  injection d3 with d3
  exact ⟨d1.symm, d2.symm, d3.symm⟩

def opE (f t : Int) : Om := ⟨2, 0, f, t, ⟨#[75]⟩, 0, 0, ⟨#[]⟩, none, 0, 0, none, 0, 0, none, 0, 0⟩
def opED (f t : Int) : OpD := ⟨opE f t, [], [], [], [], 1, 0, 1⟩

theorem opE_at {w : World} {ob : Nat} {f t : Int} (h : w.heap[ob]? = some (.cells #[.int .i64 2, .int .i64 0, .int .i64 f, .int .i64 t, .string ⟨#[75]⟩, .int .i64 0, .int .i64 0, .string ⟨#[]⟩, .slice none 0 0, .slice none 0 0, .slice none 0 0] 68 (0, 0))) : OpsAt w [opE f t] (some ⟨ob, 0, none⟩) 1 := by
  refine ⟨rfl, by omega, fun _ => ⟨ob, 0, rfl, (Array.getElem?_eq_some_iff.1 h).1, fun i o ho => ?_⟩⟩
  match i, ho with
  | 0, ho =>
    simp at ho
    subst ho
    exact ⟨cell_of h 0, cell_of h 1, cell_of h 2, cell_of h 3, cell_of h 4, cell_of h 5, cell_of h 6, cell_of h 7, cell_of h 8, cell_of h 9, cell_of h 10⟩
  | i + 1, ho => simp at ho

theorem rtP_none : RtP [] := by
  unfold RtP
  simp [RiseS]

theorem opE_right (f t : Int) : OpRt (opED f t) := ⟨fun h => absurd (show (1 : Int) = 0 from h) (by decide), fun _ => rtP_none, fun h => absurd (show (1 : Int) = 0 from h) (by decide)⟩

/-- What Apply leaves. -/
def LaidEnd (E : List Ed) (w' : World) (e : Ending) : Prop := (∃ i er : Int, er ≠ 0 ∧ e = .returned (.tuple #[zeroGr, .slice none 0 0, .int .i64 i, .int .i64 er])) ∨ ∃ (N' : List Nd) (E' : List Ed) (na : Option Addr) (nl nc : Nat) (ea : Option Addr) (el ec : Nat) (nx : Int) (ma : Option Addr) (ml mc : Nat), e = .returned (.tuple #[.agg #[.slice na nl nc, .slice ea el ec, .int .i64 nx], .slice ma ml mc, .int .i64 0, .int .i64 0]) ∧ GrOk w' N' E' na nl ea el ∧ gE N' E' nx = 0 ∧ ∀ x ∈ E, ∃ y ∈ E', y.frm = x.frm ∧ y.dst = x.dst ∧ y.typ = x.typ

theorem apply_edge {w : World} {N : List Nd} {E : List Ed} {na : Option Addr} {nl : Nat} {ea : Option Addr} {el : Nat} (hG : GrOk w N E na nl ea el) {nx : Int} (hg : gE N E nx = 0) (nc ec : Nat) {B : Nat} (hB : B ≤ w.heap.size) (hT : Tabs B w) (f t : Int) (hf : -9223372036854775808 ≤ f) (ht : -9223372036854775808 ≤ t) (ob : Nat)
    (ho : w.heap[ob]? = some (.cells #[.int .i64 2, .int .i64 0, .int .i64 f, .int .i64 t, .string ⟨#[75]⟩, .int .i64 0, .int .i64 0, .string ⟨#[]⟩, .slice none 0 0, .slice none 0 0, .slice none 0 0] 68 (0, 0))) :
    Calls Tryz.prog 24 #[.agg #[.slice na nl nc, .slice ea el ec, .int .i64 nx], .slice (some ⟨ob, 0, none⟩) 1 1] w fun e w' => LaidEnd E w' e ∧ Below w.heap.size w w' := by
  obtain ⟨XN, XE, hN, hE, hRt⟩ := gr_right hG hg
  have hR := hRt []
  have hnl : nl ≤ 1000 := by
    obtain ⟨N2, h1, h2⟩ := hN
    have e1 : XN.length ≤ 40 := hR.n40
    rw [h1.1, h2.1]
    omega
  have hel : el ≤ 1000 := by
    obtain ⟨N2, h1, h2⟩ := hE
    have e1 : XE.length ≤ 60 := hR.e60
    rw [h1.1, h2.1]
    omega
  have hS1 : stepS ⟨XN, XE, nx, []⟩ (opED f t) = ⟨XN, XE ++ [⟨nx, meantI [] f, meantI [] t, ⟨#[75]⟩, []⟩], nx + 1, [nx]⟩ := by
    unfold stepS
    rw [if_neg (show ¬ (opED f t).o.k = 1 from (by decide : ¬ (2 : Int) = 1)), if_pos (show (opED f t).o.k = 2 from rfl)]
    rfl
  have hE1 : stepE ⟨XN, XE, nx, []⟩ (opED f t) = addEE ⟨XN, XE, nx, []⟩ ((opED f t).at []) 0 := by
    unfold stepE
    rw [if_neg (show ¬ (opED f t).o.k = 1 from (by decide : ¬ (2 : Int) = 1)), if_pos (show (opED f t).o.k = 2 from rfl)]
    rfl
  refine (apply_of XN XE nx na nl nc ea el ec [opE f t] (some ⟨ob, 0, none⟩) 1 1 (fun _ => stepE ⟨XN, XE, nx, []⟩ (opED f t)) (fun i => if i = 0 then ⟨XN, XE, nx, []⟩ else stepS ⟨XN, XE, nx, []⟩ (opED f t)) w (fun W k => ?_) hN hE hnl hel hR.nok hR.eok (opE_at ho) (by omega) (by simp) (fun i => ?_) (fun i o hoo hj O b W hW hO kW => ?_)).mono ?_
  · have := check_ok hG nc ec nx W k
    rw [hg] at this
    exact this
  · show (if i = 0 then (⟨XN, XE, nx, []⟩ : WS) else stepS ⟨XN, XE, nx, []⟩ (opED f t)).made.length ≤ _
    split
    · exact Nat.zero_le _
    · rw [hS1]
      show 1 ≤ _
      decide
  · match i, hoo, hW with
    | 0, hoo, hW =>
      simp at hoo
      subst hoo
      have hW' : WorkIn O W b ⟨XN, XE, nx, []⟩ := by simpa using hW
      have := do_of 2 72 (.inr (.inl ⟨rfl, rfl⟩)) O b ⟨XN, XE, nx, []⟩ (stepS ⟨XN, XE, nx, []⟩ (opED f t)) 0 f t ⟨#[75]⟩ 0 0 ⟨#[]⟩ none 0 0 none 0 0 none 0 0 (stepE ⟨XN, XE, nx, []⟩ (opED f t)) W hW' (by show 0 ≤ 1000; omega) (by omega) hf ht (fun V kV => by
        have q := addEdge_any O b ⟨XN, XE, nx, []⟩ ((opED f t).at []) [] [] 0 w.heap.size V (hW'.below kV) (Nat.le_trans kW.size kV.size) hO (by show 0 ≤ 1000; omega) (by have := hR.pos; show 0 ≤ nx; have h3 : 0 < nx := this; omega) (by have := hR.n40; show XN.length ≤ 60; have h3 : XN.length ≤ 40 := this; omega) hR.nri (by show (⟨#[75]⟩ : ByteArray).size ≤ _; decide)
          (fun U kU => by have := props_E U none 0; rw [show prsE [] = 0 by simp [prsE, prE]] at this; exact this)
          (fun _ => ⟨⟨Nat.zero_le _, fun p hp => by cases hp⟩, fun U kU => ⟨rfl, rfl, rfl, rfl, by show (⟨#[75]⟩ : ByteArray).size ≤ _; decide, props_none _ _, Pair2.nil⟩⟩)
        rw [hS1, hE1]
        exact q)
      exact this
    | i + 1, hoo, hW => simp at hoo
  · rintro e w' ⟨hA, k⟩
    refine ⟨?_, k⟩
    rcases hA with ⟨i, hi, _, h0, he⟩ | ⟨h0, na', nc', ea', ec', ma, mc, he, _, hN', _, hE', _⟩
    · exact .inl ⟨_, _, h0, he⟩
    · have hz : stepE ⟨XN, XE, nx, []⟩ (opED f t) = 0 := h0 0 (by omega)
      have hr := step_right _ _ hR (opE_right f t) hz
      rw [if_neg (by omega)] at he hN' hE'
      obtain ⟨N', E', g1, g2⟩ := gr_back B (Nat.le_trans hB k.size) (hT.below (k.mono hB)) hr hN' hE'
      refine .inr ⟨N', E', na', _, nc', ea', _, ec', _, ma, _, mc, he, g1, g2, fun x hx => ?_⟩
      obtain ⟨i, hi⟩ := List.getElem?_of_mem hx
      obtain ⟨E2, a1, p1⟩ := hE
      obtain ⟨E3, a2, p2⟩ := hE'
      have il := (List.getElem?_eq_some_iff.1 hi).1
      have l1 : E.length = E2.length := hG.2.1.1.symm.trans a1.1
      obtain ⟨y2, hy2⟩ : ∃ y, E2[i]? = some y := ⟨_, List.getElem?_eq_getElem (by omega)⟩
      obtain ⟨X, hX, q2⟩ := p1.left hy2
      have hX' : (stepS ⟨XN, XE, nx, []⟩ (opED f t)).E[i]? = some X := by
        rw [hS1]
        show (XE ++ [_])[i]? = some X
        rw [List.getElem?_append_left (by exact (List.getElem?_eq_some_iff.1 hX).1)]
        exact hX
      obtain ⟨y3, hy3, q3⟩ := p2.right hX'
      have l2 : E'.length = E3.length := g1.2.1.1.symm.trans a2.1
      obtain ⟨y, hy⟩ : ∃ y, E'[i]? = some y := ⟨_, List.getElem?_eq_getElem (by have := (List.getElem?_eq_some_iff.1 hy3).1; omega)⟩
      obtain ⟨s1, s2, s3⟩ := edges_same hG.2.1 a1 i x y2 hi hy2
      obtain ⟨t1, t2, t3⟩ := edges_same a2 g1.2.1 i y3 y hy3 hy
      refine ⟨y, List.mem_of_getElem? hy, ?_, ?_, ?_⟩
      · rw [t1, q3.2.1, ← q2.2.1, s1]
      · rw [t2, q3.2.2.1, ← q2.2.2.1, s2]
      · rw [t3, q3.2.2.2.1, ← q2.2.2.2.1, s3]

set_option linter.unusedSimpArgs false

set_option maxHeartbeats 4000000 in
set_option maxRecDepth 100000 in
theorem closes1_any (q : Ed) (id : Int) (xb : Nat) (b : Bool) (hb : b = (q.id == id)) (w : World) (hx : w.cell? ⟨xb, 0, none⟩ = some (.int .i64 id)) (hl : xb < w.heap.size) :
    Calls Tryz.prog 23 #[.agg #[.int .i64 q.id, .int .i64 q.frm, .int .i64 q.dst, .string q.typ, .slice q.pa q.pl q.pc], .pointer (some ⟨xb, 0, none⟩)] w fun e w' => e = .returned (.bool b) ∧ Below w.heap.size w w' := by
  have HB : Hid (Below w.heap.size w (w.alloc (.cells #[.int .i64 q.id, .int .i64 q.frm, .int .i64 q.dst, .string q.typ, .slice q.pa q.pl q.pc] 47))) := (Below.refl _ _).alloc (Nat.le_refl _) _
  have hb' : (q.id == id) = b := hb.symm
  clear hb
  go_enter Tryz.func23, Tryz.ntmps23
  go_wp2_with fail
  go_ret
  exact ⟨by first | rfl | simp [hb'], HB.out⟩

set_option maxHeartbeats 4000000 in
set_option maxRecDepth 100000 in
theorem edgeIdx_any (E : List Ed) (a : Option Addr) (l c : Nat) (k : Nat) (x : Ed) (xb : Nat) (w : World) (hE : EdgesAt w E a l) (hx : E[k]? = some x) (hu : ∀ i y, i < k → E[i]? = some y → y.id ≠ x.id) (hb : w.heap[xb]? = some (.cells #[.int .i64 x.id] 3 (0, 0))) (hel : l ≤ 1000) :
    Calls Tryz.prog 22 #[.slice a l c, .func (.func 23) #[] #[.pointer (some ⟨xb, 0, none⟩)]] w fun e w' => e = .returned (.int .i64 k) ∧ Below w.heap.size w w' := by
  obtain ⟨hl, hmx, hat⟩ := hE
  have hkl : k < l := by rw [hl]; exact (List.getElem?_eq_some_iff.1 hx).1
  have HL := toHid hl
  have HAT := toHid hat
  have HX := toHid hx
  have HU := toHid hu
  have HONE : Hid (∀ W (q : Ed) (b : Bool), Below w.heap.size w W → b = (q.id == x.id) → Calls Tryz.prog 23 #[.agg #[.int .i64 q.id, .int .i64 q.frm, .int .i64 q.dst, .string q.typ, .slice q.pa q.pl q.pc], .pointer (some ⟨xb, 0, none⟩)] W fun e w' => e = .returned (.bool b) ∧ Below W.heap.size W w') := fun W q b kW hq => closes1_any q x.id xb b hq W (cell_of ((kW.block _ (blk_lt hb)).trans hb) 0) (Nat.lt_of_lt_of_le (blk_lt hb) kW.size)
  clear hl hat hx hu hb
  go_enter Tryz.func22, Tryz.ntmps22
  go_wp2_with fail
  go_loopg [8] l (fun g s8 wr => ∃ i : Nat, i ≤ k ∧ l - i ≤ g ∧ s8 = .int .i64 i ∧ Below w.heap.size w wr)
  case atStart => exact ⟨0, Nat.zero_le _, by omega, rfl, Below.refl _ _⟩
  case round =>
    obtain ⟨i, hi, hg, rfl, hbw⟩ := hrel
    obtain ⟨b, off, ha, hb, hc⟩ := HAT.out (by omega)
    subst ha
    obtain ⟨q, hq, _⟩ := drop_get (L := E) (i := i) (by have := HL.out; omega)
    obtain ⟨_, c0, c1, c2, c3, c4⟩ := hc i q hq
    have qq : ∀ o, wr.cell? ⟨b, o, none⟩ = w.cell? ⟨b, o, none⟩ := fun o => hbw.cell (p := ⟨b, o, none⟩) hb
    have d0 := (qq _).trans c0
    have d1 := (qq _).trans c1
    have d2 := (qq _).trans c2
    have d3 := (qq _).trans c3
    have d4 := (qq _).trans c4
    have HQ := toHid hq
    have HBW := toHid hbw
    clear hc hq c0 c1 c2 c3 c4 qq hbw
    have hil : (i : Int) < l := by omega
    by_cases hik : i = k
    · have hb1 : true = (q.id == x.id) := by
        have e := HQ.out
        rw [hik, HX.out] at e
        injection e with e
        rw [e]
        simp
      have HC := toHid (HONE.out wr q true HBW.out hb1)
      have HIK := toHid hik
      clear hik hb1
      go_wp2_with fail
      refine HC.out.mono ?_
      rintro e w1 ⟨rfl, k1⟩
      have HB1 := toHid (HBW.out.trans (k1.mono HBW.out.size))
      clear k1 d0 d1 d2 d3 d4
      go_wp2_with fail
      go_ret
      have e := HIK.out
      subst e
      exact ⟨rfl, HB1.out⟩
    · have hb1 : false = (q.id == x.id) := by
        have e := HU.out i q (by omega) HQ.out
        simp [e]
      have HC := toHid (HONE.out wr q false HBW.out hb1)
      clear hb1
      go_wp2_with fail
      refine HC.out.mono ?_
      rintro e w1 ⟨rfl, k1⟩
      have HB1 := toHid (HBW.out.trans (k1.mono HBW.out.size))
      clear k1 d0 d1 d2 d3 d4
      go_wp2_with fail
      go_roundg (l - (i + 1))
      case measure => omega
      case rel => exact ⟨i + 1, by omega, Nat.le_refl _, by go_num, HB1.out⟩

set_option linter.unusedSimpArgs false

/-- Each edge that is told is from where the walk began, or from where one that was told ahead leads; and leads to where none did. -/
inductive Led (E : List Ed) (i : Int) : List Ed → Prop
  | nil : Led E i []
  | snoc (l : List Ed) (x : Ed) : Led E i l → (x.frm = i ∨ x.frm ∈ l.map (·.dst)) → x.dst ∉ l.map (·.dst) → x ∈ E → Led E i (l ++ [x])

structure LedS (E : List Ed) (i : Int) (s : WkSt) : Prop where
  led : Led E i s.out
  told : ∀ d, 0 < s.seen d ↔ d ∈ s.out.map (·.dst)
  opn : ∀ j ∈ s.op, j = i ∨ j ∈ s.out.map (·.dst)

theorem vis_grows (s : WkSt) (x : Ed) (d : Int) (h : d ∈ s.out.map (·.dst)) : d ∈ (visF s x).out.map (·.dst) := by
  show d ∈ (if s.seen x.dst = 0 then s.out ++ [x] else s.out).map (·.dst)
  split
  · rw [List.map_append]
    exact List.mem_append_left _ h
  · exact h

theorem LedS.vis {E : List Ed} {i : Int} {s : WkSt} (h : LedS E i s) {x : Ed} (hx : x.frm = i ∨ x.frm ∈ s.out.map (·.dst)) (he : x ∈ E) : LedS E i (visF s x) := by
  by_cases h0 : s.seen x.dst = 0
  · have e1 : (visF s x).out = s.out ++ [x] := by simp [visF, h0]
    have e2 : (visF s x).op = s.op ++ [x.dst] := by simp [visF, h0]
    refine ⟨?_, fun d => ?_, fun j hj => ?_⟩
    · rw [e1]
      refine .snoc _ _ h.led hx (fun hm => ?_) he
      have := (h.told x.dst).2 hm
      omega
    · rw [vis_pos, e1, List.map_append, List.mem_append, h.told d]
      simp
    · rw [e2] at hj
      rcases List.mem_append.1 hj with hj | hj
      · rcases h.opn j hj with h1 | h1
        · exact .inl h1
        · exact .inr (vis_grows s x j h1)
      · rw [List.mem_singleton] at hj
        refine .inr ?_
        rw [e1, hj]
        simp
  · have e1 : (visF s x).out = s.out := by simp [visF, h0]
    have e2 : (visF s x).op = s.op := by simp [visF, h0]
    refine ⟨by rw [e1]; exact h.led, fun d => ?_, fun j hj => ?_⟩
    · rw [vis_pos, e1, ← h.told d]
      constructor
      · rintro (h1 | rfl)
        · exact h1
        · omega
      · exact .inl
    · rw [e2] at hj
      rw [e1]
      exact h.opn j hj

theorem LedS.fold {E : List Ed} {i j : Int} : ∀ (l : List Ed) {s : WkSt}, LedS E i s → (j = i ∨ j ∈ s.out.map (·.dst)) → (∀ x ∈ l, x.frm = j ∧ x ∈ E) → LedS E i (l.foldl visF s)
  | [], s, h, _, _ => h
  | x :: l, s, h, hj, hl => by
    rw [List.foldl_cons]
    obtain ⟨h1, h2⟩ := hl x (List.mem_cons_self ..)
    refine LedS.fold l (h.vis (by rw [h1]; exact hj) h2) ?_ fun y hy => hl y (List.mem_cons_of_mem _ hy)
    rcases hj with h3 | h3
    · exact .inl h3
    · exact .inr (vis_grows s x j h3)

theorem walk_led {E : List Ed} {W : Int → List Ed} (hW : ∀ j x, x ∈ W j → x.frm = j ∧ x ∈ E) (i : Int) : ∀ (f : Nat) (s : WkSt), LedS E i s → Led E i (walkF W f s)
  | 0, s, h => h.led
  | f + 1, s, h => by
    cases hop : s.op with
    | nil => rw [walk_nil hop]; exact h.led
    | cons j r =>
      rw [walk_cons hop]
      have hj := h.opn j (by rw [hop]; exact List.mem_cons_self ..)
      have base : LedS E i ⟨r, s.seen, s.out⟩ := ⟨h.led, h.told, fun q hq => h.opn q (by rw [hop]; exact List.mem_cons_of_mem _ hq)⟩
      exact walk_led hW i f _ (LedS.fold (W j) base hj (fun x hx => hW j x hx))

theorem led_st0 (E : List Ed) (i : Int) : LedS E i (st0 i) := ⟨.nil, fun d => by show 0 < 0 ↔ d ∈ ([] : List Ed).map (·.dst); simp, fun j hj => .inl (List.mem_singleton.1 hj)⟩

theorem walk_led0 (E : List Ed) (kind : ByteArray) (i : Int) : Led E i (walkF (wayF E kind) (E.length + 2) (st0 i)) := walk_led (fun j x hx => by
  obtain ⟨h1, h2, _⟩ := (mem_way E kind j x).1 hx
  exact ⟨h2, h1⟩) i _ _ (led_st0 E i)

theorem last_mem : ∀ (l : List Ed) (d : Int) (v : Value), lastF l d = some v → ∃ y ∈ l, v = edV y ∧ y.dst = d
  | [], d, v, h => by cases h
  | x :: l, d, v, h => by
    unfold lastF at h
    cases hl : lastF l d with
    | some u =>
      rw [hl] at h
      obtain ⟨y, hy, e1, e2⟩ := last_mem l d u hl
      injection h with h
      exact ⟨y, List.mem_cons_of_mem _ hy, by rw [← h]; exact e1, e2⟩
    | none =>
      rw [hl] at h
      by_cases hd : d = x.dst
      · simp [hd] at h
        exact ⟨x, List.mem_cons_self .., h.symm, hd.symm⟩
      · simp [hd] at h

theorem last_none : ∀ (l : List Ed) (d : Int), lastF l d = none ↔ d ∉ l.map (·.dst)
  | [], d => by simp [lastF]
  | x :: l, d => by
    unfold lastF
    have ih := last_none l d
    cases hl : lastF l d with
    | some u =>
      obtain ⟨y, hy, _, e2⟩ := last_mem l d u hl
      simp only [List.map_cons, List.mem_cons]
      constructor
      · intro h; cases h
      · intro h
        exact absurd (.inr (List.mem_map.2 ⟨y, hy, e2⟩)) h
    | none =>
      have h1 := ih.1 hl
      simp only [List.map_cons, List.mem_cons]
      by_cases hd : d = x.dst
      · simp [hd]
      · simp only [hd, if_false, false_or, true_iff]
        exact h1

theorem Chain.mono {f f' : Int → Option Value} {i : Int} (hf : ∀ d v, f d = some v → f' d = some v) : ∀ L : List Ed, Chain f i L → Chain f' i L
  | [], h => h
  | [c], h => h
  | c :: d :: l, h => ⟨h.1, hf _ _ h.2.1, Chain.mono hf (d :: l) h.2.2⟩

/-- A way of edges. -/
def WayL (at' : Int) : List Ed → Int → Prop
  | [], t => at' = t
  | x :: l, t => x.frm = at' ∧ WayL x.dst l t

theorem way_snoc : ∀ (l : List Ed) (a b : Int) (x : Ed), WayL a l b → x.frm = b → WayL a (l ++ [x]) x.dst
  | [], a, b, x, h, hx => ⟨hx.trans h.symm, rfl⟩
  | y :: l, a, b, x, h, hx => ⟨h.1, way_snoc l y.dst b x h.2 hx⟩

theorem led_chain {E : List Ed} {i : Int} {l : List Ed} (h : Led E i l) : ∀ d ∈ l.map (·.dst), ∃ c C, lastF l d = some (edV c) ∧ c.dst = d ∧ Chain (lastF l) i (c :: C) ∧ (c :: C).length ≤ l.length ∧ (∀ y ∈ c :: C, y ∈ E) ∧ WayL i (c :: C).reverse d := by
  induction h with
  | nil => intro d hd; cases hd
  | snoc l x hl hx hn he ih =>
    have mono : ∀ d v, lastF l d = some v → lastF (l ++ [x]) d = some v := fun d v hv => by
      obtain ⟨y, hy, _, e2⟩ := last_mem l d v hv
      rw [last_snoc]
      have : ¬ d = x.dst := fun e => hn (List.mem_map.2 ⟨y, hy, e2.trans e⟩)
      simp only [this, if_false]
      exact hv
    intro d hd
    by_cases hdx : d = x.dst
    · subst hdx
      have h0 : lastF (l ++ [x]) x.dst = some (edV x) := by rw [last_snoc]; simp
      by_cases hi : x.frm = i
      · exact ⟨x, [], h0, rfl, hi, by simp, fun y hy => by rw [List.mem_singleton] at hy; rw [hy]; exact he, ⟨hi, rfl⟩⟩
      · obtain ⟨c, C, h1, h2, h3, h4, h5, h6⟩ := ih x.frm (hx.resolve_left hi)
        refine ⟨x, c :: C, h0, rfl, ⟨hi, mono _ _ h1, Chain.mono mono _ h3⟩, by simp at h4 ⊢; omega, fun y hy => ?_, ?_⟩
        · rcases List.mem_cons.1 hy with rfl | hy
          · exact he
          · exact h5 y hy
        · rw [List.reverse_cons]
          exact way_snoc _ _ _ _ h6 rfl
    · rw [List.map_append, List.mem_append] at hd
      have hd' : d ∈ l.map (·.dst) := hd.resolve_right (by simp [hdx])
      obtain ⟨c, C, h1, h2, h3, h4, h5, h6⟩ := ih d hd'
      exact ⟨c, C, mono _ _ h1, h2, Chain.mono mono _ h3, by simp at h4 ⊢; omega, h5, h6⟩

set_option linter.unusedSimpArgs false

theorem told_iff (E : List Ed) (kind : ByteArray) (i d : Int) : d ∈ (walkF (wayF E kind) (E.length + 2) (st0 i)).map (·.dst) ↔ Rch (wayF E kind) i d := walk_told (fun j x hx => ((mem_way E kind j x).1 hx).1) i d

theorem path_yes {w : World} {N : List Nd} {E : List Ed} {na : Option Addr} {nl : Nat} {ea : Option Addr} {el : Nat} (h : GrOk w N E na nl ea el) {next : Int} (hg : gE N E next = 0) (nc ec : Nat) (kind : ByteArray) (i tgt : Int) (hr : Rch (wayF E kind) i tgt) :
    ∃ L : List Ed, L ≠ [] ∧ WayL i L tgt ∧ (∀ y ∈ L, y ∈ E) ∧ L.length ≤ 1000 ∧ ∀ W, Below w.heap.size w W → Calls Tryz.prog 13 #[.agg #[.slice na nl nc, .slice ea el ec, .int .i64 next], .string kind, .int .i64 i, .int .i64 tgt] W fun e w' => ∃ v, e = .returned (.tuple #[v, .int .i64 0]) ∧ w'.ownsRow W.heap.size 3 1 v L.length (intsV (L.map (·.id))) ∧ Below W.heap.size W w' := by
  obtain ⟨c, C, h1, h2, h3, h4, h5, h6⟩ := led_chain (walk_led0 E kind i) tgt ((told_iff E kind i tgt).2 hr)
  have hl : (walkF (wayF E kind) (E.length + 2) (st0 i)).length ≤ E.length := by
    have := raw_len E kind i
    unfold rawF at this
    rw [List.length_map] at this
    exact this
  have he := (few_of h hg).2
  have he2 : el = E.length := h.2.1.1
  rw [List.length_cons] at h4
  refine ⟨(c :: C).reverse, by simp, h6, fun y hy => h5 y (List.mem_reverse.1 hy), by rw [List.length_reverse, List.length_cons]; omega, fun W k => ?_⟩
  have := path_good h hg nc ec kind i tgt c C h1 h3 (by omega) W k
  rw [List.length_reverse, List.map_reverse]
  exact this

theorem path_no {w : World} {N : List Nd} {E : List Ed} {na : Option Addr} {nl : Nat} {ea : Option Addr} {el : Nat} (h : GrOk w N E na nl ea el) {next : Int} (hg : gE N E next = 0) (nc ec : Nat) (kind : ByteArray) (i tgt : Int) (hr : ¬ Rch (wayF E kind) i tgt) (W : World) (k : Below w.heap.size w W) :
    Calls Tryz.prog 13 #[.agg #[.slice na nl nc, .slice ea el ec, .int .i64 next], .string kind, .int .i64 i, .int .i64 tgt] W fun e w' => e = .returned (.tuple #[.slice none 0 0, .int .i64 5]) ∧ Below W.heap.size W w' :=
  path_none h hg nc ec kind i tgt ((last_none _ _).2 fun hm => hr ((told_iff E kind i tgt).1 hm)) W k

open Go.RowKit Go.Lib
set_option linter.unusedVariables false

theorem accept_eq : (Rows.laid_unicode_utf8_acceptRanges : DataW Unit) = acceptData := by kernel_rfl
theorem first_eq : (Rows.laid_unicode_utf8_first : DataW Unit) = firstData := Pinned.utf8First_eq

theorem u8extra : U8Extra Tryz.prog Tryz.lays196_ren := ⟨by kernel_rfl, by kernel_rfl, by kernel_rfl, by kernel_rfl, by kernel_rfl, by kernel_rfl, by kernel_rfl⟩

theorem tabs_of {l : List (String × DataW Unit)} (hf : ("unicode/utf8.first", Rows.laid_unicode_utf8_first) ∈ l) (ha : ("unicode/utf8.acceptRanges", Rows.laid_unicode_utf8_acceptRanges) ∈ l) {W : World} (h : laidMet Tryz.prog l W) : Tabs W.heap.size W := by
  have h0 : Lib.Utf8Tabs 0 1 W := utf8Tabs_of_readsT (U8Types.of196 Tryz.lays196) u8extra
    (first_eq ▸ Lib.laidMet.reads h hf)
    (accept_eq ▸ Lib.laidMet.reads h ha)
  have b0 : 0 < W.heap.size := World.block_lt_of_cell? W _ (h0.1 0 (by decide))
  have b1 : 1 < W.heap.size := World.block_lt_of_cell? W _ (h0.2 0 (by decide)).1
  intro w' hb
  refine ⟨fun c hc => ?_, fun i hi => ⟨?_, ?_⟩⟩
  · rw [hb.cell (p := ⟨0, c, none⟩) b0]; exact h0.1 c hc
  · rw [hb.cell (p := ⟨1, 2 * i, none⟩) b1]; exact (h0.2 i hi).1
  · rw [hb.cell (p := ⟨1, 2 * i + 1, none⟩) b1]; exact (h0.2 i hi).2
end Go.Proofs.YtebbjmjgojekdaaGreatDoor
