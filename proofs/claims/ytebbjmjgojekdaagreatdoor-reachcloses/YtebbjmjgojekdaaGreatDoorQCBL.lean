/-
  What is proved here: what the texts HOpen3, KTake, HApply prove, in one text.
-/
import Derived.Test.YtebbjmjgojekdaaGreatDoorQCAU
import Derived.Test.YtebbjmjgojekdaaGreatDoorQCBI
import Derived.Test.YtebbjmjgojekdaaGreatDoorQCBK
import Derived.Test.YtebbjmjgojekdaaGreatDoorQCBC
import Derived.Test.YtebbjmjgojekdaaGreatDoorQCBD
namespace Go.Proofs.YtebbjmjgojekdaaGreatDoor
open Go.RowKit
set_option linter.unusedVariables false

theorem prsE_len {P : List Pr} (h : prsE P = 0) : P.length ≤ 6 := by
  unfold prsE at h
  split at h
  · exact absurd h (by decide)
  · omega

theorem prE_zero : ∀ (P : List Pr) (ah : ByteArray), prE ah P = 0 → ∀ p ∈ P, p.e = 0
  | [], _, _ => fun p hp => by cases hp
  | q :: P, ah, h => by
    unfold prE at h
    split at h
    · split at h
      · rename_i h1 h2
        intro p hp
        rcases List.mem_cons.1 hp with rfl | hp
        · exact h2
        · exact prE_zero P _ h p hp
      · rename_i h1 h2
        exact absurd h h2
    · exact absurd h (by decide)

theorem prsE_zero {P : List Pr} (h : prsE P = 0) : ∀ p ∈ P, p.e = 0 := by
  unfold prsE at h
  split at h
  · exact absurd h (by decide)
  · exact prE_zero P _ h

theorem labsE_len {L : List ByteArray} (h : labsE L = 0) : L.length ≤ 4 := by
  unfold labsE at h
  split at h
  · exact absurd h (by decide)
  · omega

theorem props_abs {w : World} {P : List Pr} {pa : Option Addr} {pl : Nat} (hP : PropsAt w P pa pl) (hO : ∀ p ∈ P, PrOk w p) (h0 : prsE P = 0) : ∃ X : List AP, Pair2 (PrIn AnyB w) P X ∧ ∀ x ∈ X, x.ok := by
  obtain ⟨X, hX⟩ := pair_choose (R := fun p x => PrIn AnyB w p x ∧ x.ok) P (fun p hp => by
    obtain ⟨⟨h1, h2⟩, L, _, h3, _, h4⟩ := hO p hp
    have hck := h4 (prsE_zero h0 p hp)
    have hwt := ck_wt 6 _ hck
    have e : 2 * 32 ^ 6 = 2147483648 := by decide
    obtain ⟨i, hi⟩ := List.getElem?_of_mem hp
    have hil := (List.getElem?_eq_some_iff.1 hi).1
    obtain ⟨b, off, _, _, hc⟩ := hP.2.2 (by rw [hP.1]; omega)
    exact ⟨⟨p.name, .node p.k p.n p.s L⟩, ⟨rfl, (hc i p hi).1, h1, h2, L, rfl, LiesS.lie _ _ _ h3⟩, by show wtT (.node p.k p.n p.s L) ≤ _; omega⟩)
  refine ⟨X, hX.mono fun _ _ _ _ h => h.1, fun x hx => ?_⟩
  obtain ⟨i, hi⟩ := List.getElem?_of_mem hx
  obtain ⟨p, _, h⟩ := hX.right hi
  exact h.2

theorem nodes_abs {w : World} {N : List Nd} (hO : ∀ x ∈ N, NdOk w x) (h0 : ∀ x ∈ N, labsE x.labs = 0 ∧ prsE x.props = 0) : ∃ X : List AN, Pair2 (NdIn w) N X ∧ ∀ x ∈ X, x.ok := by
  obtain ⟨X, hX⟩ := pair_choose (R := fun p x => NdIn w p x ∧ AN.ok x) N (fun p hp => by
    obtain ⟨h1, h2, h3⟩ := hO p hp
    obtain ⟨Y, hY, hok⟩ := props_abs h2 h3 (h0 p hp).2
    refine ⟨⟨p.id, p.labs, Y⟩, ⟨rfl, rfl, h1, h2, hY⟩, ?_, ?_, hok⟩
    · have := labsE_len (h0 p hp).1
      show p.labs.length ≤ 1000
      omega
    · have := prsE_len (h0 p hp).2
      have := hY.1
      show Y.length ≤ 1000
      omega)
  refine ⟨X, hX.mono fun _ _ _ _ h => h.1, fun x hx => ?_⟩
  obtain ⟨i, hi⟩ := List.getElem?_of_mem hx
  obtain ⟨p, _, h⟩ := hX.right hi
  exact h.2

theorem edges_abs {w : World} {E : List Ed} {ea : Option Addr} {el : Nat} (hA : EdgesAt w E ea el) (hO : ∀ x ∈ E, EdOk w x) (h0 : ∀ x ∈ E, prsE x.props = 0) : ∃ X : List AE, Pair2 (EdIn w) E X ∧ ∀ x ∈ X, x.ok := by
  obtain ⟨X, hX⟩ := pair_choose (R := fun p x => EdIn w p x ∧ AE.ok x) E (fun p hp => by
    obtain ⟨h2, h3⟩ := hO p hp
    obtain ⟨Y, hY, hok⟩ := props_abs h2 h3 (h0 p hp)
    obtain ⟨i, hi⟩ := List.getElem?_of_mem hp
    have hil := (List.getElem?_eq_some_iff.1 hi).1
    obtain ⟨b, off, _, _, hc⟩ := hA.2.2 (by rw [hA.1]; omega)
    refine ⟨⟨p.id, p.frm, p.dst, p.typ, Y⟩, ⟨rfl, rfl, rfl, rfl, (hc i p hi).1, h2, hY⟩, ?_, hok⟩
    have := prsE_len (h0 p hp)
    have := hY.1
    show Y.length ≤ 1000
    omega)
  refine ⟨X, hX.mono fun _ _ _ _ h => h.1, fun x hx => ?_⟩
  obtain ⟨i, hi⟩ := List.getElem?_of_mem hx
  obtain ⟨p, _, h⟩ := hX.right hi
  exact h.2

/-- A graph that its check takes, by what it holds. -/
theorem gr_abs {w : World} {N : List Nd} {E : List Ed} {na : Option Addr} {nl : Nat} {ea : Option Addr} {el : Nat} {next : Int} (h : GrOk w N E na nl ea el) (h0 : gE N E next = 0) :
    ∃ XN XE, NsAt w XN na nl ∧ EsAt w XE ea el ∧ (∀ x ∈ XN, x.ok) ∧ (∀ x ∈ XE, x.ok) ∧ nl ≤ 40 ∧ el ≤ 60 ∧ Pair2 (NdIn w) N XN ∧ Pair2 (EdIn w) E XE := by
  obtain ⟨h1, h2, h3, h4⟩ := h
  have r := gE_ok h0
  obtain ⟨XN, p1, o1⟩ := nodes_abs h3 (fun x hx => r.nodes x hx)
  obtain ⟨XE, p2, o2⟩ := edges_abs h2 h4 (fun x hx => (r.edges x hx).2.2.2)
  have f1 := r.fewN
  have f2 := r.fewE
  exact ⟨XN, XE, ⟨N, h1, p1⟩, ⟨E, h2, p2⟩, o1, o2, by rw [h1.1]; exact f1, by rw [h2.1]; exact f2, p1, p2⟩

theorem pair_map {α β γ : Type} {R : α → β → Prop} {f : α → γ} {g : β → γ} {P : List α} {L : List β} (h : Pair2 R P L) (hR : ∀ p x, R p x → f p = g x) : P.map f = L.map g := by
  apply List.ext_getElem?
  intro i
  rw [List.getElem?_map, List.getElem?_map]
  cases hx : P[i]? with
  | none =>
    have : L[i]? = none := by
      rw [List.getElem?_eq_none_iff] at hx ⊢
      rw [← h.1]
      exact hx
    rw [this]
    rfl
  | some x =>
    obtain ⟨y, hy, hxy⟩ := h.left hx
    rw [hy]
    show some (f x) = some (g y)
    rw [hR x y hxy]

theorem pair_mem {α β : Type} {R : α → β → Prop} {P : List α} {L : List β} (h : Pair2 R P L) {x : β} (hx : x ∈ L) : ∃ p ∈ P, R p x := by
  obtain ⟨i, hi⟩ := List.getElem?_of_mem hx
  obtain ⟨p, hp, hR⟩ := h.right hi
  exact ⟨p, List.mem_of_getElem? hp, hR⟩

theorem pair_mem' {α β : Type} {R : α → β → Prop} {P : List α} {L : List β} (h : Pair2 R P L) {p : α} (hp : p ∈ P) : ∃ x ∈ L, R p x := by
  obtain ⟨i, hi⟩ := List.getElem?_of_mem hp
  obtain ⟨x, hx, hR⟩ := h.left hi
  exact ⟨x, List.mem_of_getElem? hx, hR⟩

theorem props_right {w : World} {P : List Pr} {pa : Option Addr} {pl : Nat} (hP : PropsAt w P pa pl) (hO : ∀ p ∈ P, PrOk w p) (h0 : prsE P = 0) : ∃ X : List AP, Pair2 (PrIn AnyB w) P X ∧ RtP X := by
  obtain ⟨g1, g2, g3⟩ := (prsE_iff P).1 h0
  obtain ⟨X, hX⟩ := pair_choose (R := fun p x => PrIn AnyB w p x ∧ nm x.name = true ∧ kT x.t ≠ 0 ∧ Ck 6 x.t) P (fun p hp => by
    obtain ⟨⟨h1, h2⟩, L, _, h3, _, h4⟩ := hO p hp
    have hck := h4 (g3 p hp).2.2
    obtain ⟨i, hi⟩ := List.getElem?_of_mem hp
    have hil := (List.getElem?_eq_some_iff.1 hi).1
    obtain ⟨b, off, _, _, hc⟩ := hP.2.2 (by rw [hP.1]; omega)
    exact ⟨⟨p.name, .node p.k p.n p.s L⟩, ⟨rfl, (hc i p hi).1, h1, h2, L, rfl, LiesS.lie _ _ _ h3⟩, (g3 p hp).1, (g3 p hp).2.1, hck⟩)
  refine ⟨X, hX.mono fun _ _ _ _ h => h.1, ?_, by rw [← hX.1]; exact g2, fun x hx => ?_⟩
  · rw [← pair_map hX (f := Pr.name) fun p x h => h.1.1]
    exact g1
  · obtain ⟨p, _, h⟩ := pair_mem hX hx
    exact h.2

theorem nodes_right {w : World} {N : List Nd} (hO : ∀ x ∈ N, NdOk w x) (h0 : ∀ x ∈ N, labsE x.labs = 0 ∧ prsE x.props = 0) : ∃ X : List AN, Pair2 (NdIn w) N X ∧ ∀ x ∈ X, RtL x.labs ∧ RtP x.props := by
  obtain ⟨X, hX⟩ := pair_choose (R := fun p x => NdIn w p x ∧ RtL x.labs ∧ RtP x.props) N (fun p hp => by
    obtain ⟨h1, h2, h3⟩ := hO p hp
    obtain ⟨Y, hY, hok⟩ := props_right h2 h3 (h0 p hp).2
    exact ⟨⟨p.id, p.labs, Y⟩, ⟨rfl, rfl, h1, h2, hY⟩, (labsE_iff _).1 (h0 p hp).1, hok⟩)
  refine ⟨X, hX.mono fun _ _ _ _ h => h.1, fun x hx => ?_⟩
  obtain ⟨p, _, h⟩ := pair_mem hX hx
  exact h.2

theorem edges_right {w : World} {E : List Ed} {ea : Option Addr} {el : Nat} (hA : EdgesAt w E ea el) (hO : ∀ x ∈ E, EdOk w x) (h0 : ∀ x ∈ E, prsE x.props = 0) : ∃ X : List AE, Pair2 (EdIn w) E X ∧ ∀ x ∈ X, RtP x.props := by
  obtain ⟨X, hX⟩ := pair_choose (R := fun p x => EdIn w p x ∧ RtP x.props) E (fun p hp => by
    obtain ⟨h2, h3⟩ := hO p hp
    obtain ⟨Y, hY, hok⟩ := props_right h2 h3 (h0 p hp)
    obtain ⟨i, hi⟩ := List.getElem?_of_mem hp
    have hil := (List.getElem?_eq_some_iff.1 hi).1
    obtain ⟨b, off, _, _, hc⟩ := hA.2.2 (by rw [hA.1]; omega)
    exact ⟨⟨p.id, p.frm, p.dst, p.typ, Y⟩, ⟨rfl, rfl, rfl, rfl, (hc i p hi).1, h2, hY⟩, hok⟩)
  refine ⟨X, hX.mono fun _ _ _ _ h => h.1, fun x hx => ?_⟩
  obtain ⟨p, _, h⟩ := pair_mem hX hx
  exact h.2

/-- A graph that its check takes, by what it holds, is right. -/
theorem gr_right {w : World} {N : List Nd} {E : List Ed} {na : Option Addr} {nl : Nat} {ea : Option Addr} {el : Nat} {next : Int} (h : GrOk w N E na nl ea el) (h0 : gE N E next = 0) :
    ∃ XN XE, NsAt w XN na nl ∧ EsAt w XE ea el ∧ ∀ made, Rt ⟨XN, XE, next, made⟩ := by
  obtain ⟨h1, h2, h3, h4⟩ := h
  have r := (gE_iff N E next).1 h0
  obtain ⟨XN, p1, o1⟩ := nodes_right h3 r.nds
  obtain ⟨XE, p2, o2⟩ := edges_right h2 h4 (fun x hx => (r.eds x hx).2.2.2.2)
  have e1 : N.map Nd.id = XN.map AN.id := pair_map p1 fun p x h => h.1
  have e2 : E.map Ed.id = XE.map AE.id := pair_map p2 fun p x h => h.1
  refine ⟨XN, XE, ⟨N, h1, p1⟩, ⟨E, h2, p2⟩, fun made => ⟨by show XN.length ≤ 40; rw [← p1.1]; exact r.n40, by show XE.length ≤ 60; rw [← p2.1]; exact r.e60, by show Rise (XN.map AN.id); rw [← e1]; exact r.nri, by show Rise (XE.map AE.id); rw [← e2]; exact r.eri, r.pos, r.most, fun X hX => ?_, fun X hX => ?_, o1, fun X hX => ?_⟩⟩
  · obtain ⟨p, hp, h⟩ := pair_mem p1 hX
    rw [← h.1]
    exact r.nid p hp
  · obtain ⟨p, hp, h⟩ := pair_mem p2 hX
    have hno := (r.eds p hp).1
    unfold hasN at hno
    rw [e1] at hno
    rw [← h.1]
    exact ⟨(r.eid p hp).1, (r.eid p hp).2, by simpa using hno⟩
  · obtain ⟨p, hp, h⟩ := pair_mem p2 hX
    have hq := r.eds p hp
    unfold hasN at hq
    rw [e1] at hq
    rw [← h.2.1, ← h.2.2.1, ← h.2.2.2.1]
    exact ⟨hq.2.1, by simpa using hq.2.2.1, by simpa using hq.2.2.2.1, o2 X hX⟩

theorem inL_of : ∀ {L : List T}, (∀ t ∈ L, InT t) → InL L
  | [], _ => by unfold InL; trivial
  | t :: ts, h => by unfold InL; exact ⟨h t (List.mem_cons_self ..), inL_of fun u hu => h u (List.mem_cons_of_mem _ hu)⟩

theorem ck_in : ∀ {d : Nat} {t : T}, Ck d t → InT t := by
  intro d t h
  induction h with
  | null d => unfold InT InL; exact ⟨by omega, trivial⟩
  | bool d n h => unfold InT InL; exact ⟨by omega, trivial⟩
  | int d n h0 h1 => unfold InT InL; exact ⟨⟨h0, h1⟩, trivial⟩
  | text d s h0 h1 => unfold InT InL; exact ⟨by omega, trivial⟩
  | list d L h0 h1 ih => unfold InT; exact ⟨by omega, inL_of ih⟩

def Pr.fix (p : Pr) : Pr := ⟨p.name, p.k, p.n, p.s, p.a, p.l, p.c, 0⟩
def Nd.fix (x : Nd) : Nd := ⟨x.id, x.labs, x.la, x.ll, x.lc, x.props.map Pr.fix, x.pa, x.pl, x.pc⟩
def Ed.fix (x : Ed) : Ed := ⟨x.id, x.frm, x.dst, x.typ, x.props.map Pr.fix, x.pa, x.pl, x.pc⟩

theorem map_get {α β : Type} {f : α → β} {L : List α} {i : Nat} {y : β} (h : (L.map f)[i]? = some y) : ∃ x, L[i]? = some x ∧ f x = y := by
  rw [List.getElem?_map] at h
  cases hx : L[i]? with
  | none => rw [hx] at h; cases h
  | some x => rw [hx] at h; exact ⟨x, rfl, by injection h⟩

theorem PropsAt.fix {w : World} {P : List Pr} {a : Option Addr} {l : Nat} (h : PropsAt w P a l) : PropsAt w (P.map Pr.fix) a l := by
  obtain ⟨h1, h2, h3⟩ := h
  refine ⟨by rw [List.length_map]; exact h1, h2, fun h0 => ?_⟩
  obtain ⟨b, off, ha, hb, hc⟩ := h3 h0
  exact ⟨b, off, ha, hb, fun i p hp => by obtain ⟨q, hq, rfl⟩ := map_get hp; exact hc i q hq⟩

theorem NodesAt.fix {w : World} {P : List Nd} {a : Option Addr} {l : Nat} (h : NodesAt w P a l) : NodesAt w (P.map Nd.fix) a l := by
  obtain ⟨h1, h2, h3⟩ := h
  refine ⟨by rw [List.length_map]; exact h1, h2, fun h0 => ?_⟩
  obtain ⟨b, off, ha, hb, hc⟩ := h3 h0
  exact ⟨b, off, ha, hb, fun i p hp => by obtain ⟨q, hq, rfl⟩ := map_get hp; exact hc i q hq⟩

theorem EdgesAt.fix {w : World} {P : List Ed} {a : Option Addr} {l : Nat} (h : EdgesAt w P a l) : EdgesAt w (P.map Ed.fix) a l := by
  obtain ⟨h1, h2, h3⟩ := h
  refine ⟨by rw [List.length_map]; exact h1, h2, fun h0 => ?_⟩
  obtain ⟨b, off, ha, hb, hc⟩ := h3 h0
  exact ⟨b, off, ha, hb, fun i p hp => by obtain ⟨q, hq, rfl⟩ := map_get hp; exact hc i q hq⟩

theorem props_back (B : Nat) {w : World} (hB : B ≤ w.heap.size) (hT : Tabs B w) {P : List Pr} {X : List AP} (h : Pair2 (PrIn AnyB w) P X) (hX : RtP X) : (∀ p ∈ P.map Pr.fix, PrOk w p) ∧ prsE (P.map Pr.fix) = 0 := by
  have hx : ∀ p ∈ P, ∃ x ∈ X, PrIn AnyB w p x := fun p hp => pair_mem' h hp
  refine ⟨fun q hq => ?_, (prsE_iff _).2 ⟨?_, by rw [List.length_map, h.1]; exact hX.2.1, fun q hq => ?_⟩⟩
  · obtain ⟨p, hp, rfl⟩ := List.mem_map.1 hq
    obtain ⟨x, hxm, e1, e2, e3, e4, Lt, e5, e6⟩ := hx p hp
    have hck := (hX.2.2 x hxm).2.2
    rw [e5] at hck
    obtain ⟨e, hb, _, hz⟩ := bi_all B w hB hT 6 0 rfl p.k p.n p.s p.a p.l p.c Lt e3 (ck_in hck) (LieA.lies _ _ _ e6)
    rw [hz hck] at hb
    exact ⟨⟨e3, e4⟩, Lt, ck_in hck, LieA.lies _ _ _ e6, hb, fun _ => hck⟩
  · rw [List.map_map, show (Pr.name ∘ Pr.fix) = Pr.name from rfl, pair_map h (g := AP.name) fun p x h => h.1]
    exact hX.1
  · obtain ⟨p, hp, rfl⟩ := List.mem_map.1 hq
    obtain ⟨x, hxm, e1, e2, e3, e4, Lt, e5, e6⟩ := hx p hp
    have := hX.2.2 x hxm
    rw [e5] at this
    exact ⟨by show nm p.name = true; rw [e1]; exact this.1, this.2.1, rfl⟩

/-- A right work lies as a graph that its check takes. -/
theorem gr_back (B : Nat) {w : World} (hB : B ≤ w.heap.size) (hT : Tabs B w) {S : WS} (hS : Rt S) {na : Option Addr} {nl : Nat} {ea : Option Addr} {el : Nat} (hN : NsAt w S.N na nl) (hE : EsAt w S.E ea el) : ∃ N E, GrOk w N E na nl ea el ∧ gE N E S.next = 0 := by
  obtain ⟨N, hA, p1⟩ := hN
  obtain ⟨E, hA', p2⟩ := hE
  have i1 : (N.map Nd.fix).map Nd.id = S.N.map AN.id := by rw [List.map_map, show (Nd.id ∘ Nd.fix) = Nd.id from rfl]; exact pair_map p1 fun p x h => h.1
  have i2 : (E.map Ed.fix).map Ed.id = S.E.map AE.id := by rw [List.map_map, show (Ed.id ∘ Ed.fix) = Ed.id from rfl]; exact pair_map p2 fun p x h => h.1
  have hn : ∀ x ∈ N, ∃ X ∈ S.N, NdIn w x X := fun x hx => pair_mem' p1 hx
  have he : ∀ x ∈ E, ∃ X ∈ S.E, EdIn w x X := fun x hx => pair_mem' p2 hx
  refine ⟨N.map Nd.fix, E.map Ed.fix, ⟨hA.fix, hA'.fix, fun y hy => ?_, fun y hy => ?_⟩, (gE_iff _ _ _).2 ⟨by rw [List.length_map, p1.1]; exact hS.n40, by rw [List.length_map, p2.1]; exact hS.e60, by rw [i1]; exact hS.nri, by rw [i2]; exact hS.eri, hS.pos, hS.next, fun y hy => ?_, fun y hy => ?_, fun y hy => ?_, fun y hy => ?_⟩⟩
  · obtain ⟨x, hx, rfl⟩ := List.mem_map.1 hy
    obtain ⟨X, hX, q1, q2, q3, q4, q5⟩ := hn x hx
    exact ⟨q3, q4.fix, (props_back B hB hT q5 (hS.nds X hX).2).1⟩
  · obtain ⟨x, hx, rfl⟩ := List.mem_map.1 hy
    obtain ⟨X, hX, q1, q2, q3, q4, q5, q6, q7⟩ := he x hx
    exact ⟨q6.fix, (props_back B hB hT q7 (hS.eds X hX).2.2.2).1⟩
  · obtain ⟨x, hx, rfl⟩ := List.mem_map.1 hy
    obtain ⟨X, hX, q1, _⟩ := hn x hx
    show 0 < x.id ∧ x.id < S.next
    rw [q1]
    exact hS.nid X hX
  · obtain ⟨x, hx, rfl⟩ := List.mem_map.1 hy
    obtain ⟨X, hX, q1, _⟩ := he x hx
    show 0 < x.id ∧ x.id < S.next
    rw [q1]
    exact ⟨(hS.eid X hX).1, (hS.eid X hX).2.1⟩
  · obtain ⟨x, hx, rfl⟩ := List.mem_map.1 hy
    obtain ⟨X, hX, q1, q2, q3, q4, q5⟩ := hn x hx
    refine ⟨(labsE_iff _).2 ?_, (props_back B hB hT q5 (hS.nds X hX).2).2⟩
    show RtL x.labs
    rw [q2]
    exact (hS.nds X hX).1
  · obtain ⟨x, hx, rfl⟩ := List.mem_map.1 hy
    obtain ⟨X, hX, q1, q2, q3, q4, q5, q6, q7⟩ := he x hx
    have hd := hS.eds X hX
    have hi := (hS.eid X hX).2.2
    unfold hasN
    rw [i1]
    refine ⟨?_, ?_, ?_, ?_, (props_back B hB hT q7 hd.2.2.2).2⟩
    · rw [← q1] at hi
      exact decide_eq_false hi
    · show nm x.typ = true
      rw [q4]
      exact hd.1
    · have := hd.2.1
      rw [← q2] at this
      exact decide_eq_true this
    · have := hd.2.2.1
      rw [← q3] at this
      exact decide_eq_true this

theorem RtP.ok {P : List AP} (h : RtP P) : P.length ≤ 1000 ∧ ∀ p ∈ P, p.ok :=
  ⟨by have := h.2.1; omega, fun p hp => by
    have hwt := ck_wt 6 _ (h.2.2 p hp).2.2
    have e : 2 * 32 ^ 6 = 2147483648 := by decide
    show wtT p.t ≤ _
    omega⟩

theorem Rt.nok {S : WS} (h : Rt S) : ∀ x ∈ S.N, x.ok := fun x hx => ⟨by have := (h.nds x hx).1.2.1; omega, (h.nds x hx).2.ok.1, (h.nds x hx).2.ok.2⟩
theorem Rt.eok {S : WS} (h : Rt S) : ∀ x ∈ S.E, x.ok := fun x hx => (h.eds x hx).2.2.2.ok

/-- Operations lie where a slice says. -/
def OpsAt (w : World) (L : List Om) (a : Option Addr) (l : Nat) : Prop :=
  l = L.length ∧ l ≤ 9223372036854775807 ∧ (0 < l → ∃ b off, a = some ⟨b, off, none⟩ ∧ b < w.heap.size ∧ ∀ (i : Nat) (o : Om), L[i]? = some o → w.cell? ⟨b, off + i * 11, none⟩ = some (.int .i64 o.k) ∧ w.cell? ⟨b, off + i * 11 + 1, none⟩ = some (.int .i64 o.id) ∧ w.cell? ⟨b, off + i * 11 + 1 + 1, none⟩ = some (.int .i64 o.frm) ∧ w.cell? ⟨b, off + i * 11 + 1 + 1 + 1, none⟩ = some (.int .i64 o.dst) ∧ w.cell? ⟨b, off + i * 11 + 1 + 1 + 1 + 1, none⟩ = some (.string o.name) ∧ w.cell? ⟨b, off + i * 11 + 1 + 1 + 1 + 1 + 1, none⟩ = some (.int .i64 o.vk) ∧ w.cell? ⟨b, off + i * 11 + 1 + 1 + 1 + 1 + 1 + 1, none⟩ = some (.int .i64 o.vn) ∧ w.cell? ⟨b, off + i * 11 + 1 + 1 + 1 + 1 + 1 + 1 + 1, none⟩ = some (.string o.vs) ∧ w.cell? ⟨b, off + i * 11 + 1 + 1 + 1 + 1 + 1 + 1 + 1 + 1, none⟩ = some (.slice o.va o.vl o.vc) ∧ w.cell? ⟨b, off + i * 11 + 1 + 1 + 1 + 1 + 1 + 1 + 1 + 1 + 1, none⟩ = some (.slice o.la o.ll o.lc) ∧ w.cell? ⟨b, off + i * 11 + 1 + 1 + 1 + 1 + 1 + 1 + 1 + 1 + 1 + 1, none⟩ = some (.slice o.pa o.pl o.pc))

def zeroGr : Value := .agg #[.slice none 0 0, .slice none 0 0, .int .i64 0]

/-- What Apply answers: the first error and where it is, or what the work is behind all. -/
def ApplyEnd (w' : World) (n : Nat) (er : Nat → Int) (S : WS) (e : Ending) : Prop :=
  (∃ i, i < n ∧ (∀ j, j < i → er j = 0) ∧ er i ≠ 0 ∧ e = .returned (.tuple #[zeroGr, .slice none 0 0, .int .i64 i, .int .i64 (er i)])) ∨
  ((∀ j, j < n → er j = 0) ∧ ∃ na nc ea ec ma mc, e = .returned (.tuple #[.agg #[.slice na S.N.length nc, .slice ea S.E.length ec, .int .i64 S.next], .slice ma S.made.length mc, .int .i64 0, .int .i64 0]) ∧ S.N.length ≤ nc ∧ NsAt w' S.N na S.N.length ∧ S.E.length ≤ ec ∧ EsAt w' S.E ea S.E.length ∧ IntsAt w' S.made ma S.made.length)

theorem work_reads {O : Nat → Prop} {w : World} {b : Nat} {S : WS} (h : WorkIn O w b S) (hm : S.made.length ≤ 9223372036854775807) : ∃ na nc ea ec ma mc, w.heap[b]? = some (.cells #[.slice na S.N.length nc, .slice ea S.E.length ec, .int .i64 S.next, .slice ma S.made.length mc] 95 (0, 0)) ∧
    ∀ w' : World, w.heap.size ≤ w'.heap.size → (∀ i, O i → w'.heap[i]? = w.heap[i]?) → S.N.length ≤ nc ∧ NsAt w' S.N na S.N.length ∧ S.E.length ≤ ec ∧ EsAt w' S.E ea S.E.length ∧ IntsAt w' S.made ma S.made.length := by
  obtain ⟨na, nc, ea, ec, ma, mc, PN, PE, PM, hw⟩ := h
  refine ⟨na, nc, ea, ec, ma, mc, hw.blk, fun w' hs hk => ?_⟩
  have h1 := (hw.ns.kept (A' := PN) (w' := w') ⟨hs, fun i hi _ => ⟨hi, hk i (hw.pn i hi).1⟩⟩).reads2
  have h2 := (hw.es.kept (A' := PE) (w' := w') ⟨hs, fun i hi _ => ⟨hi, hk i (hw.pe i hi).1⟩⟩).reads2
  have h3 := row_keep hw.mr (w' := w') fun g hg _ => hk g (hw.pm g (hw.ms g hg)).1
  obtain ⟨a, c, he, hi⟩ := ints_of_row h3 hm
  injection he with e1 _ e3
  subst e1
  exact ⟨h1.1, h1.2, h2.1, h2.2, hi⟩

set_option maxHeartbeats 16000000 in
set_option maxRecDepth 100000 in
theorem apply_of (XN : List AN) (XE : List AE) (next : Int) (na : Option Addr) (nl nc : Nat) (ea : Option Addr) (el ec : Nat) (ops : List Om) (oa : Option Addr) (ol oc : Nat) (er : Nat → Int) (Sf : Nat → WS) (w : World)
    (hC : ∀ W, Below w.heap.size w W → Calls Tryz.prog 25 #[.agg #[.slice na nl nc, .slice ea el ec, .int .i64 next]] W fun e w' => e = .returned (.int .i64 0) ∧ Below W.heap.size W w')
    (hN : NsAt w XN na nl) (hE : EsAt w XE ea el) (hnl : nl ≤ 1000) (hel : el ≤ 1000) (hNo : ∀ x ∈ XN, x.ok) (hEo : ∀ x ∈ XE, x.ok)
    (hops : OpsAt w ops oa ol) (hol : ol ≤ 20) (hS0 : Sf 0 = ⟨XN, XE, next, []⟩) (hmade : ∀ i, (Sf i).made.length ≤ 9223372036854775807)
    (hstep : ∀ i o, ops[i]? = some o → (∀ j, j < i → er j = 0) → ∀ O b W, WorkIn O W b (Sf i) → (∀ j, O j → w.heap.size ≤ j) → Below w.heap.size w W → Calls Tryz.prog 43 #[.pointer (some ⟨b, 0, none⟩), .agg #[.int .i64 o.k, .int .i64 o.id, .int .i64 o.frm, .int .i64 o.dst, .string o.name, .int .i64 o.vk, .int .i64 o.vn, .string o.vs, .slice o.va o.vl o.vc, .slice o.la o.ll o.lc, .slice o.pa o.pl o.pc]] W fun e w' => ActEnd O W w' b (Sf (i + 1)) (er i) e) :
    Calls Tryz.prog 24 #[.agg #[.slice na nl nc, .slice ea el ec, .int .i64 next], .slice oa ol oc] w fun e w' => ApplyEnd w' ol er (Sf ol) e ∧ Below w.heap.size w w' := by
  have HC := toHid hC
  have HSTEP := toHid hstep
  have HOPS := toHid hops
  have HS0 := toHid hS0
  have HMADE := toHid hmade
  have HF : Hid (∀ W, Below w.heap.size w W → Calls Tryz.prog 42 #[.agg #[.slice na nl nc, .slice ea el ec, .int .i64 next]] W fun e w' => (∃ na1 nc1 ea1 ec1 m, e = .returned (.agg #[.slice na1 XN.length nc1, .slice ea1 XE.length ec1, .int .i64 next]) ∧ W.heap.size ≤ m ∧ NsOwn (fun i => W.heap.size ≤ i ∧ i < m) w' XN (.slice na1 XN.length nc1) ∧ EsOwn (fun i => m ≤ i) w' XE (.slice ea1 XE.length ec1)) ∧ Below W.heap.size W w') := fun W kW => (freshGraph_any XN XE na nl nc ea el ec next W (hN.below kW) (hE.below kW) hnl hel hNo hEo).mono fun e w' ⟨⟨nv, ev, m, he, hm, h1, h2⟩, k⟩ => ⟨by
    obtain ⟨a1, c1, rfl, _⟩ := h1.reads
    obtain ⟨a2, c2, rfl, _⟩ := h2.reads
    exact ⟨a1, c1, a2, c2, m, he, hm, h1, h2⟩, k⟩
  obtain ⟨xl, hxl⟩ : ∃ z, z = XN.length := ⟨_, rfl⟩
  obtain ⟨yl, hyl⟩ : ∃ z, z = XE.length := ⟨_, rfl⟩
  rw [← hxl, ← hyl] at HF
  have HXL := toHid hxl
  have HYL := toHid hyl
  clear hC hstep hops hS0 hmade hN hE hNo hEo hnl hel hxl hyl
  have b0 : Below w.heap.size w ((w.alloc (.cells #[.slice na nl nc, .slice ea el ec, .int .i64 next] 25)).alloc (.cells #[.slice none 0 0, .slice none 0 0, .int .i64 0] 25)) := ((Below.refl _ _).alloc (Nat.le_refl _) _).alloc (by simp) _
  have hx := (Below.heap_alloc (w.alloc (.cells #[.slice na nl nc, .slice ea el ec, .int .i64 next] 25)) (.cells #[.slice none 0 0, .slice none 0 0, .int .i64 0] 25) w.heap.size (by simp)).trans (alloc_new w (.cells #[.slice na nl nc, .slice ea el ec, .int .i64 next] 25))
  have hy := alloc_two w (.cells #[.slice na nl nc, .slice ea el ec, .int .i64 next] 25) (.cells #[.slice none 0 0, .slice none 0 0, .int .i64 0] 25)
  have z0 : ((w.alloc (.cells #[.slice na nl nc, .slice ea el ec, .int .i64 next] 25)).alloc (.cells #[.slice none 0 0, .slice none 0 0, .int .i64 0] 25)).heap.size = w.heap.size + 2 := by simp
  have HB := toHid b0
  have HX := toHid hx
  have HY := toHid hy
  have HZ := toHid z0
  clear b0 hx hy z0
  go_enter Tryz.func24, Tryz.ntmps24
  go_wp2_with fail
  refine (HC.out _ HB.out).mono ?_
  generalize (w.alloc (.cells #[.slice na nl nc, .slice ea el ec, .int .i64 next] 25)).alloc (.cells #[.slice none 0 0, .slice none 0 0, .int .i64 0] 25) = W at HB HX HY HZ ⊢
  rintro e w1 ⟨rfl, k1⟩
  have HB1 := toHid (HB.out.trans (k1.mono HB.out.size))
  have HX1 := toHid ((k1.block w.heap.size (by rw [HZ.out]; omega)).trans HX.out)
  have HY1 := toHid ((k1.block (w.heap.size + 1) (by rw [HZ.out]; omega)).trans HY.out)
  have s1 : w.heap.size + 2 ≤ w1.heap.size := by have := k1.size; rw [HZ.out] at this; exact this
  clear k1 HB HX HY HZ HC
  have c0 := cell_of HX1.out 0
  have c1 := cell_of HX1.out 1
  have c2 := cell_of HX1.out 2
  simp at c0 c1 c2
  have hol' : ¬ ((20 : Int) < ol) := by omega
  go_wp2_with fail
  refine (HF.out _ HB1.out).mono ?_
  rintro e w2 ⟨⟨na1, nc1, ea1, ec1, m, rfl, hm, hno, heo⟩, k2⟩
  have HB2 := toHid (HB1.out.trans (k2.mono HB1.out.size))
  have HY2 := toHid ((k2.block (w.heap.size + 1) (by omega)).trans HY1.out)
  have s2 : w.heap.size + 2 ≤ w2.heap.size := Nat.le_trans s1 k2.size
  have hwk : ∃ O, WorkIn O (w2.alloc (.cells #[.slice na1 xl nc1, .slice ea1 yl ec1, .int .i64 next, .slice none 0 0] 95)) w2.heap.size (Sf 0) ∧ ∀ j, O j → w.heap.size + 2 ≤ j := by
    refine ⟨fun i => w1.heap.size ≤ i ∧ i < w2.heap.size + 1, ⟨na1, nc1, ea1, ec1, none, 0, (fun i => (w1.heap.size ≤ i ∧ i < m) ∧ i < w2.heap.size), (fun i => m ≤ i ∧ i < w2.heap.size), (fun _ => False), ?_⟩, fun j hj => by omega⟩
    rw [HS0.out]
    have kA : Below w2.heap.size w2 (w2.alloc (.cells #[.slice na1 xl nc1, .slice ea1 yl ec1, .int .i64 next, .slice none 0 0] 95)) := (Below.refl _ _).alloc (Nat.le_refl _) _
    have hs12 := k2.size
    refine ⟨?_, ⟨hs12, by omega⟩, fun i hi => by simp; exact hi.2, fun i hi => ⟨⟨hi.1.1, by omega⟩, by omega⟩, fun i hi => ⟨⟨by omega, by omega⟩, by omega, fun q => by omega⟩, fun i hi => hi.elim, ?_, ?_, (fun g hg => by cases hg), World.ownsRow_nil _ _ _ _⟩
    · rw [alloc_new, HXL.out, HYL.out]; rfl
    · rw [HXL.out] at hno
      exact hno.kept ⟨kA.size, fun i hi hl => ⟨⟨hi, hl⟩, kA.block i hl⟩⟩
    · rw [HYL.out] at heo
      exact heo.kept ⟨kA.size, fun i hi hl => ⟨⟨hi, hl⟩, kA.block i hl⟩⟩
  have HWK := toHid hwk
  clear hwk hno heo k2 hm HF HB1 HX1 HY1 c0 c1 c2 s1
  have b3 : Below w.heap.size w (w2.alloc (.cells #[.slice na1 xl nc1, .slice ea1 yl ec1, .int .i64 next, .slice none 0 0] 95)) := HB2.out.alloc (by omega) _
  have y3 := (Below.heap_alloc w2 (.cells #[.slice na1 xl nc1, .slice ea1 yl ec1, .int .i64 next, .slice none 0 0] 95) (w.heap.size + 1) (by omega)).trans HY2.out
  have HB3 := toHid b3
  have HY3 := toHid y3
  clear b3 y3
  go_wp2_with fail
  generalize w2.alloc (.cells #[.slice na1 xl nc1, .slice ea1 yl ec1, .int .i64 next, .slice none 0 0] 95) = W3 at HWK HB3 HY3 ⊢
  generalize w2.heap.size = b at HWK ⊢
  obtain ⟨O0, hO0, hO0b⟩ := HWK.out
  have HO0 := toHid hO0
  have HO0B := toHid hO0b
  clear hO0 hO0b HWK HB2 HY2
  go_loopg [29] ol (fun g s29 wr => ∃ (i : Nat) (O : Nat → Prop), i ≤ ol ∧ ol - i ≤ g ∧ s29 = .int .i64 i ∧ (∀ j, j < i → er j = 0) ∧ WorkIn O wr b (Sf i) ∧ (∀ j, O j → w.heap.size + 2 ≤ j) ∧ wr.heap[w.heap.size + 1]? = some (.cells #[.slice none 0 0, .slice none 0 0, .int .i64 0] 25 (0, 0)) ∧ Below w.heap.size w wr)
  case atStart => exact ⟨0, O0, Nat.zero_le _, by omega, rfl, fun j hj => absurd hj (Nat.not_lt_zero _), HO0.out, HO0B.out, HY3.out, HB3.out⟩
  case round =>
    obtain ⟨i, O, hi, hg, rfl, hers, hwk, hOb, hyr, hbr⟩ := hrel
    have HERS := toHid hers
    have HWK := toHid hwk
    have HOB := toHid hOb
    have HYR := toHid hyr
    have HBR := toHid hbr
    have sr : w.heap.size + 2 ≤ wr.heap.size := (Array.getElem?_eq_some_iff.1 hyr).1
    clear hers hwk hOb hyr hbr HO0 HO0B HB3 HY3
    by_cases hlt : i < ol
    · obtain ⟨ob, off, ha, hb, hc⟩ := HOPS.out.2.2 (by omega)
      subst ha
      obtain ⟨o, ho, _⟩ := drop_get (L := ops) (i := i) (by have := HOPS.out.1; omega)
      obtain ⟨c0, c1, c2, c3, c4, c5, c6, c7, c8, c9, c10⟩ := hc i o ho
      have q : ∀ x, wr.cell? ⟨ob, x, none⟩ = w.cell? ⟨ob, x, none⟩ := fun x => HBR.out.cell (p := ⟨ob, x, none⟩) hb
      have d0 := (q _).trans c0
      have d1 := (q _).trans c1
      have d2 := (q _).trans c2
      have d3 := (q _).trans c3
      have d4 := (q _).trans c4
      have d5 := (q _).trans c5
      have d6 := (q _).trans c6
      have d7 := (q _).trans c7
      have d8 := (q _).trans c8
      have d9 := (q _).trans c9
      have d10 := (q _).trans c10
      have hil : (i : Int) < ol := by omega
      obtain ⟨z, hz⟩ : ∃ z, z = er i := ⟨_, rfl⟩
      have HDO : Hid (Calls Tryz.prog 43 #[.pointer (some ⟨b, 0, none⟩), .agg #[.int .i64 o.k, .int .i64 o.id, .int .i64 o.frm, .int .i64 o.dst, .string o.name, .int .i64 o.vk, .int .i64 o.vn, .string o.vs, .slice o.va o.vl o.vc, .slice o.la o.ll o.lc, .slice o.pa o.pl o.pc]] (wr.alloc (.cells #[.int .i64 o.k, .int .i64 o.id, .int .i64 o.frm, .int .i64 o.dst, .string o.name, .int .i64 o.vk, .int .i64 o.vn, .string o.vs, .slice o.va o.vl o.vc, .slice o.la o.ll o.lc, .slice o.pa o.pl o.pc] 68)) fun e w' => ActEnd O (wr.alloc (.cells #[.int .i64 o.k, .int .i64 o.id, .int .i64 o.frm, .int .i64 o.dst, .string o.name, .int .i64 o.vk, .int .i64 o.vn, .string o.vs, .slice o.va o.vl o.vc, .slice o.la o.ll o.lc, .slice o.pa o.pl o.pc] 68)) w' b (Sf (i + 1)) z e) := by
        rw [hz]
        exact HSTEP.out i o ho HERS.out O b _ (HWK.out.below ((Below.refl _ _).alloc (Nat.le_refl _) _)) (fun j hj => by have := HOB.out j hj; omega) (HBR.out.alloc (by omega) _)
      have HZI := toHid hz
      have kA : Below wr.heap.size wr (wr.alloc (.cells #[.int .i64 o.k, .int .i64 o.id, .int .i64 o.frm, .int .i64 o.dst, .string o.name, .int .i64 o.vk, .int .i64 o.vn, .string o.vs, .slice o.va o.vl o.vc, .slice o.la o.ll o.lc, .slice o.pa o.pl o.pc] 68)) := (Below.refl _ _).alloc (Nat.le_refl _) _
      have HKA := toHid kA
      clear c0 c1 c2 c3 c4 c5 c6 c7 c8 c9 c10 q hc ho hz kA
      go_wp2_with fail
      refine HDO.out.mono ?_
      clear HDO
      generalize wr.alloc (.cells #[.int .i64 o.k, .int .i64 o.id, .int .i64 o.frm, .int .i64 o.dst, .string o.name, .int .i64 o.vk, .int .i64 o.vn, .string o.vs, .slice o.va o.vl o.vc, .slice o.la o.ll o.lc, .slice o.pa o.pl o.pc] 68) = W4 at HKA ⊢
      rintro e w5 ⟨rfl, hr5, hs5⟩
      have hr : Rest O wr w5 := (Rest.of_below HKA.out).trans hr5 (fun _ _ q => q)
      have y5 := (hr.block (w.heap.size + 1) (by omega) (fun q => by have := HOB.out _ q; omega)).trans HYR.out
      have k5 : Below w.heap.size w w5 := HBR.out.trans (hr.below (by omega) (fun j hj => by have := HOB.out j hj; omega))
      have HR5 := toHid hr
      have HY5 := toHid y5
      have HK5 := toHid k5
      have HS5 := toHid hs5
      clear hr5 hs5 hr y5 k5 d0 d1 d2 d3 d4 d5 d6 d7 d8 d9 d10
      by_cases hz0 : z = 0
      · subst hz0
        have HZ0 := toHid HZI.out.symm
        have HST := toHid (StepEnd.behind HWK.out HKA.out (HS5.out rfl))
        go_wp2_with fail
        go_roundg (ol - (i + 1))
        case measure => omega
        case rel =>
          refine ⟨i + 1, Now O wr w5, by omega, by omega, by go_num, fun j hj => ?_, HST.out.1, fun j hj => ?_, HY5.out, HK5.out⟩
          · rcases Nat.lt_or_ge j i with h | h
            · exact HERS.out j h
            · have : j = i := by omega
              rw [this]
              exact HZ0.out
          · rcases hj with h | h
            · exact HOB.out j h
            · omega
      · have hz' : (z != 0) = true := by simp [hz0]
        have HZN := toHid hz0
        have r0 := cell_of HY5.out 0
        have r1 := cell_of HY5.out 1
        have r2 := cell_of HY5.out 2
        have g0 := free_of HY5.out 0
        have g1 := free_of HY5.out 1
        have g2 := free_of HY5.out 2
        simp at r0 r1 r2
        clear hz0
        go_wp2_with fail
        have eP : ∀ X : World, ((X.setCell ⟨w.heap.size + 1, 0, none⟩ (.slice none 0 0)).setCell ⟨w.heap.size + 1, 1, none⟩ (.slice none 0 0)).setCell ⟨w.heap.size + 1, 2, none⟩ (.int .i64 0) = putL X (w.heap.size + 1) 0 [.slice none 0 0, .slice none 0 0, .int .i64 0] := fun _ => rfl
        rw [eP]
        have E := putL_here [.slice none 0 0, .slice none 0 0, .int .i64 0] 0 w5 _ HY5.out
        have hbb : Below w.heap.size w (putL w5 (w.heap.size + 1) 0 [.slice none 0 0, .slice none 0 0, .int .i64 0]) := HK5.out.trans ((putL_bel (w.heap.size + 1) _ _ w5).mono (by omega))
        generalize putL w5 (w.heap.size + 1) 0 [.slice none 0 0, .slice none 0 0, .int .i64 0] = Y at E hbb ⊢
        have t0 := cell_of E 0
        have t1 := cell_of E 1
        have t2 := cell_of E 2
        simp [setL] at t0 t1 t2
        exact bodyPost_ret (v := .tuple #[zeroGr, .slice none 0 0, .int .i64 i, .int .i64 z]) (by simp [results, Tryz.results24, go_sem, t0, t1, t2, zeroGr]) rfl ⟨.inl ⟨i, hlt, HERS.out, by rw [← HZI.out]; exact HZN.out, by rw [← HZI.out]⟩, hbb⟩
    · have hil : i = ol := by omega
      subst hil
      obtain ⟨na2, nc2, ea2, ec2, ma2, mc2, hblk, hread⟩ := work_reads HWK.out (HMADE.out i)
      obtain ⟨n2, hn2⟩ : ∃ z, z = (Sf i).N.length := ⟨_, rfl⟩
      obtain ⟨e2, he2⟩ : ∃ z, z = (Sf i).E.length := ⟨_, rfl⟩
      obtain ⟨x2, hx2⟩ : ∃ z, z = (Sf i).next := ⟨_, rfl⟩
      obtain ⟨m2, hm2⟩ : ∃ z, z = (Sf i).made.length := ⟨_, rfl⟩
      rw [← hn2, ← he2, ← hx2, ← hm2] at hblk
      have HEQ := toHid (show n2 = (Sf i).N.length ∧ e2 = (Sf i).E.length ∧ x2 = (Sf i).next ∧ m2 = (Sf i).made.length from ⟨hn2, he2, hx2, hm2⟩)
      have HREAD := toHid hread
      have HNB : Hid (¬ O (w.heap.size + 1)) := fun q => by have := HOB.out _ q; omega
      have hbl : b < wr.heap.size := (Array.getElem?_eq_some_iff.1 hblk).1
      have c0 := cell_of hblk 0
      have c1 := cell_of hblk 1
      have c2 := cell_of hblk 2
      have c3 := cell_of hblk 3
      have r0 := cell_of HYR.out 0
      have r1 := cell_of HYR.out 1
      have r2 := cell_of HYR.out 2
      have g0 := free_of HYR.out 0
      have g1 := free_of HYR.out 1
      have g2 := free_of HYR.out 2
      simp at c0 c1 c2 c3 r0 r1 r2
      clear hblk hread hn2 he2 hx2 hm2
      go_upto_region 14 with fail
      go_region
      all_goals
        go_wp2_with fail
        have eP : ∀ X : World, ((X.setCell ⟨w.heap.size + 1, 0, none⟩ (.slice na2 n2 nc2)).setCell ⟨w.heap.size + 1, 1, none⟩ (.slice ea2 e2 ec2)).setCell ⟨w.heap.size + 1, 2, none⟩ (.int .i64 x2) = putL X (w.heap.size + 1) 0 [.slice na2 n2 nc2, .slice ea2 e2 ec2, .int .i64 x2] := fun _ => rfl
        rw [eP]
        have E : (putL wr (w.heap.size + 1) 0 [.slice na2 n2 nc2, .slice ea2 e2 ec2, .int .i64 x2]).drew.heap[w.heap.size + 1]? = _ := putL_here [.slice na2 n2 nc2, .slice ea2 e2 ec2, .int .i64 x2] 0 wr _ HYR.out
        have hbb : Below w.heap.size w (putL wr (w.heap.size + 1) 0 [.slice na2 n2 nc2, .slice ea2 e2 ec2, .int .i64 x2]).drew := (HBR.out.trans ((putL_bel (w.heap.size + 1) _ _ wr).mono (by omega))).drew
        have hrd := HREAD.out (putL wr (w.heap.size + 1) 0 [.slice na2 n2 nc2, .slice ea2 e2 ec2, .int .i64 x2]).drew (by show _ ≤ (putL wr _ _ _).heap.size; rw [putL_size]; exact Nat.le_refl _) (fun j hj => putL_other _ _ _ wr j (fun e => HNB.out (e ▸ hj)))
        generalize (putL wr (w.heap.size + 1) 0 [.slice na2 n2 nc2, .slice ea2 e2 ec2, .int .i64 x2]).drew = Y at E hbb hrd ⊢
        have t0 := cell_of E 0
        have t1 := cell_of E 1
        have t2 := cell_of E 2
        simp [setL] at t0 t1 t2
        obtain ⟨q1, q2, q3, q4⟩ := HEQ.out
        exact bodyPost_ret (v := .tuple #[.agg #[.slice na2 n2 nc2, .slice ea2 e2 ec2, .int .i64 x2], .slice ma2 m2 mc2, .int .i64 0, .int .i64 0]) (by simp [results, Tryz.results24, go_sem, t0, t1, t2]) rfl ⟨.inr ⟨HERS.out, na2, nc2, ea2, ec2, ma2, mc2, by rw [← q1, ← q2, ← q3, ← q4], hrd⟩, hbb⟩
end Go.Proofs.YtebbjmjgojekdaaGreatDoor
