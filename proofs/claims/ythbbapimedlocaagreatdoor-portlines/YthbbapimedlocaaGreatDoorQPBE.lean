/-
  What is proved here: what the texts TTake, GxOk, PtPrint, PdParse prove, in one text.
-/
import Derived.Test.YthbbapimedlocaaGreatDoorQPBD
import Derived.Test.YthbbapimedlocaaGreatDoorQPAM
import Derived.Test.YthbbapimedlocaaGreatDoorQPAZ
import Derived.Test.YthbbapimedlocaaGreatDoorQPAX
namespace Go.Proofs.YthbbapimedlocaaGreatDoor
open Go.RowKit
set_option linter.unusedVariables false

theorem pair_map {α β γ : Type} {R : α → β → Prop} {f : α → γ} {g : β → γ} {P : List α} {L : List β} (h : Pair2 R P L) (hR : ∀ p x, R p x → f p = g x) : P.map f = L.map g := by
  apply List.ext_getElem?
  intro i
  rw [List.getElem?_map, List.getElem?_map]
  cases hx : P[i]? with
  | none =>
    have : L[i]? = none := by
      rw [List.getElem?_eq_none_iff] at hx ⊢
      rw [← h.1]
      exact hx
    rw [this]
    rfl
  | some x =>
    obtain ⟨y, hy, hxy⟩ := h.left hx
    rw [hy]
    show some (f x) = some (g y)
    rw [hR x y hxy]

theorem pair_mem {α β : Type} {R : α → β → Prop} {P : List α} {L : List β} (h : Pair2 R P L) {x : β} (hx : x ∈ L) : ∃ p ∈ P, R p x := by
  obtain ⟨i, hi⟩ := List.getElem?_of_mem hx
  obtain ⟨p, hp, hR⟩ := h.right hi
  exact ⟨p, List.mem_of_getElem? hp, hR⟩

theorem pair_mem' {α β : Type} {R : α → β → Prop} {P : List α} {L : List β} (h : Pair2 R P L) {p : α} (hp : p ∈ P) : ∃ x ∈ L, R p x := by
  obtain ⟨i, hi⟩ := List.getElem?_of_mem hp
  obtain ⟨x, hx, hR⟩ := h.left hi
  exact ⟨x, List.mem_of_getElem? hx, hR⟩

theorem props_right {w : World} {P : List Pr} {pa : Option Addr} {pl : Nat} (hP : PropsAt w P pa pl) (hO : ∀ p ∈ P, PrOk w p) (h0 : prsE P = 0) : ∃ X : List AP, Pair2 (PrIn AnyB w) P X ∧ RtP X := by
  obtain ⟨g1, g2, g3⟩ := (prsE_iff P).1 h0
  obtain ⟨X, hX⟩ := pair_choose (R := fun p x => PrIn AnyB w p x ∧ nm x.name = true ∧ kT x.t ≠ 0 ∧ Ck 6 x.t) P (fun p hp => by
    obtain ⟨⟨h1, h2⟩, L, _, h3, _, h4⟩ := hO p hp
    have hck := h4 (g3 p hp).2.2
    obtain ⟨i, hi⟩ := List.getElem?_of_mem hp
    have hil := (List.getElem?_eq_some_iff.1 hi).1
    obtain ⟨b, off, _, _, hc⟩ := hP.2.2 (by rw [hP.1]; omega)
    exact ⟨⟨p.name, .node p.k p.n p.s L⟩, ⟨rfl, (hc i p hi).1, h1, h2, L, rfl, LiesS.lie _ _ _ h3⟩, (g3 p hp).1, (g3 p hp).2.1, hck⟩)
  refine ⟨X, hX.mono fun _ _ _ _ h => h.1, ?_, by rw [← hX.1]; exact g2, fun x hx => ?_⟩
  · rw [← pair_map hX (f := Pr.name) fun p x h => h.1.1]
    exact g1
  · obtain ⟨p, _, h⟩ := pair_mem hX hx
    exact h.2

theorem nodes_right {w : World} {N : List Nd} (hO : ∀ x ∈ N, NdOk w x) (h0 : ∀ x ∈ N, labsE x.labs = 0 ∧ prsE x.props = 0) : ∃ X : List AN, Pair2 (NdIn w) N X ∧ ∀ x ∈ X, RtL x.labs ∧ RtP x.props := by
  obtain ⟨X, hX⟩ := pair_choose (R := fun p x => NdIn w p x ∧ RtL x.labs ∧ RtP x.props) N (fun p hp => by
    obtain ⟨h1, h2, h3⟩ := hO p hp
    obtain ⟨Y, hY, hok⟩ := props_right h2 h3 (h0 p hp).2
    exact ⟨⟨p.id, p.labs, Y⟩, ⟨rfl, rfl, h1, h2, hY⟩, (labsE_iff _).1 (h0 p hp).1, hok⟩)
  refine ⟨X, hX.mono fun _ _ _ _ h => h.1, fun x hx => ?_⟩
  obtain ⟨p, _, h⟩ := pair_mem hX hx
  exact h.2

theorem edges_right {w : World} {E : List Ed} {ea : Option Addr} {el : Nat} (hA : EdgesAt w E ea el) (hO : ∀ x ∈ E, EdOk w x) (h0 : ∀ x ∈ E, prsE x.props = 0) : ∃ X : List AE, Pair2 (EdIn w) E X ∧ ∀ x ∈ X, RtP x.props := by
  obtain ⟨X, hX⟩ := pair_choose (R := fun p x => EdIn w p x ∧ RtP x.props) E (fun p hp => by
    obtain ⟨h2, h3⟩ := hO p hp
    obtain ⟨Y, hY, hok⟩ := props_right h2 h3 (h0 p hp)
    obtain ⟨i, hi⟩ := List.getElem?_of_mem hp
    have hil := (List.getElem?_eq_some_iff.1 hi).1
    obtain ⟨b, off, _, _, hc⟩ := hA.2.2 (by rw [hA.1]; omega)
    exact ⟨⟨p.id, p.frm, p.dst, p.typ, Y⟩, ⟨rfl, rfl, rfl, rfl, (hc i p hi).1, h2, hY⟩, hok⟩)
  refine ⟨X, hX.mono fun _ _ _ _ h => h.1, fun x hx => ?_⟩
  obtain ⟨p, _, h⟩ := pair_mem hX hx
  exact h.2

/-- A graph that its check takes, by what it holds, is right. -/
theorem gr_right {w : World} {N : List Nd} {E : List Ed} {na : Option Addr} {nl : Nat} {ea : Option Addr} {el : Nat} {next : Int} (h : GrOk w N E na nl ea el) (h0 : gE N E next = 0) :
    ∃ XN XE, NsAt w XN na nl ∧ EsAt w XE ea el ∧ ∀ made, Rt ⟨XN, XE, next, made⟩ := by
  obtain ⟨h1, h2, h3, h4⟩ := h
  have r := (gE_iff N E next).1 h0
  obtain ⟨XN, p1, o1⟩ := nodes_right h3 r.nds
  obtain ⟨XE, p2, o2⟩ := edges_right h2 h4 (fun x hx => (r.eds x hx).2.2.2.2)
  have e1 : N.map Nd.id = XN.map AN.id := pair_map p1 fun p x h => h.1
  have e2 : E.map Ed.id = XE.map AE.id := pair_map p2 fun p x h => h.1
  refine ⟨XN, XE, ⟨N, h1, p1⟩, ⟨E, h2, p2⟩, fun made => ⟨by show XN.length ≤ 40; rw [← p1.1]; exact r.n40, by show XE.length ≤ 60; rw [← p2.1]; exact r.e60, by show Rise (XN.map AN.id); rw [← e1]; exact r.nri, by show Rise (XE.map AE.id); rw [← e2]; exact r.eri, r.pos, r.most, fun X hX => ?_, fun X hX => ?_, o1, fun X hX => ?_⟩⟩
  · obtain ⟨p, hp, h⟩ := pair_mem p1 hX
    rw [← h.1]
    exact r.nid p hp
  · obtain ⟨p, hp, h⟩ := pair_mem p2 hX
    have hno := (r.eds p hp).1
    unfold hasN at hno
    rw [e1] at hno
    rw [← h.1]
    exact ⟨(r.eid p hp).1, (r.eid p hp).2, by simpa using hno⟩
  · obtain ⟨p, hp, h⟩ := pair_mem p2 hX
    have hq := r.eds p hp
    unfold hasN at hq
    rw [e1] at hq
    rw [← h.2.1, ← h.2.2.1, ← h.2.2.2.1]
    exact ⟨hq.2.1, by simpa using hq.2.2.1, by simpa using hq.2.2.2.1, o2 X hX⟩

theorem inL_of : ∀ {L : List T}, (∀ t ∈ L, InT t) → InL L
  | [], _ => by unfold InL; trivial
  | t :: ts, h => by unfold InL; exact ⟨h t (List.mem_cons_self ..), inL_of fun u hu => h u (List.mem_cons_of_mem _ hu)⟩

theorem ck_in : ∀ {d : Nat} {t : T}, Ck d t → InT t := by
  intro d t h
  induction h with
  | null d => unfold InT InL; exact ⟨by omega, trivial⟩
  | bool d n h => unfold InT InL; exact ⟨by omega, trivial⟩
  | int d n h0 h1 => unfold InT InL; exact ⟨⟨h0, h1⟩, trivial⟩
  | text d s h0 h1 => unfold InT InL; exact ⟨by omega, trivial⟩
  | list d L h0 h1 ih => unfold InT; exact ⟨by omega, inL_of ih⟩

def Pr.fix (p : Pr) : Pr := ⟨p.name, p.k, p.n, p.s, p.a, p.l, p.c, 0⟩
def Nd.fix (x : Nd) : Nd := ⟨x.id, x.labs, x.la, x.ll, x.lc, x.props.map Pr.fix, x.pa, x.pl, x.pc⟩
def Ed.fix (x : Ed) : Ed := ⟨x.id, x.frm, x.dst, x.typ, x.props.map Pr.fix, x.pa, x.pl, x.pc⟩

theorem map_get {α β : Type} {f : α → β} {L : List α} {i : Nat} {y : β} (h : (L.map f)[i]? = some y) : ∃ x, L[i]? = some x ∧ f x = y := by
  rw [List.getElem?_map] at h
  cases hx : L[i]? with
  | none => rw [hx] at h; cases h
  | some x => rw [hx] at h; exact ⟨x, rfl, by injection h⟩

theorem PropsAt.fix {w : World} {P : List Pr} {a : Option Addr} {l : Nat} (h : PropsAt w P a l) : PropsAt w (P.map Pr.fix) a l := by
  obtain ⟨h1, h2, h3⟩ := h
  refine ⟨by rw [List.length_map]; exact h1, h2, fun h0 => ?_⟩
  obtain ⟨b, off, ha, hb, hc⟩ := h3 h0
  exact ⟨b, off, ha, hb, fun i p hp => by obtain ⟨q, hq, rfl⟩ := map_get hp; exact hc i q hq⟩

theorem NodesAt.fix {w : World} {P : List Nd} {a : Option Addr} {l : Nat} (h : NodesAt w P a l) : NodesAt w (P.map Nd.fix) a l := by
  obtain ⟨h1, h2, h3⟩ := h
  refine ⟨by rw [List.length_map]; exact h1, h2, fun h0 => ?_⟩
  obtain ⟨b, off, ha, hb, hc⟩ := h3 h0
  exact ⟨b, off, ha, hb, fun i p hp => by obtain ⟨q, hq, rfl⟩ := map_get hp; exact hc i q hq⟩

theorem EdgesAt.fix {w : World} {P : List Ed} {a : Option Addr} {l : Nat} (h : EdgesAt w P a l) : EdgesAt w (P.map Ed.fix) a l := by
  obtain ⟨h1, h2, h3⟩ := h
  refine ⟨by rw [List.length_map]; exact h1, h2, fun h0 => ?_⟩
  obtain ⟨b, off, ha, hb, hc⟩ := h3 h0
  exact ⟨b, off, ha, hb, fun i p hp => by obtain ⟨q, hq, rfl⟩ := map_get hp; exact hc i q hq⟩

theorem props_back (B : Nat) {w : World} (hB : B ≤ w.heap.size) (hT : Tabs B w) {P : List Pr} {X : List AP} (h : Pair2 (PrIn AnyB w) P X) (hX : RtP X) : (∀ p ∈ P.map Pr.fix, PrOk w p) ∧ prsE (P.map Pr.fix) = 0 := by
  have hx : ∀ p ∈ P, ∃ x ∈ X, PrIn AnyB w p x := fun p hp => pair_mem' h hp
  refine ⟨fun q hq => ?_, (prsE_iff _).2 ⟨?_, by rw [List.length_map, h.1]; exact hX.2.1, fun q hq => ?_⟩⟩
  · obtain ⟨p, hp, rfl⟩ := List.mem_map.1 hq
    obtain ⟨x, hxm, e1, e2, e3, e4, Lt, e5, e6⟩ := hx p hp
    have hck := (hX.2.2 x hxm).2.2
    rw [e5] at hck
    obtain ⟨e, hb, _, hz⟩ := bi_all B w hB hT 6 0 rfl p.k p.n p.s p.a p.l p.c Lt e3 (ck_in hck) (LieA.lies _ _ _ e6)
    rw [hz hck] at hb
    exact ⟨⟨e3, e4⟩, Lt, ck_in hck, LieA.lies _ _ _ e6, hb, fun _ => hck⟩
  · rw [List.map_map, show (Pr.name ∘ Pr.fix) = Pr.name from rfl, pair_map h (g := AP.name) fun p x h => h.1]
    exact hX.1
  · obtain ⟨p, hp, rfl⟩ := List.mem_map.1 hq
    obtain ⟨x, hxm, e1, e2, e3, e4, Lt, e5, e6⟩ := hx p hp
    have := hX.2.2 x hxm
    rw [e5] at this
    exact ⟨by show nm p.name = true; rw [e1]; exact this.1, this.2.1, rfl⟩

/-- A right work lies as a graph that its check takes. -/
theorem gr_back (B : Nat) {w : World} (hB : B ≤ w.heap.size) (hT : Tabs B w) {S : WS} (hS : Rt S) {na : Option Addr} {nl : Nat} {ea : Option Addr} {el : Nat} (hN : NsAt w S.N na nl) (hE : EsAt w S.E ea el) : ∃ N E, GrOk w N E na nl ea el ∧ gE N E S.next = 0 := by
  obtain ⟨N, hA, p1⟩ := hN
  obtain ⟨E, hA', p2⟩ := hE
  have i1 : (N.map Nd.fix).map Nd.id = S.N.map AN.id := by rw [List.map_map, show (Nd.id ∘ Nd.fix) = Nd.id from rfl]; exact pair_map p1 fun p x h => h.1
  have i2 : (E.map Ed.fix).map Ed.id = S.E.map AE.id := by rw [List.map_map, show (Ed.id ∘ Ed.fix) = Ed.id from rfl]; exact pair_map p2 fun p x h => h.1
  have hn : ∀ x ∈ N, ∃ X ∈ S.N, NdIn w x X := fun x hx => pair_mem' p1 hx
  have he : ∀ x ∈ E, ∃ X ∈ S.E, EdIn w x X := fun x hx => pair_mem' p2 hx
  refine ⟨N.map Nd.fix, E.map Ed.fix, ⟨hA.fix, hA'.fix, fun y hy => ?_, fun y hy => ?_⟩, (gE_iff _ _ _).2 ⟨by rw [List.length_map, p1.1]; exact hS.n40, by rw [List.length_map, p2.1]; exact hS.e60, by rw [i1]; exact hS.nri, by rw [i2]; exact hS.eri, hS.pos, hS.next, fun y hy => ?_, fun y hy => ?_, fun y hy => ?_, fun y hy => ?_⟩⟩
  · obtain ⟨x, hx, rfl⟩ := List.mem_map.1 hy
    obtain ⟨X, hX, q1, q2, q3, q4, q5⟩ := hn x hx
    exact ⟨q3, q4.fix, (props_back B hB hT q5 (hS.nds X hX).2).1⟩
  · obtain ⟨x, hx, rfl⟩ := List.mem_map.1 hy
    obtain ⟨X, hX, q1, q2, q3, q4, q5, q6, q7⟩ := he x hx
    exact ⟨q6.fix, (props_back B hB hT q7 (hS.eds X hX).2.2.2).1⟩
  · obtain ⟨x, hx, rfl⟩ := List.mem_map.1 hy
    obtain ⟨X, hX, q1, _⟩ := hn x hx
    show 0 < x.id ∧ x.id < S.next
    rw [q1]
    exact hS.nid X hX
  · obtain ⟨x, hx, rfl⟩ := List.mem_map.1 hy
    obtain ⟨X, hX, q1, _⟩ := he x hx
    show 0 < x.id ∧ x.id < S.next
    rw [q1]
    exact ⟨(hS.eid X hX).1, (hS.eid X hX).2.1⟩
  · obtain ⟨x, hx, rfl⟩ := List.mem_map.1 hy
    obtain ⟨X, hX, q1, q2, q3, q4, q5⟩ := hn x hx
    refine ⟨(labsE_iff _).2 ?_, (props_back B hB hT q5 (hS.nds X hX).2).2⟩
    show RtL x.labs
    rw [q2]
    exact (hS.nds X hX).1
  · obtain ⟨x, hx, rfl⟩ := List.mem_map.1 hy
    obtain ⟨X, hX, q1, q2, q3, q4, q5, q6, q7⟩ := he x hx
    have hd := hS.eds X hX
    have hi := (hS.eid X hX).2.2
    unfold hasN
    rw [i1]
    refine ⟨?_, ?_, ?_, ?_, (props_back B hB hT q7 hd.2.2.2).2⟩
    · rw [← q1] at hi
      exact decide_eq_false hi
    · show nm x.typ = true
      rw [q4]
      exact hd.1
    · have := hd.2.1
      rw [← q2] at this
      exact decide_eq_true this
    · have := hd.2.2.1
      rw [← q3] at this
      exact decide_eq_true this

theorem RtP.ok {P : List AP} (h : RtP P) : P.length ≤ 1000 ∧ ∀ p ∈ P, p.ok :=
  ⟨by have := h.2.1; omega, fun p hp => by
    have hwt := ck_wt 6 _ (h.2.2 p hp).2.2
    have e : 2 * 32 ^ 6 = 2147483648 := by decide
    show wtT p.t ≤ _
    omega⟩

theorem Rt.nok {S : WS} (h : Rt S) : ∀ x ∈ S.N, x.ok := fun x hx => ⟨by have := (h.nds x hx).1.2.1; omega, (h.nds x hx).2.ok.1, (h.nds x hx).2.ok.2⟩
theorem Rt.eok {S : WS} (h : Rt S) : ∀ x ∈ S.E, x.ok := fun x hx => (h.eds x hx).2.2.2.ok

set_option linter.unusedSimpArgs false

theorem nm_size {s : ByteArray} (h : nm s = true) : s.size ≤ 12 := by
  unfold nm at h
  simp only [Bool.and_eq_true, decide_eq_true_eq] at h
  exact h.1.2

theorem rtP_ok {P : List AP} (h : RtP P) : OkP P ∧ NfP P :=
  ⟨⟨h.2.1, fun p hp => nm_size (h.2.2 p hp).1, fun p hp => (h.2.2 p hp).2.2⟩, fun p hp => nm_noF (h.2.2 p hp).1⟩

theorem rt_nodes {S : WS} (h : Rt S) : ∀ X ∈ S.N, OkN X ∧ (∀ s ∈ X.labs, NoF (bS s)) ∧ NfP X.props := fun X hX => by
  have h1 := h.nid X hX
  have h2 := h.nds X hX
  have h3 := h.next
  have h4 := rtP_ok h2.2
  exact ⟨⟨⟨by omega, by omega⟩, h2.1.2.1, fun s hs => nm_size (h2.1.2.2 s hs), h4.1⟩, fun s hs => nm_noF (h2.1.2.2 s hs), h4.2⟩

theorem rt_edges {S : WS} (h : Rt S) : ∀ X ∈ S.E, OkE X ∧ NoF (bS X.typ) ∧ NfP X.props := fun X hX => by
  have h1 := h.eid X hX
  have h2 := h.eds X hX
  have h3 := h.next
  have h4 := rtP_ok h2.2.2.2
  have hn : ∀ z ∈ S.N.map AN.id, 0 < z ∧ z < S.next := fun z hz => by
    obtain ⟨Y, hY, rfl⟩ := List.mem_map.1 hz
    exact h.nid Y hY
  have h5 := hn _ h2.2.1
  have h6 := hn _ h2.2.2.1
  exact ⟨⟨⟨by omega, by omega⟩, ⟨by omega, by omega⟩, ⟨by omega, by omega⟩, nm_size h2.1, h4.1⟩, nm_noF h2.1, h4.2⟩

/-- A right graph's text has a line for each node and each edge, and one ahead. -/
theorem rt_count {S : WS} (h : Rt S) : (txtG S.next S.N S.E).count 10 = 1 + S.N.length + S.E.length :=
  count_txt S.next (fun X hX => (rt_nodes h X hX).2) fun X hX => (rt_edges h X hX).2

/-- GraphText of a right graph, wherever it lies. -/
theorem graphText_rt (B : Nat) {S : WS} (h : Rt S) (na : Option Addr) (nl nc : Nat) (ea : Option Addr) (el ec : Nat) (w : World) (hN : NsAt w S.N na nl) (hE : EsAt w S.E ea el) (hB : B ≤ w.heap.size) (hP : Pow10 B w) :
    Calls Tryz.prog 9 #[.agg #[.slice na nl nc, .slice ea el ec, .int .i64 S.next]] w fun e w' => e = .returned (.tuple #[.string ⟨(txtG S.next S.N S.E).toArray⟩, .bool (fitG S.N S.E && decide ((txtG S.next S.N S.E).length ≤ 40000))]) ∧ Below w.heap.size w w' := by
  have h1 : nl = S.N.length := by obtain ⟨Q, q1, q2⟩ := hN; rw [q1.1, q2.1]
  have h2 : el = S.E.length := by obtain ⟨Q, q1, q2⟩ := hE; rw [q1.1, q2.1]
  have h3 := h.next
  have h4 := h.pos
  exact graphText_any B S.N S.E na nl nc ea el ec S.next w hN hE (by rw [h1]; exact h.n40) (by rw [h2]; exact h.e60) ⟨by omega, by omega⟩ (fun x hx => (rt_nodes h x hx).1) (fun x hx => (rt_edges h x hx).1) hB hP

set_option linter.unusedSimpArgs false

/-- Does the text of a graph fit? -/
def fitS (S : WS) : Bool := fitG S.N S.E && decide ((txtG S.next S.N S.E).length ≤ 40000)

/-- What Print tells of a right graph. -/
def prOut (S : WS) : Value := if fitS S then .tuple #[.string ⟨(txtG S.next S.N S.E).toArray⟩, .int .i64 0] else .tuple #[.string ⟨#[]⟩, .int .i64 2]

theorem wr_new (w : World) : WrAt w.heap.size w.heap.size [] false (w.alloc (.cells #[.pointer none, .slice none 0 0, .bool false] WT)) :=
  .inl ⟨Nat.le_refl _, .slice none 0 0, alloc_new w _, ⟨rfl, .inl ⟨rfl, rfl⟩⟩, by simp [Value.ownBlock]⟩

theorem WrAt.mono {B B' b : Nat} {l : List UInt8} {lg : Bool} {w : World} (h : WrAt B b l lg w) (hb : B' ≤ B) : WrAt B' b l lg w := by
  have one : ∀ p, WrP B b p l lg w → WrP B' b p l lg w := fun p ⟨hB, v, hb', ho, hn⟩ => ⟨Nat.le_trans hb hB, v, hb', ⟨ho.1, ho.2.imp id fun ⟨g, cap, cur, fz, e1, e2, r⟩ => ⟨g, cap, cur, fz, e1, Nat.le_trans hb e2, r⟩⟩, hn⟩
  exact h.imp (one _) (one _)

set_option maxHeartbeats 4000000 in
set_option maxRecDepth 100000 in
theorem print_bad (er : Int) (na : Option Addr) (nl nc : Nat) (ea : Option Addr) (el ec : Nat) (nx : Int) (W : World) (he : er ≠ 0)
    (hC : ∀ W', Below W.heap.size W W' → Calls Tryz.prog 12 #[.agg #[.slice na nl nc, .slice ea el ec, .int .i64 nx]] W' fun e w' => e = .returned (.int .i64 er) ∧ Below W'.heap.size W' w') :
    Calls Tryz.prog 6 #[.agg #[.slice na nl nc, .slice ea el ec, .int .i64 nx]] W fun e w' => e = .returned (.tuple #[.string ⟨#[]⟩, .int .i64 er]) ∧ Below W.heap.size W w' := by
  have b0 : Below W.heap.size W (W.alloc (.cells #[.slice na nl nc, .slice ea el ec, .int .i64 nx] 25)) := (Below.refl _ _).alloc (Nat.le_refl _) _
  have HC := toHid (hC _ b0)
  have HB := toHid b0
  have hne : (er != 0) = true := by simp [he]
  clear hC b0 he
  go_enter Tryz.func6, Tryz.ntmps6
  go_wp2_with fail
  refine HC.out.mono ?_
  rintro e w1 ⟨rfl, k1⟩
  have HK := toHid (HB.out.trans (k1.mono HB.out.size))
  clear k1 HC HB
  go_wp2_with fail
  go_ret2
  exact ⟨rfl, HK.out⟩

set_option maxHeartbeats 8000000 in
set_option maxRecDepth 100000 in
theorem print_good (B0 : Nat) (S : WS) (hR : Rt S) (na : Option Addr) (nl nc : Nat) (ea : Option Addr) (el ec : Nat) (W : World) (hN : NsAt W S.N na nl) (hE : EsAt W S.E ea el) (hB0 : B0 ≤ W.heap.size) (hT : Tabs B0 W) (hP : Pow10 B0 W)
    (hC : ∀ W', Below W.heap.size W W' → Calls Tryz.prog 12 #[.agg #[.slice na nl nc, .slice ea el ec, .int .i64 S.next]] W' fun e w' => e = .returned (.int .i64 0) ∧ Below W'.heap.size W' w') :
    Calls Tryz.prog 6 #[.agg #[.slice na nl nc, .slice ea el ec, .int .i64 S.next]] W fun e w' => e = .returned (prOut S) ∧ Below W.heap.size W w' := by
  have hnl : nl = S.N.length := by obtain ⟨Q, q1, q2⟩ := hN; rw [q1.1, q2.1]
  have hel : el = S.E.length := by obtain ⟨Q, q1, q2⟩ := hE; rw [q1.1, q2.1]
  have h3 := hR.next
  have h4 := hR.pos
  have hnx : I64 S.next := ⟨by omega, by omega⟩
  have HGR : Hid (∀ (b : Nat) (w : World), Below W.heap.size W w → WrAt W.heap.size b [] false w → Calls Tryz.prog 13 #[.pointer (some ⟨b, 0, none⟩), .agg #[.slice na nl nc, .slice ea el ec, .int .i64 S.next]] w fun e w' => (∃ v, e = .returned v) ∧ WrAt W.heap.size b (outG S.next S.N S.E) (!fitG S.N S.E) w' ∧ WKeep W.heap.size b w w') := fun b w k hA =>
    writerGraph_any B0 S.N S.E na nl nc ea el ec S.next b W w hN hE (by rw [hnl]; exact hR.n40) (by rw [hel]; exact hR.e60) hnx (fun x hx => (rt_nodes hR x hx).1) (fun x hx => (rt_edges hR x hx).1) hB0 hT hP k hA
  have b0 : Below W.heap.size W (W.alloc (.cells #[.slice na nl nc, .slice ea el ec, .int .i64 S.next] 25)) := (Below.refl _ _).alloc (Nat.le_refl _) _
  have HX := toHid (alloc_new W (.cells #[.slice na nl nc, .slice ea el ec, .int .i64 S.next] 25))
  have HC := toHid (hC _ b0)
  have HB := toHid b0
  have hne : ((0 : Int) != 0) = false := rfl
  have hlen : (outG S.next S.N S.E).length ≤ 30 + 100 * LW := by
    have h1 := head_len hnx
    have h2 := flat_len (f := outN) (k := LW) (L := S.N) fun x hx => outN_len (rt_nodes hR x hx).1
    have h5 := flat_len (f := outE) (k := LW) (L := S.E) fun x hx => outE_len (rt_edges hR x hx).1
    have h6 := Nat.mul_le_mul_right LW hR.n40
    have h7 := Nat.mul_le_mul_right LW hR.e60
    unfold outG outsN outsE
    rw [List.length_append, List.length_append]
    omega
  have HLEN := toHid hlen
  clear hC b0 hN hE hT hP hnl hel h3 h4 hR hlen hnx
  go_enter Tryz.func6, Tryz.ntmps6
  go_wp2_with fail
  refine HC.out.mono ?_
  rintro e w1 ⟨rfl, k1⟩
  have HB1 := toHid (HB.out.trans (k1.mono HB.out.size))
  have hx1 := (k1.block _ (lt_blkX HX.out)).trans HX.out
  have k2 : Below w1.heap.size w1 (w1.alloc (.cells #[.pointer none, .slice none 0 0, .bool false] WT)) := (Below.refl _ _).alloc (Nat.le_refl _) _
  have HX2 := toHid ((k2.block _ (lt_blkX hx1)).trans hx1)
  have HB2 := toHid (HB1.out.trans (k2.mono HB1.out.size))
  have HA2 := toHid ((wr_new w1).mono HB1.out.size)
  have HG2 := toHid (HGR.out _ _ HB2.out HA2.out)
  clear k1 k2 hx1 HC HB HX HB1 HA2 HGR
  go_upto_region 5 with fail
  generalize w1.alloc (.cells #[.pointer none, .slice none 0 0, .bool false] 42) = W2 at HX2 HB2 HG2 ⊢
  generalize w1.heap.size = b at HG2 ⊢
  have x0 := cell_of HX2.out 0
  have x1 := cell_of HX2.out 1
  have x2 := cell_of HX2.out 2
  simp at x0 x1 x2
  have hbl := lt_blkX HX2.out
  go_wp2_with fail
  refine HG2.out.mono ?_
  rintro e w3 ⟨⟨v, rfl⟩, hA3, hK3⟩
  have HA3 := toHid hA3
  have HB3 := toHid (HB2.out.trans hK3.low)
  obtain ⟨p2, f2⟩ := hA3.long
  have hbl3 := hA3.lt
  clear hA3 hK3 HG2 x0 x1 x2 hbl HX2
  obtain ⟨OG, hOG⟩ : ∃ OG, OG = outG S.next S.N S.E := ⟨_, rfl⟩
  rw [← hOG] at HA3 HLEN
  have HL3 := toHid (lenW _ _ _ _ _ HA3.out)
  have hlo := HLEN.out
  cases hf : fitG S.N S.E with
  | false =>
    rw [hf] at p2
    have HE : Hid (prOut S = .tuple #[.string ⟨#[]⟩, .int .i64 2]) := by show _ = _; simp [prOut, fitS, hf]
    clear hf hOG
    simp only [Bool.not_false] at p2
    go_wp2_with fail
    go_ret2
    exact ⟨congrArg Ending.returned HE.out.symm, HB3.out⟩
  | true =>
    rw [hf] at p2
    simp only [Bool.not_true] at p2
    have hT : OG = txtG S.next S.N S.E := hOG.trans (outG_fit hf)
    by_cases h4 : OG.length ≤ 40000
    · have HE : Hid (prOut S = .tuple #[.string ⟨OG.toArray⟩, .int .i64 0]) := by show _ = _; rw [hT] at h4 ⊢; simp [prOut, fitS, hf, h4]
      have h4i : ¬ (40000 : Int) < OG.length := by omega
      have hne2 : OG ≠ [] := by
        rw [hT]
        unfold txtG
        simp
      have HS := toHid (strW _ _ _ _ _ HA3.out hne2)
      clear hf hOG hT hne2
      go_wp2_with fail
      refine HL3.out.mono ?_
      rintro e w4 ⟨rfl, rfl⟩
      go_wp2_with fail
      refine HS.out.mono ?_
      rintro e w5 ⟨rfl, k5⟩
      go_wp2_with fail
      go_ret2
      exact ⟨congrArg Ending.returned HE.out.symm, HB3.out.trans k5⟩
    · have HE : Hid (prOut S = .tuple #[.string ⟨#[]⟩, .int .i64 2]) := by show _ = _; rw [hT] at h4; simp [prOut, fitS, hf, h4]
      have h4i : (40000 : Int) < OG.length := by omega
      clear hf hOG hT
      go_wp2_with fail
      refine HL3.out.mono ?_
      rintro e w4 ⟨rfl, rfl⟩
      go_wp2_with fail
      go_ret2
      exact ⟨congrArg Ending.returned HE.out.symm, HB3.out⟩

set_option linter.unusedSimpArgs false

theorem nmFrom_no {c : UInt8} (h1 : letN (c.toNat : Int) = false) (h2 : digN (c.toNat : Int) = false) : ∀ (i : Nat) (l : List UInt8), nmFrom i l = true → c ∉ l
  | _, [], _ => List.not_mem_nil
  | i, d :: r, h => by
    unfold nmFrom at h
    simp only [Bool.and_eq_true] at h
    intro q
    rcases List.mem_cons.1 q with rfl | q
    · have h3 := h.1
      simp [h1, h2] at h3
    · exact nmFrom_no h1 h2 (i + 1) r h.2 q

theorem nm_no {c : UInt8} (h1 : letN (c.toNat : Int) = false) (h2 : digN (c.toNat : Int) = false) {s : ByteArray} (h : nm s = true) : c ∉ bS s := by
  unfold nm at h
  simp only [Bool.and_eq_true] at h
  exact nmFrom_no h1 h2 0 _ h.2

theorem rdP_of {p : AP} (h : nm p.name = true) (hc : Ck 6 p.t) : RdP p := ⟨nm_no (by decide) (by decide) h, nm_no (by decide) (by decide) h, nm_size h, hc⟩

theorem rdN_of {S : WS} (h : Rt S) (hf : fitG S.N S.E = true) : ∀ X ∈ S.N, RdN X := fun X hX => by
  have h1 := (rt_nodes h X hX).1
  have h2 := h.nds X hX
  unfold fitG at hf
  simp only [Bool.and_eq_true] at hf
  exact ⟨h1.id, h1.labs, fun s hs => ⟨nm_no (by decide) (by decide) (h2.1.2.2 s hs), h1.lab s hs⟩, h1.props.1, fun p hp => rdP_of (h2.2.2.2 p hp).1 (h1.props.2.2 p hp), fun p hp => nm_no (by decide) (by decide) (h2.2.2.2 p hp).1, List.all_eq_true.1 hf.1 X hX⟩

theorem rdE_of {S : WS} (h : Rt S) (hf : fitG S.N S.E = true) : ∀ X ∈ S.E, RdE X := fun X hX => by
  have h1 := (rt_edges h X hX).1
  have h2 := h.eds X hX
  unfold fitG at hf
  simp only [Bool.and_eq_true] at hf
  exact ⟨h1.id, h1.frm, h1.dst, ⟨nm_no (by decide) (by decide) h2.1, h1.typ⟩, h1.props.1, fun p hp => rdP_of (h2.2.2.2.2.2 p hp).1 (h1.props.2.2 p hp), List.all_eq_true.1 hf.2 X hX⟩

theorem ln_node (X : AN) : txN X 0 ++ [10] = lnN X := by
  unfold lnN endL
  show wNode ++ ([32] ++ (Lib.itoa X.id ++ (labsL X.labs ++ endP X.props))) ++ [10] = _
  simp [wNode]

theorem ln_edge (X : AE) : txE X 0 ++ [10] = lnE X := by
  unfold lnE endL
  show wEdge ++ ([32] ++ (Lib.itoa X.id ++ ([32] ++ (Lib.itoa X.frm ++ ([32] ++ (Lib.itoa X.dst ++ ([32, 58] ++ (bS X.typ ++ endP X.props)))))))) ++ [10] = _
  simp [wEdge]

theorem txL_txtG (nx : Int) (N : List AN) (E : List AE) : txL (LS nx N E) = txtG nx N E := by
  unfold txL LS txtG lnsN lnsE headL
  rw [List.map_cons, List.flatten_cons, List.map_append, List.flatten_append, List.map_map, List.map_map]
  have e1 : ((fun x => x ++ [10]) ∘ fun X => txN X 0) = lnN := funext ln_node
  have e2 : ((fun x => x ++ [10]) ∘ fun X => txE X 0) = lnE := funext ln_edge
  rw [e1, e2]
  simp [wNext]

theorem not_ten {l : List UInt8} (h : NoF l) : (10 : UInt8) ∉ l := List.count_eq_zero.1 h

theorem LS_no {S : WS} (h : Rt S) : ∀ l ∈ LS S.next S.N S.E, (10 : UInt8) ∉ l := by
  intro l hl
  unfold LS at hl
  rcases List.mem_cons.1 hl with rfl | hl
  · exact not_ten (NoF.app (a := wNext) rfl (NoF.app (a := [32]) rfl (NoF.app (noF_itoa _) (by exact rfl))))
  · rcases List.mem_append.1 hl with hl | hl
    · obtain ⟨X, hX, rfl⟩ := List.mem_map.1 hl
      obtain ⟨-, h1, h2⟩ := rt_nodes h X hX
      have h3 : NoF (labsL X.labs) := noF_flat fun s hs => NoF.app (by exact rfl) (h1 s hs)
      exact not_ten (NoF.app (a := wNode) rfl (NoF.app (a := [32]) rfl (NoF.app (noF_itoa _) (NoF.app h3 (noF_endP h2)))))
    · obtain ⟨X, hX, rfl⟩ := List.mem_map.1 hl
      obtain ⟨-, h1, h2⟩ := rt_edges h X hX
      exact not_ten (NoF.app (a := wEdge) rfl (NoF.app (a := [32]) rfl (NoF.app (noF_itoa _) (NoF.app (a := [32]) rfl (NoF.app (noF_itoa _) (NoF.app (a := [32]) rfl (NoF.app (noF_itoa _) (NoF.app (a := [32, 58]) rfl (NoF.app h1 (noF_endP h2))))))))))

theorem txL_drop (l : List (List UInt8)) (k : Nat) : (txL (l.drop k)).length ≤ (txL l).length := by
  have e : txL l = txL (l.take k) ++ txL (l.drop k) := by
    unfold txL
    rw [← List.flatten_append, ← List.map_append, List.take_append_drop]
  rw [e, List.length_append]
  omega

set_option maxHeartbeats 8000000 in
set_option maxRecDepth 100000 in
theorem parse_good (B0 : Nat) (S : WS) (hR : Rt S) (hf : fitS S = true) (w : World) (hB0 : B0 ≤ w.heap.size) (hT : Tabs B0 w) (hP : Pow10 B0 w) :
    Calls Tryz.prog 10 #[.string ⟨(txtG S.next S.N S.E).toArray⟩] w fun e w' => (∃ na nc ea ec, e = .returned (.tuple #[.agg #[.slice na S.N.length nc, .slice ea S.E.length ec, .int .i64 S.next], .int .i64 0, .int .i64 0]) ∧ NsAt w' S.N na S.N.length ∧ EsAt w' S.E ea S.E.length) ∧ Below w.heap.size w w' := by
  have hf2 : fitG S.N S.E = true ∧ (txtG S.next S.N S.E).length ≤ 40000 := by
    unfold fitS at hf
    simpa using hf
  have h3 := hR.next
  have h4 := hR.pos
  have hnx : I64 S.next := ⟨by omega, by omega⟩
  have HRA : Hid (∀ W, Below w.heap.size w W → Calls Tryz.prog 24 #[.string (bt (txtG S.next S.N S.E))] W fun e w' => (∃ na nc ea ec, e = .returned (.tuple #[.agg #[.slice na S.N.length nc, .slice ea S.E.length ec, .int .i64 S.next], .int .i64 0, .bool true]) ∧ ∀ w'' : World, w'.heap.size ≤ w''.heap.size → (∀ j, W.heap.size ≤ j → j < w'.heap.size → w''.heap[j]? = w'.heap[j]?) → NsAt w'' S.N na S.N.length ∧ EsAt w'' S.E ea S.E.length) ∧ Below W.heap.size W w') := fun W k => by
    have h := readAll_ok B0 S.next S.N S.E W hnx (rdN_of hR hf2.1) (rdE_of hR hf2.1) (by have := hR.n40; omega) (by have := hR.e60; omega) (LS_no hR) (fun j => by have := txL_drop (LS S.next S.N S.E) j; rw [txL_txtG] at this; omega) (Nat.le_trans hB0 k.size) (hT.below (k.mono hB0)) (hP.below (k.mono hB0))
    rw [txL_txtG] at h
    exact h
  have HCK : Hid (∀ (W : World) (na : Option Addr) (nc : Nat) (ea : Option Addr) (ec : Nat), Below w.heap.size w W → NsAt W S.N na S.N.length → EsAt W S.E ea S.E.length → Calls Tryz.prog 12 #[.agg #[.slice na S.N.length nc, .slice ea S.E.length ec, .int .i64 S.next]] W fun e w' => e = .returned (.int .i64 0) ∧ Below W.heap.size W w') := fun W na nc ea ec k hN hE => by
    obtain ⟨N, E, hG, h0⟩ := gr_back B0 (Nat.le_trans hB0 k.size) (hT.below (k.mono hB0)) hR hN hE
    have h := check_ok hG nc ec S.next W (Below.refl _ _)
    rw [h0] at h
    exact h
  have hsz : ¬ (40000 : Int) < (bt (txtG S.next S.N S.E)).size := by rw [bt_size]; omega
  show Calls _ _ #[.string (bt (txtG S.next S.N S.E))] _ _
  generalize bt (txtG S.next S.N S.E) = L0 at HRA hsz ⊢
  obtain ⟨nx, hnx2⟩ : ∃ nx, nx = S.next := ⟨_, rfl⟩
  obtain ⟨nl, hnl⟩ : ∃ nl, nl = S.N.length := ⟨_, rfl⟩
  obtain ⟨el, hel⟩ : ∃ el, el = S.E.length := ⟨_, rfl⟩
  rw [← hnx2, ← hnl, ← hel] at HRA HCK
  rw [← hnx2, ← hnl, ← hel]
  have b0 : Below w.heap.size w (w.alloc (.cells #[.slice none 0 0, .slice none 0 0, .int .i64 0] 25)) := (Below.refl _ _).alloc (Nat.le_refl _) _
  have HX0 := toHid (alloc_new w (.cells #[.slice none 0 0, .slice none 0 0, .int .i64 0] 25))
  have HB0 := toHid b0
  have hs0 : (w.alloc (.cells #[.slice none 0 0, .slice none 0 0, .int .i64 0] 25)).heap.size = w.heap.size + 1 := by simp
  have HS0 := toHid hs0
  clear hR hf hf2 h3 h4 hnx hB0 hT hP b0 hs0 hnx2 hnl hel
  go_enter Tryz.func10, Tryz.ntmps10
  go_upto_region 1 with fail
  generalize w.alloc (.cells #[.slice none 0 0, .slice none 0 0, .int .i64 0] 25) = W0 at HX0 HB0 HS0 ⊢
  go_wp2_with fail
  refine (HRA.out _ HB0.out).mono ?_
  rintro e w1 ⟨⟨na, nc, ea, ec, rfl, hrd⟩, k1⟩
  have HX1 := toHid (below_cellsX k1 HX0.out)
  have HB1 := toHid (HB0.out.trans (k1.mono HB0.out.size))
  have HRD : Hid (∀ w'' : World, w1.heap.size ≤ w''.heap.size → (∀ j, w.heap.size + 1 ≤ j → j < w1.heap.size → w''.heap[j]? = w1.heap[j]?) → NsAt w'' S.N na nl ∧ EsAt w'' S.E ea el) := fun w'' h1 h2 => hrd w'' h1 fun j h5 h6 => h2 j (by rw [← HS0.out]; exact h5) h6
  clear hrd k1 HRA HX0 HB0 HS0
  have x0 := cell_of HX1.out 0
  have x1 := cell_of HX1.out 1
  have x2 := cell_of HX1.out 2
  have f0 := free_of HX1.out 0
  have f1 := free_of HX1.out 1
  have f2 := free_of HX1.out 2
  simp at x0 x1 x2
  have hbl := lt_blkX HX1.out
  go_upto_region 4 with fail
  change Code.wp _ _ _ _ (putL w1 w.heap.size 0 [.slice na nl nc, .slice ea el ec, .int .i64 nx])
  have HX2 : Hid ((putL w1 w.heap.size 0 [.slice na nl nc, .slice ea el ec, .int .i64 nx]).heap[w.heap.size]? = some (.cells #[.slice na nl nc, .slice ea el ec, .int .i64 nx] 25 (0, 0))) := putL_here [.slice na nl nc, .slice ea el ec, .int .i64 nx] 0 w1 _ HX1.out
  have HS2 : Hid (w1.heap.size = (putL w1 w.heap.size 0 [.slice na nl nc, .slice ea el ec, .int .i64 nx]).heap.size) := (putL_size _ _ _ _).symm
  have HO2 : Hid (∀ j, j ≠ w.heap.size → (putL w1 w.heap.size 0 [.slice na nl nc, .slice ea el ec, .int .i64 nx]).heap[j]? = w1.heap[j]?) := fun j h => putL_other _ _ 0 w1 j h
  have HB2 := toHid (HB1.out.trans (putL_bel w.heap.size [.slice na nl nc, .slice ea el ec, .int .i64 nx] 0 w1))
  generalize putL w1 w.heap.size 0 [.slice na nl nc, .slice ea el ec, .int .i64 nx] = W2 at HX2 HS2 HO2 HB2 ⊢
  have hr2 := HRD.out W2 (Nat.le_of_eq HS2.out) fun j h1 h2 => HO2.out j (by omega)
  have HC2 := toHid (HCK.out W2 na nc ea ec HB2.out hr2.1 hr2.2)
  clear x0 x1 x2 f0 f1 f2 hbl hr2
  have x0 := cell_of HX2.out 0
  have x1 := cell_of HX2.out 1
  have x2 := cell_of HX2.out 2
  simp at x0 x1 x2
  have hbl := lt_blkX HX2.out
  go_wp2_with fail
  refine HC2.out.mono ?_
  rintro e w3 ⟨rfl, k3⟩
  have HX3 := toHid (below_cellsX k3 HX2.out)
  have HB3 := toHid (HB2.out.trans (k3.mono HB2.out.size))
  have HK3 := toHid k3
  clear x0 x1 x2 hbl k3 HC2
  have x0 := cell_of HX3.out 0
  have x1 := cell_of HX3.out 1
  have x2 := cell_of HX3.out 2
  have f0 := free_of HX3.out 0
  have f1 := free_of HX3.out 1
  have f2 := free_of HX3.out 2
  simp at x0 x1 x2
  have hbl := lt_blkX HX3.out
  go_wp2_with fail
  change bodyPost _ _ _ Exit.ret _ (putL w3 w.heap.size 0 [.slice na nl nc, .slice ea el ec, .int .i64 nx])
  have hz := putL_here [.slice na nl nc, .slice ea el ec, .int .i64 nx] 0 w3 _ HX3.out
  have hz' : (putL w3 w.heap.size 0 [.slice na nl nc, .slice ea el ec, .int .i64 nx]).heap[w.heap.size]? = some (.cells #[.slice na nl nc, .slice ea el ec, .int .i64 nx] 25 (0, 0)) := hz
  have hb4 := HB3.out.trans (putL_bel w.heap.size [.slice na nl nc, .slice ea el ec, .int .i64 nx] 0 w3)
  have hr4 := HRD.out (putL w3 w.heap.size 0 [.slice na nl nc, .slice ea el ec, .int .i64 nx]) (by rw [putL_size]; have := HK3.out.size; have := HS2.out; omega) fun j h1 h2 => by
    rw [putL_other _ _ 0 w3 j (by omega), HK3.out.block j (by have := HS2.out; omega)]
    exact HO2.out j (by omega)
  generalize putL w3 w.heap.size 0 [.slice na nl nc, .slice ea el ec, .int .i64 nx] = Z at hz' hb4 hr4 ⊢
  have z0 := cell_of hz' 0
  have z1 := cell_of hz' 1
  have z2 := cell_of hz' 2
  simp at z0 z1 z2
  exact bodyPost_ret (v := .tuple #[.agg #[.slice na nl nc, .slice ea el ec, .int .i64 nx], .int .i64 0, .int .i64 0]) (by simp [results, Tryz.results10, go_sem, z0, z1, z2]) rfl ⟨⟨na, nc, ea, ec, rfl, hr4.1, hr4.2⟩, hb4⟩
end Go.Proofs.YthbbapimedlocaaGreatDoor
