/-
  What is proved here: what the texts TTake, KkPure, KpPure, KkOut prove, in one text.
-/
import Derived.Test.YtldpionmmplncaaDoorQOAH
import Derived.Test.YtldpionmmplncaaDoorQOAA
import Derived.Test.YtldpionmmplncaaDoorQOAF
import Derived.Maps.AppendAt
import Derived.OwnWalk
import Derived.Lib.AppendStr
namespace Go.Proofs.YtldpionmmplncaaDoor
open Go.RowKit
set_option linter.unusedVariables false

theorem pair_map {α β γ : Type} {R : α → β → Prop} {f : α → γ} {g : β → γ} {P : List α} {L : List β} (h : Pair2 R P L) (hR : ∀ p x, R p x → f p = g x) : P.map f = L.map g := by
  apply List.ext_getElem?
  intro i
  rw [List.getElem?_map, List.getElem?_map]
  cases hx : P[i]? with
  | none =>
    have : L[i]? = none := by
      rw [List.getElem?_eq_none_iff] at hx ⊢
      rw [← h.1]
      exact hx
    rw [this]
    rfl
  | some x =>
    obtain ⟨y, hy, hxy⟩ := h.left hx
    rw [hy]
    show some (f x) = some (g y)
    rw [hR x y hxy]

theorem pair_mem {α β : Type} {R : α → β → Prop} {P : List α} {L : List β} (h : Pair2 R P L) {x : β} (hx : x ∈ L) : ∃ p ∈ P, R p x := by
  obtain ⟨i, hi⟩ := List.getElem?_of_mem hx
  obtain ⟨p, hp, hR⟩ := h.right hi
  exact ⟨p, List.mem_of_getElem? hp, hR⟩

theorem pair_mem' {α β : Type} {R : α → β → Prop} {P : List α} {L : List β} (h : Pair2 R P L) {p : α} (hp : p ∈ P) : ∃ x ∈ L, R p x := by
  obtain ⟨i, hi⟩ := List.getElem?_of_mem hp
  obtain ⟨x, hx, hR⟩ := h.left hi
  exact ⟨x, List.mem_of_getElem? hx, hR⟩

theorem props_right {w : World} {P : List Pr} {pa : Option Addr} {pl : Nat} (hP : PropsAt w P pa pl) (hO : ∀ p ∈ P, PrOk w p) (h0 : prsE P = 0) : ∃ X : List AP, Pair2 (PrIn AnyB w) P X ∧ RtP X := by
  obtain ⟨g1, g2, g3⟩ := (prsE_iff P).1 h0
  obtain ⟨X, hX⟩ := pair_choose (R := fun p x => PrIn AnyB w p x ∧ nm x.name = true ∧ kT x.t ≠ 0 ∧ Ck 6 x.t) P (fun p hp => by
    obtain ⟨⟨h1, h2⟩, L, _, h3, _, h4⟩ := hO p hp
    have hck := h4 (g3 p hp).2.2
    obtain ⟨i, hi⟩ := List.getElem?_of_mem hp
    have hil := (List.getElem?_eq_some_iff.1 hi).1
    obtain ⟨b, off, _, _, hc⟩ := hP.2.2 (by rw [hP.1]; omega)
    exact ⟨⟨p.name, .node p.k p.n p.s L⟩, ⟨rfl, (hc i p hi).1, h1, h2, L, rfl, LiesS.lie _ _ _ h3⟩, (g3 p hp).1, (g3 p hp).2.1, hck⟩)
  refine ⟨X, hX.mono fun _ _ _ _ h => h.1, ?_, by rw [← hX.1]; exact g2, fun x hx => ?_⟩
  · rw [← pair_map hX (f := Pr.name) fun p x h => h.1.1]
    exact g1
  · obtain ⟨p, _, h⟩ := pair_mem hX hx
    exact h.2

theorem nodes_right {w : World} {N : List Nd} (hO : ∀ x ∈ N, NdOk w x) (h0 : ∀ x ∈ N, labsE x.labs = 0 ∧ prsE x.props = 0) : ∃ X : List AN, Pair2 (NdIn w) N X ∧ ∀ x ∈ X, RtL x.labs ∧ RtP x.props := by
  obtain ⟨X, hX⟩ := pair_choose (R := fun p x => NdIn w p x ∧ RtL x.labs ∧ RtP x.props) N (fun p hp => by
    obtain ⟨h1, h2, h3⟩ := hO p hp
    obtain ⟨Y, hY, hok⟩ := props_right h2 h3 (h0 p hp).2
    exact ⟨⟨p.id, p.labs, Y⟩, ⟨rfl, rfl, h1, h2, hY⟩, (labsE_iff _).1 (h0 p hp).1, hok⟩)
  refine ⟨X, hX.mono fun _ _ _ _ h => h.1, fun x hx => ?_⟩
  obtain ⟨p, _, h⟩ := pair_mem hX hx
  exact h.2

theorem edges_right {w : World} {E : List Ed} {ea : Option Addr} {el : Nat} (hA : EdgesAt w E ea el) (hO : ∀ x ∈ E, EdOk w x) (h0 : ∀ x ∈ E, prsE x.props = 0) : ∃ X : List AE, Pair2 (EdIn w) E X ∧ ∀ x ∈ X, RtP x.props := by
  obtain ⟨X, hX⟩ := pair_choose (R := fun p x => EdIn w p x ∧ RtP x.props) E (fun p hp => by
    obtain ⟨h2, h3⟩ := hO p hp
    obtain ⟨Y, hY, hok⟩ := props_right h2 h3 (h0 p hp)
    obtain ⟨i, hi⟩ := List.getElem?_of_mem hp
    have hil := (List.getElem?_eq_some_iff.1 hi).1
    obtain ⟨b, off, _, _, hc⟩ := hA.2.2 (by rw [hA.1]; omega)
    exact ⟨⟨p.id, p.frm, p.dst, p.typ, Y⟩, ⟨rfl, rfl, rfl, rfl, (hc i p hi).1, h2, hY⟩, hok⟩)
  refine ⟨X, hX.mono fun _ _ _ _ h => h.1, fun x hx => ?_⟩
  obtain ⟨p, _, h⟩ := pair_mem hX hx
  exact h.2

/-- A graph that its check takes, by what it holds, is right. -/
theorem gr_right {w : World} {N : List Nd} {E : List Ed} {na : Option Addr} {nl : Nat} {ea : Option Addr} {el : Nat} {next : Int} (h : GrOk w N E na nl ea el) (h0 : gE N E next = 0) :
    ∃ XN XE, NsAt w XN na nl ∧ EsAt w XE ea el ∧ ∀ made, Rt ⟨XN, XE, next, made⟩ := by
  obtain ⟨h1, h2, h3, h4⟩ := h
  have r := (gE_iff N E next).1 h0
  obtain ⟨XN, p1, o1⟩ := nodes_right h3 r.nds
  obtain ⟨XE, p2, o2⟩ := edges_right h2 h4 (fun x hx => (r.eds x hx).2.2.2.2)
  have e1 : N.map Nd.id = XN.map AN.id := pair_map p1 fun p x h => h.1
  have e2 : E.map Ed.id = XE.map AE.id := pair_map p2 fun p x h => h.1
  refine ⟨XN, XE, ⟨N, h1, p1⟩, ⟨E, h2, p2⟩, fun made => ⟨by show XN.length ≤ 40; rw [← p1.1]; exact r.n40, by show XE.length ≤ 60; rw [← p2.1]; exact r.e60, by show Rise (XN.map AN.id); rw [← e1]; exact r.nri, by show Rise (XE.map AE.id); rw [← e2]; exact r.eri, r.pos, r.most, fun X hX => ?_, fun X hX => ?_, o1, fun X hX => ?_⟩⟩
  · obtain ⟨p, hp, h⟩ := pair_mem p1 hX
    rw [← h.1]
    exact r.nid p hp
  · obtain ⟨p, hp, h⟩ := pair_mem p2 hX
    have hno := (r.eds p hp).1
    unfold hasN at hno
    rw [e1] at hno
    rw [← h.1]
    exact ⟨(r.eid p hp).1, (r.eid p hp).2, by simpa using hno⟩
  · obtain ⟨p, hp, h⟩ := pair_mem p2 hX
    have hq := r.eds p hp
    unfold hasN at hq
    rw [e1] at hq
    rw [← h.2.1, ← h.2.2.1, ← h.2.2.2.1]
    exact ⟨hq.2.1, by simpa using hq.2.2.1, by simpa using hq.2.2.2.1, o2 X hX⟩

theorem inL_of : ∀ {L : List T}, (∀ t ∈ L, InT t) → InL L
  | [], _ => by unfold InL; trivial
  | t :: ts, h => by unfold InL; exact ⟨h t (List.mem_cons_self ..), inL_of fun u hu => h u (List.mem_cons_of_mem _ hu)⟩

theorem ck_in : ∀ {d : Nat} {t : T}, Ck d t → InT t := by
  intro d t h
  induction h with
  | null d => unfold InT InL; exact ⟨by omega, trivial⟩
  | bool d n h => unfold InT InL; exact ⟨by omega, trivial⟩
  | int d n h0 h1 => unfold InT InL; exact ⟨⟨h0, h1⟩, trivial⟩
  | text d s h0 h1 => unfold InT InL; exact ⟨by omega, trivial⟩
  | list d L h0 h1 ih => unfold InT; exact ⟨by omega, inL_of ih⟩

def Pr.fix (p : Pr) : Pr := ⟨p.name, p.k, p.n, p.s, p.a, p.l, p.c, 0⟩
def Nd.fix (x : Nd) : Nd := ⟨x.id, x.labs, x.la, x.ll, x.lc, x.props.map Pr.fix, x.pa, x.pl, x.pc⟩
def Ed.fix (x : Ed) : Ed := ⟨x.id, x.frm, x.dst, x.typ, x.props.map Pr.fix, x.pa, x.pl, x.pc⟩

theorem map_get {α β : Type} {f : α → β} {L : List α} {i : Nat} {y : β} (h : (L.map f)[i]? = some y) : ∃ x, L[i]? = some x ∧ f x = y := by
  rw [List.getElem?_map] at h
  cases hx : L[i]? with
  | none => rw [hx] at h; cases h
  | some x => rw [hx] at h; exact ⟨x, rfl, by injection h⟩

theorem PropsAt.fix {w : World} {P : List Pr} {a : Option Addr} {l : Nat} (h : PropsAt w P a l) : PropsAt w (P.map Pr.fix) a l := by
  obtain ⟨h1, h2, h3⟩ := h
  refine ⟨by rw [List.length_map]; exact h1, h2, fun h0 => ?_⟩
  obtain ⟨b, off, ha, hb, hc⟩ := h3 h0
  exact ⟨b, off, ha, hb, fun i p hp => by obtain ⟨q, hq, rfl⟩ := map_get hp; exact hc i q hq⟩

theorem NodesAt.fix {w : World} {P : List Nd} {a : Option Addr} {l : Nat} (h : NodesAt w P a l) : NodesAt w (P.map Nd.fix) a l := by
  obtain ⟨h1, h2, h3⟩ := h
  refine ⟨by rw [List.length_map]; exact h1, h2, fun h0 => ?_⟩
  obtain ⟨b, off, ha, hb, hc⟩ := h3 h0
  exact ⟨b, off, ha, hb, fun i p hp => by obtain ⟨q, hq, rfl⟩ := map_get hp; exact hc i q hq⟩

theorem EdgesAt.fix {w : World} {P : List Ed} {a : Option Addr} {l : Nat} (h : EdgesAt w P a l) : EdgesAt w (P.map Ed.fix) a l := by
  obtain ⟨h1, h2, h3⟩ := h
  refine ⟨by rw [List.length_map]; exact h1, h2, fun h0 => ?_⟩
  obtain ⟨b, off, ha, hb, hc⟩ := h3 h0
  exact ⟨b, off, ha, hb, fun i p hp => by obtain ⟨q, hq, rfl⟩ := map_get hp; exact hc i q hq⟩

theorem props_back (B : Nat) {w : World} (hB : B ≤ w.heap.size) (hT : Tabs B w) {P : List Pr} {X : List AP} (h : Pair2 (PrIn AnyB w) P X) (hX : RtP X) : (∀ p ∈ P.map Pr.fix, PrOk w p) ∧ prsE (P.map Pr.fix) = 0 := by
  have hx : ∀ p ∈ P, ∃ x ∈ X, PrIn AnyB w p x := fun p hp => pair_mem' h hp
  refine ⟨fun q hq => ?_, (prsE_iff _).2 ⟨?_, by rw [List.length_map, h.1]; exact hX.2.1, fun q hq => ?_⟩⟩
  · obtain ⟨p, hp, rfl⟩ := List.mem_map.1 hq
    obtain ⟨x, hxm, e1, e2, e3, e4, Lt, e5, e6⟩ := hx p hp
    have hck := (hX.2.2 x hxm).2.2
    rw [e5] at hck
    obtain ⟨e, hb, _, hz⟩ := bi_all B w hB hT 6 0 rfl p.k p.n p.s p.a p.l p.c Lt e3 (ck_in hck) (LieA.lies _ _ _ e6)
    rw [hz hck] at hb
    exact ⟨⟨e3, e4⟩, Lt, ck_in hck, LieA.lies _ _ _ e6, hb, fun _ => hck⟩
  · rw [List.map_map, show (Pr.name ∘ Pr.fix) = Pr.name from rfl, pair_map h (g := AP.name) fun p x h => h.1]
    exact hX.1
  · obtain ⟨p, hp, rfl⟩ := List.mem_map.1 hq
    obtain ⟨x, hxm, e1, e2, e3, e4, Lt, e5, e6⟩ := hx p hp
    have := hX.2.2 x hxm
    rw [e5] at this
    exact ⟨by show nm p.name = true; rw [e1]; exact this.1, this.2.1, rfl⟩

/-- A right work lies as a graph that its check takes. -/
theorem gr_back (B : Nat) {w : World} (hB : B ≤ w.heap.size) (hT : Tabs B w) {S : WS} (hS : Rt S) {na : Option Addr} {nl : Nat} {ea : Option Addr} {el : Nat} (hN : NsAt w S.N na nl) (hE : EsAt w S.E ea el) : ∃ N E, GrOk w N E na nl ea el ∧ gE N E S.next = 0 := by
  obtain ⟨N, hA, p1⟩ := hN
  obtain ⟨E, hA', p2⟩ := hE
  have i1 : (N.map Nd.fix).map Nd.id = S.N.map AN.id := by rw [List.map_map, show (Nd.id ∘ Nd.fix) = Nd.id from rfl]; exact pair_map p1 fun p x h => h.1
  have i2 : (E.map Ed.fix).map Ed.id = S.E.map AE.id := by rw [List.map_map, show (Ed.id ∘ Ed.fix) = Ed.id from rfl]; exact pair_map p2 fun p x h => h.1
  have hn : ∀ x ∈ N, ∃ X ∈ S.N, NdIn w x X := fun x hx => pair_mem' p1 hx
  have he : ∀ x ∈ E, ∃ X ∈ S.E, EdIn w x X := fun x hx => pair_mem' p2 hx
  refine ⟨N.map Nd.fix, E.map Ed.fix, ⟨hA.fix, hA'.fix, fun y hy => ?_, fun y hy => ?_⟩, (gE_iff _ _ _).2 ⟨by rw [List.length_map, p1.1]; exact hS.n40, by rw [List.length_map, p2.1]; exact hS.e60, by rw [i1]; exact hS.nri, by rw [i2]; exact hS.eri, hS.pos, hS.next, fun y hy => ?_, fun y hy => ?_, fun y hy => ?_, fun y hy => ?_⟩⟩
  · obtain ⟨x, hx, rfl⟩ := List.mem_map.1 hy
    obtain ⟨X, hX, q1, q2, q3, q4, q5⟩ := hn x hx
    exact ⟨q3, q4.fix, (props_back B hB hT q5 (hS.nds X hX).2).1⟩
  · obtain ⟨x, hx, rfl⟩ := List.mem_map.1 hy
    obtain ⟨X, hX, q1, q2, q3, q4, q5, q6, q7⟩ := he x hx
    exact ⟨q6.fix, (props_back B hB hT q7 (hS.eds X hX).2.2.2).1⟩
  · obtain ⟨x, hx, rfl⟩ := List.mem_map.1 hy
    obtain ⟨X, hX, q1, _⟩ := hn x hx
    show 0 < x.id ∧ x.id < S.next
    rw [q1]
    exact hS.nid X hX
  · obtain ⟨x, hx, rfl⟩ := List.mem_map.1 hy
    obtain ⟨X, hX, q1, _⟩ := he x hx
    show 0 < x.id ∧ x.id < S.next
    rw [q1]
    exact ⟨(hS.eid X hX).1, (hS.eid X hX).2.1⟩
  · obtain ⟨x, hx, rfl⟩ := List.mem_map.1 hy
    obtain ⟨X, hX, q1, q2, q3, q4, q5⟩ := hn x hx
    refine ⟨(labsE_iff _).2 ?_, (props_back B hB hT q5 (hS.nds X hX).2).2⟩
    show RtL x.labs
    rw [q2]
    exact (hS.nds X hX).1
  · obtain ⟨x, hx, rfl⟩ := List.mem_map.1 hy
    obtain ⟨X, hX, q1, q2, q3, q4, q5, q6, q7⟩ := he x hx
    have hd := hS.eds X hX
    have hi := (hS.eid X hX).2.2
    unfold hasN
    rw [i1]
    refine ⟨?_, ?_, ?_, ?_, (props_back B hB hT q7 hd.2.2.2).2⟩
    · rw [← q1] at hi
      exact decide_eq_false hi
    · show nm x.typ = true
      rw [q4]
      exact hd.1
    · have := hd.2.1
      rw [← q2] at this
      exact decide_eq_true this
    · have := hd.2.2.1
      rw [← q3] at this
      exact decide_eq_true this

theorem RtP.ok {P : List AP} (h : RtP P) : P.length ≤ 1000 ∧ ∀ p ∈ P, p.ok :=
  ⟨by have := h.2.1; omega, fun p hp => by
    have hwt := ck_wt 6 _ (h.2.2 p hp).2.2
    have e : 2 * 32 ^ 6 = 2147483648 := by decide
    show wtT p.t ≤ _
    omega⟩

theorem Rt.nok {S : WS} (h : Rt S) : ∀ x ∈ S.N, x.ok := fun x hx => ⟨by have := (h.nds x hx).1.2.1; omega, (h.nds x hx).2.ok.1, (h.nds x hx).2.ok.2⟩
theorem Rt.eok {S : WS} (h : Rt S) : ∀ x ∈ S.E, x.ok := fun x hx => (h.eds x hx).2.2.2.ok

/-- A number, seven bits a byte, the lowest first; so many bytes more at most. -/
def btsF : Nat → Nat → List UInt8
  | 0, n => [UInt8.ofNat n]
  | f + 1, n => if n < 128 then [UInt8.ofNat n] else UInt8.ofNat (n % 128 + 128) :: btsF f (n / 128)

def bts (n : Nat) : List UInt8 := btsF n n

theorem btsF_lt (f n : Nat) (h : n < 128) : btsF f n = [UInt8.ofNat n] := by
  cases f with
  | zero => rfl
  | succ f => simp [btsF, h]

theorem btsF_same : ∀ (f g n : Nat), n ≤ f → n ≤ g → btsF f n = btsF g n
  | 0, g, n, h, k => by rw [btsF_lt _ _ (by omega), btsF_lt _ _ (by omega)]
  | f + 1, g, n, h, k => by
    by_cases hn : n < 128
    · rw [btsF_lt _ _ hn, btsF_lt _ _ hn]
    · cases g with
      | zero => omega
      | succ g =>
        simp only [btsF, hn, if_false]
        rw [btsF_same f g (n / 128) (by omega) (by omega)]

theorem bts_lt {n : Nat} (h : n < 128) : bts n = [UInt8.ofNat n] := btsF_lt _ _ h

theorem bts_ge {n : Nat} (h : ¬ n < 128) : bts n = UInt8.ofNat (n % 128 + 128) :: bts (n / 128) := by
  unfold bts
  cases n with
  | zero => omega
  | succ k =>
    rw [show btsF (k + 1) (k + 1) = if k + 1 < 128 then [UInt8.ofNat (k + 1)] else UInt8.ofNat ((k + 1) % 128 + 128) :: btsF k ((k + 1) / 128) from rfl, if_neg h, btsF_same k ((k + 1) / 128) _ (by omega) (Nat.le_refl _)]

theorem bts_len : ∀ (k n : Nat), n < 128 ^ (k + 1) → (bts n).length ≤ k + 1
  | 0, n, h => by rw [bts_lt (by simpa using h)]; simp
  | k + 1, n, h => by
    by_cases hn : n < 128
    · rw [bts_lt hn]; simp
    · rw [bts_ge hn]
      have := bts_len k (n / 128) (by rw [Nat.pow_succ] at h; exact Nat.div_lt_of_lt_mul (by rw [Nat.mul_comm]; exact h))
      simp
      omega

theorem bts_len10 {n : Nat} (h : n ≤ 18446744073709551615) : (bts n).length ≤ 10 := bts_len 9 n (by omega)

theorem u8_of {x y : Nat} (hx : x < 256) (hy : y < 256) (h : UInt8.ofNat x = UInt8.ofNat y) : x = y := by
  have := congrArg UInt8.toNat h
  rw [UInt8.toNat_ofNat', UInt8.toNat_ofNat'] at this
  omega

/-- What f writes tells where it ends, among those that p allows. -/
def PF {α : Type} (p : α → Prop) (f : α → List UInt8) : Prop := ∀ x y r s, p x → p y → f x ++ r = f y ++ s → x = y ∧ r = s

theorem bts_pf : ∀ (n x y : Nat) (r s : List UInt8), x ≤ n → bts x ++ r = bts y ++ s → x = y ∧ r = s
  | n, x, y, r, s, hn, h => by
    by_cases hx : x < 128
    · by_cases hy : y < 128
      · rw [bts_lt hx, bts_lt hy] at h
        simp at h
        exact ⟨u8_of (by omega) (by omega) h.1, h.2⟩
      · rw [bts_lt hx, bts_ge hy] at h
        simp only [List.cons_append, List.nil_append, List.cons.injEq] at h
        have := u8_of (by omega) (by omega) h.1
        omega
    · by_cases hy : y < 128
      · rw [bts_ge hx, bts_lt hy] at h
        simp only [List.cons_append, List.nil_append, List.cons.injEq] at h
        have := u8_of (by omega) (by omega) h.1
        omega
      · cases n with
        | zero => omega
        | succ n =>
          rw [bts_ge hx, bts_ge hy] at h
          simp only [List.cons_append, List.cons.injEq] at h
          have h1 := u8_of (by omega) (by omega) h.1
          obtain ⟨h2, h3⟩ := bts_pf n (x / 128) (y / 128) r s (by omega) h.2
          exact ⟨by omega, h3⟩

theorem PF.bts : PF (fun _ : Nat => True) bts := fun x y r s _ _ h => bts_pf x x y r s (Nat.le_refl _) h

/-- The sign as the lowest bit. -/
def zig (z : Int) : Nat := if 0 ≤ z then (2 * z).toNat else (-2 * z - 1).toNat

def numB (z : Int) : List UInt8 := Go.Proofs.YtldpionmmplncaaDoor.bts (zig z)

theorem PF.num : PF (fun _ : Int => True) numB := fun x y r s _ _ h => by
  obtain ⟨h1, h2⟩ := bts_pf _ _ _ r s (Nat.le_refl _) h
  refine ⟨?_, h2⟩
  unfold zig at h1
  split at h1 <;> split at h1 <;> omega

def txB (s : ByteArray) : List UInt8 := Go.Proofs.YtldpionmmplncaaDoor.bts s.size ++ s.data.toList

theorem txB_pf (x y : ByteArray) (r s : List UInt8) (h : txB x ++ r = txB y ++ s) : x = y ∧ r = s := by
  unfold txB at h
  rw [List.append_assoc, List.append_assoc] at h
  obtain ⟨h1, h2⟩ := bts_pf _ _ _ _ _ (Nat.le_refl _) h
  obtain ⟨h3, h4⟩ := List.append_inj h2 (by simpa using h1)
  refine ⟨?_, h4⟩
  cases x with
  | mk x => cases y with
    | mk y =>
      have : x = y := Array.toList_inj.1 h3
      rw [this]

/-- How many, and then these. -/
def eaB {α : Type} (f : α → List UInt8) (L : List α) : List UInt8 := Go.Proofs.YtldpionmmplncaaDoor.bts L.length ++ (L.map f).flatten

theorem flat_pf {α : Type} {p : α → Prop} {f : α → List UInt8} (hf : PF p f) : ∀ (L M : List α) (r s : List UInt8), L.length = M.length → (∀ x ∈ L, p x) → (∀ x ∈ M, p x) → (L.map f).flatten ++ r = (M.map f).flatten ++ s → L = M ∧ r = s
  | [], [], r, s, _, _, _, h => ⟨rfl, by simpa using h⟩
  | [], _ :: _, _, _, h, _, _, _ => by simp at h
  | _ :: _, [], _, _, h, _, _, _ => by simp at h
  | x :: L, y :: M, r, s, hl, hp, hq, h => by
    simp only [List.map_cons, List.flatten_cons, List.append_assoc] at h
    obtain ⟨rfl, h2⟩ := hf x y _ _ (hp x (by simp)) (hq y (by simp)) h
    obtain ⟨rfl, h3⟩ := flat_pf hf L M r s (by simpa using hl) (fun z hz => hp z (by simp [hz])) (fun z hz => hq z (by simp [hz])) h2
    exact ⟨rfl, h3⟩

theorem PF.each {α : Type} {p : α → Prop} {f : α → List UInt8} (hf : PF p f) : PF (fun L : List α => ∀ x ∈ L, p x) (eaB f) := fun L M r s hL hM h => by
  unfold eaB at h
  rw [List.append_assoc, List.append_assoc] at h
  obtain ⟨h1, h2⟩ := bts_pf _ _ _ _ _ (Nat.le_refl _) h
  exact flat_pf hf L M r s h1 hL hM h2

mutual
/-- A value. -/
def vB : T → List UInt8
  | .node k n s L => UInt8.ofNat k.toNat :: (if k = 1 ∨ k = 2 then numB n else if k = 3 then txB s else if k = 4 then Go.Proofs.YtldpionmmplncaaDoor.bts L.length ++ vsB L else [])
def vsB : List T → List UInt8
  | [] => []
  | t :: ts => vB t ++ vsB ts
end

theorem vsB_map : ∀ L : List T, vsB L = (L.map vB).flatten
  | [] => by simp [vsB]
  | t :: ts => by rw [vsB, vsB_map ts]; simp

theorem ck_kind {d : Nat} {k n : Int} {s : ByteArray} {L : List T} (h : Ck d (.node k n s L)) : 0 ≤ k ∧ k ≤ 4 := by
  cases h <;> omega

theorem vB_pf : ∀ (d : Nat) (x y : T) (r s : List UInt8), Ck d x → Ck d y → vB x ++ r = vB y ++ s → x = y ∧ r = s
  | d, .node k n t L, .node k' n' t' L', r, s, hx, hy, h => by
    have e1 := ck_kind hx
    have e2 := ck_kind hy
    rw [vB, vB] at h
    simp only [List.cons_append, List.cons.injEq] at h
    obtain ⟨h1, h2⟩ := h
    have hk := u8_of (by omega) (by omega) h1
    have hk2 : k = k' := by omega
    subst hk2
    cases hx with
    | null => cases hy; simp at h2; exact ⟨rfl, h2⟩
    | bool _ _ a =>
      cases hy
      obtain ⟨h3, h4⟩ := PF.num _ _ r s trivial trivial (by simpa using h2)
      exact ⟨by rw [h3], h4⟩
    | int _ _ a b =>
      cases hy
      obtain ⟨h3, h4⟩ := PF.num _ _ r s trivial trivial (by simpa using h2)
      exact ⟨by rw [h3], h4⟩
    | text _ _ a b =>
      cases hy
      obtain ⟨h3, h4⟩ := txB_pf _ _ r s (by simpa using h2)
      exact ⟨by rw [h3], h4⟩
    | list d _ a b =>
      cases hy with
      | list _ _ a' b' =>
        have h3 : (Go.Proofs.YtldpionmmplncaaDoor.bts L.length ++ vsB L) ++ r = (Go.Proofs.YtldpionmmplncaaDoor.bts L'.length ++ vsB L') ++ s := by simpa using h2
        rw [vsB_map, vsB_map] at h3
        obtain ⟨h4, h5⟩ := PF.each (p := Ck d) (fun x y r s hx hy h => vB_pf d x y r s hx hy h) L L' r s b b' h3
        exact ⟨by rw [h4], h5⟩

def pB (p : AP) : List UInt8 := txB p.name ++ vB p.t
def nB (x : AN) : List UInt8 := numB x.id ++ (eaB txB x.labs ++ eaB pB x.props)
def eB (x : AE) : List UInt8 := numB x.id ++ (numB x.frm ++ (numB x.dst ++ (txB x.typ ++ eaB pB x.props)))
def gB (nx : Int) (N : List AN) (E : List AE) : List UInt8 := numB nx ++ (eaB nB N ++ eaB eB E)

theorem pB_pf : PF (fun p : AP => Ck 6 p.t) pB := fun x y r s hx hy h => by
  unfold pB at h
  rw [List.append_assoc, List.append_assoc] at h
  obtain ⟨h1, h2⟩ := txB_pf _ _ _ _ h
  obtain ⟨h3, h4⟩ := vB_pf 6 _ _ _ _ hx hy h2
  cases x; cases y
  exact ⟨by simp at h1 h3; rw [h1, h3], h4⟩

theorem txB_PF : PF (fun _ : ByteArray => True) txB := fun x y r s _ _ h => txB_pf x y r s h

theorem nB_pf : PF (fun x : AN => ∀ p ∈ x.props, Ck 6 p.t) nB := fun x y r s hx hy h => by
  unfold nB at h
  simp only [List.append_assoc] at h
  obtain ⟨h1, h2⟩ := PF.num _ _ _ _ trivial trivial h
  obtain ⟨h3, h4⟩ := txB_PF.each _ _ _ _ (fun _ _ => trivial) (fun _ _ => trivial) h2
  obtain ⟨h5, h6⟩ := pB_pf.each _ _ _ _ hx hy h4
  cases x; cases y
  exact ⟨by simp at h1 h3 h5; rw [h1, h3, h5], h6⟩

theorem eB_pf : PF (fun x : AE => ∀ p ∈ x.props, Ck 6 p.t) eB := fun x y r s hx hy h => by
  unfold eB at h
  simp only [List.append_assoc] at h
  obtain ⟨h1, h2⟩ := PF.num _ _ _ _ trivial trivial h
  obtain ⟨h3, h4⟩ := PF.num _ _ _ _ trivial trivial h2
  obtain ⟨h5, h6⟩ := PF.num _ _ _ _ trivial trivial h4
  obtain ⟨h7, h8⟩ := txB_pf _ _ _ _ h6
  obtain ⟨h9, h10⟩ := pB_pf.each _ _ _ _ hx hy h8
  cases x; cases y
  exact ⟨by simp at h1 h3 h5 h7 h9; rw [h1, h3, h5, h7, h9], h10⟩

theorem gB_inj {nx mx : Int} {N M : List AN} {E F : List AE} (hN : ∀ x ∈ N, ∀ p ∈ x.props, Ck 6 p.t) (hE : ∀ x ∈ E, ∀ p ∈ x.props, Ck 6 p.t) (hM : ∀ x ∈ M, ∀ p ∈ x.props, Ck 6 p.t) (hF : ∀ x ∈ F, ∀ p ∈ x.props, Ck 6 p.t) (h : gB nx N E = gB mx M F) : nx = mx ∧ N = M ∧ E = F := by
  unfold gB at h
  have h' : numB nx ++ (eaB nB N ++ (eaB eB E ++ [])) = numB mx ++ (eaB nB M ++ (eaB eB F ++ [])) := by simpa using h
  obtain ⟨h1, h2⟩ := PF.num _ _ _ _ trivial trivial h'
  obtain ⟨h3, h4⟩ := nB_pf.each _ _ _ _ hN hM h2
  obtain ⟨h5, _⟩ := eB_pf.each _ _ _ _ hE hF h4
  exact ⟨h1, h3, h5⟩

/-- A number: so many bytes are read already, and so much of it. -/
def bitsF : Nat → Nat → Nat → List UInt8 → Option (Nat × List UInt8)
  | 0, _, _, _ => none
  | _ + 1, _, _, [] => none
  | f + 1, k, q, x :: r => if x.toNat < 128 then some (q + x.toNat % 128 * 128 ^ k % 18446744073709551616, r) else bitsF f (k + 1) (q + x.toNat % 128 * 128 ^ k % 18446744073709551616) r

def bitsP (bs : List UInt8) : Option (Nat × List UInt8) := bitsF 10 0 0 bs

/-- The number of a sign in its lowest bit. -/
def zag (n : Nat) : Int := if n % 2 = 0 then ((n / 2 : Nat) : Int) else -((n / 2 : Nat) : Int) - 1

def numP (bs : List UInt8) : Option (Int × List UInt8) := (bitsP bs).map fun p => (zag p.1, p.2)

def cutP (n : Nat) (bs : List UInt8) : Option (List UInt8 × List UInt8) := if n ≤ bs.length then some (bs.take n, bs.drop n) else none

def txP (bs : List UInt8) : Option (ByteArray × List UInt8) := (bitsP bs).bind fun p => (cutP p.1 p.2).map fun c => (⟨c.1.toArray⟩, c.2)

/-- So many, one behind the other. -/
def repP {α : Type} (one : List UInt8 → Option (α × List UInt8)) : Nat → List UInt8 → Option (List α × List UInt8)
  | 0, bs => some ([], bs)
  | n + 1, bs => (one bs).bind fun p => (repP one n p.2).map fun q => (p.1 :: q.1, q.2)

def listP {α : Type} (most : Nat) (one : List UInt8 → Option (α × List UInt8)) (bs : List UInt8) : Option (List α × List UInt8) :=
  (bitsP bs).bind fun p => if p.1 ≤ most then repP one p.1 p.2 else none

/-- A value; so many lists may still be opened. -/
def valP : Nat → List UInt8 → Option (T × List UInt8)
  | _, [] => none
  | f, x :: r =>
    if x.toNat = 1 ∨ x.toNat = 2 then (numP r).map fun p => (.node x.toNat p.1 ⟨#[]⟩ [], p.2)
    else if x.toNat = 3 then (txP r).map fun p => (.node 3 0 p.1 [], p.2)
    else if x.toNat = 4 then (match f with
      | 0 => none
      | f + 1 => (listP 30 (valP f) r).map fun p => (.node 4 0 ⟨#[]⟩ p.1, p.2))
    else some (.node x.toNat 0 ⟨#[]⟩ [], r)

def prP (bs : List UInt8) : Option (AP × List UInt8) := (txP bs).bind fun p => (valP 6 p.2).map fun q => (⟨p.1, q.1⟩, q.2)
def ndP (bs : List UInt8) : Option (AN × List UInt8) := (numP bs).bind fun a => (listP 4 txP a.2).bind fun l => (listP 6 prP l.2).map fun p => (⟨a.1, l.1, p.1⟩, p.2)
def edP (bs : List UInt8) : Option (AE × List UInt8) := (numP bs).bind fun a => (numP a.2).bind fun f => (numP f.2).bind fun d => (txP d.2).bind fun t => (listP 6 prP t.2).map fun p => (⟨a.1, f.1, d.1, t.1, p.1⟩, p.2)
def grP (bs : List UInt8) : Option ((Int × List AN × List AE) × List UInt8) := (numP bs).bind fun a => (listP 40 ndP a.2).bind fun n => (listP 60 edP n.2).map fun e => ((a.1, n.1, e.1), e.2)

theorem bitsF_bts : ∀ (f k q n : Nat) (r : List UInt8), n * 128 ^ k < 18446744073709551616 → n < 128 ^ f → 0 < f → bitsF f k q (bts n ++ r) = some (q + n * 128 ^ k, r)
  | 0, _, _, _, _, _, _, h => absurd h (Nat.lt_irrefl _)
  | f + 1, k, q, n, r, h1, h2, _ => by
    by_cases hn : n < 128
    · rw [bts_lt hn]
      show (if (UInt8.ofNat n).toNat < 128 then _ else _) = _
      have e : (UInt8.ofNat n).toNat = n := by rw [UInt8.toNat_ofNat']; omega
      rw [e, if_pos hn, Nat.mod_eq_of_lt hn, Nat.mod_eq_of_lt h1]
      rfl
    · rw [bts_ge hn]
      show (if (UInt8.ofNat (n % 128 + 128)).toNat < 128 then _ else _) = _
      have e : (UInt8.ofNat (n % 128 + 128)).toNat = n % 128 + 128 := by rw [UInt8.toNat_ofNat']; omega
      have e2 : (n % 128 + 128) % 128 = n % 128 := by omega
      have e3 : n % 128 * 128 ^ k < 18446744073709551616 := Nat.lt_of_le_of_lt (Nat.mul_le_mul_right _ (Nat.mod_le _ _)) h1
      rw [e, if_neg (by omega), e2, Nat.mod_eq_of_lt e3]
      have hf : 0 < f := by
        rcases Nat.eq_zero_or_pos f with h | h
        · subst h; simp at h2; omega
        · exact h
      have hd : n / 128 * 128 ^ (k + 1) + n % 128 * 128 ^ k = n * 128 ^ k := by
        rw [Nat.pow_succ, Nat.mul_comm (128 ^ k) 128, ← Nat.mul_assoc, ← Nat.add_mul]
        congr 1
        omega
      have ih := bitsF_bts f (k + 1) (q + n % 128 * 128 ^ k) (n / 128) r (by omega) (by rw [Nat.pow_succ] at h2; exact Nat.div_lt_of_lt_mul (by rw [Nat.mul_comm]; exact h2)) hf
      refine ih.trans ?_
      rw [← hd]
      simp only [Option.some.injEq, Prod.mk.injEq, and_true]
      omega

theorem bitsP_bts (n : Nat) (r : List UInt8) (h : n ≤ 18446744073709551615) : bitsP (bts n ++ r) = some (n, r) := by
  unfold bitsP
  rw [bitsF_bts 10 0 0 n r (by omega) (by omega) (by omega)]
  simp

theorem zag_zig (z : Int) : zag (zig z) = z := by
  unfold zag zig
  split <;> split <;> omega

theorem numP_num (z : Int) (r : List UInt8) (h0 : -9223372036854775808 ≤ z) (h1 : z ≤ 9223372036854775807) : numP (numB z ++ r) = some (z, r) := by
  unfold numP numB
  rw [bitsP_bts _ _ (by unfold zig; split <;> omega)]
  simp [zag_zig]

theorem txP_tx (s : ByteArray) (r : List UInt8) (h : s.size ≤ 1000000) : txP (txB s ++ r) = some (s, r) := by
  unfold txP txB
  have e : s.data.toList.length = s.size := by simp
  rw [List.append_assoc, bitsP_bts _ _ (by omega)]
  simp only [Option.bind_some, cutP, List.length_append]
  rw [if_pos (by omega), ← e, List.take_left, List.drop_left]
  rfl

theorem repP_all {α : Type} {one : List UInt8 → Option (α × List UInt8)} {f : α → List UInt8} : ∀ (L : List α) (r : List UInt8), (∀ x ∈ L, ∀ r, one (f x ++ r) = some (x, r)) → repP one L.length ((L.map f).flatten ++ r) = some (L, r)
  | [], r, _ => by simp [repP]
  | x :: L, r, h => by
    have h1 := h x (by simp)
    have h2 := repP_all L r (fun y hy => h y (by simp [hy]))
    simp only [List.length_cons, List.map_cons, List.flatten_cons, List.append_assoc, repP]
    rw [h1]
    simp [h2]

theorem listP_all {α : Type} {one : List UInt8 → Option (α × List UInt8)} {f : α → List UInt8} (most : Nat) (L : List α) (r : List UInt8) (hl : L.length ≤ most) (hm : most ≤ 1000) (h : ∀ x ∈ L, ∀ r, one (f x ++ r) = some (x, r)) : listP most one (eaB f L ++ r) = some (L, r) := by
  unfold listP eaB
  rw [List.append_assoc, bitsP_bts _ _ (by omega)]
  simp [hl, repP_all L r h]

theorem valP_val : ∀ (d : Nat) (t : T), Ck d t → ∀ r, valP d (vB t ++ r) = some (t, r) := by
  intro d
  induction d with
  | zero =>
    intro t h r
    cases h with
    | null => simp [vB, valP]
    | bool _ n hn =>
      rw [vB]
      simp [valP, numP_num n r (by rcases hn with rfl | rfl <;> omega) (by rcases hn with rfl | rfl <;> omega)]
    | int _ n a b =>
      rw [vB]
      simp [valP, numP_num n r a b]
    | text _ s a b =>
      rw [vB]
      simp [valP, txP_tx s r (by omega)]
  | succ d ih =>
    intro t h r
    cases h with
    | null => simp [vB, valP]
    | bool _ n hn =>
      rw [vB]
      simp [valP, numP_num n r (by rcases hn with rfl | rfl <;> omega) (by rcases hn with rfl | rfl <;> omega)]
    | int _ n a b =>
      rw [vB]
      simp [valP, numP_num n r a b]
    | text _ s a b =>
      rw [vB]
      simp [valP, txP_tx s r (by omega)]
    | list _ L a b =>
      have e := listP_all (one := valP d) (f := vB) 30 L r a (by omega) (fun x hx r => ih x (b x hx) r)
      rw [vB, vsB_map]
      unfold eaB at e
      rw [List.append_assoc] at e
      simp [valP, e]

theorem prP_pr (p : AP) (r : List UInt8) (hn : p.name.size ≤ 1000000) (hc : Ck 6 p.t) : prP (pB p ++ r) = some (p, r) := by
  unfold prP pB
  rw [List.append_assoc, txP_tx _ _ hn]
  simp [valP_val 6 p.t hc]

theorem ndP_nd (x : AN) (r : List UInt8) (h0 : -9223372036854775808 ≤ x.id) (h1 : x.id ≤ 9223372036854775807) (hl : x.labs.length ≤ 4) (hs : ∀ s ∈ x.labs, s.size ≤ 1000000) (hp : x.props.length ≤ 6) (hc : ∀ p ∈ x.props, p.name.size ≤ 1000000 ∧ Ck 6 p.t) : ndP (nB x ++ r) = some (x, r) := by
  unfold ndP nB
  rw [List.append_assoc, List.append_assoc, numP_num _ _ h0 h1]
  simp only [Option.bind_some]
  rw [listP_all (one := txP) (f := txB) 4 x.labs _ hl (by omega) (fun s hx r => txP_tx s r (hs s hx))]
  simp only [Option.bind_some]
  rw [listP_all (one := prP) (f := pB) 6 x.props _ hp (by omega) (fun p hx r => prP_pr p r (hc p hx).1 (hc p hx).2)]
  rfl

theorem edP_ed (x : AE) (r : List UInt8) (a0 : -9223372036854775808 ≤ x.id) (a1 : x.id ≤ 9223372036854775807) (b0 : -9223372036854775808 ≤ x.frm) (b1 : x.frm ≤ 9223372036854775807) (c0 : -9223372036854775808 ≤ x.dst) (c1 : x.dst ≤ 9223372036854775807) (hs : x.typ.size ≤ 1000000) (hp : x.props.length ≤ 6) (hc : ∀ p ∈ x.props, p.name.size ≤ 1000000 ∧ Ck 6 p.t) : edP (eB x ++ r) = some (x, r) := by
  unfold edP eB
  simp only [List.append_assoc]
  rw [numP_num _ _ a0 a1]
  simp only [Option.bind_some]
  rw [numP_num _ _ b0 b1]
  simp only [Option.bind_some]
  rw [numP_num _ _ c0 c1]
  simp only [Option.bind_some]
  rw [txP_tx _ _ hs]
  simp only [Option.bind_some]
  rw [listP_all (one := prP) (f := pB) 6 x.props _ hp (by omega) (fun p hx r => prP_pr p r (hc p hx).1 (hc p hx).2)]
  rfl

abbrev BE : TypeId := 5

theorem row_block {B n : Nat} {e : TypeId} {size : Nat} {v : Value} {xs : List Value} {w : World} (h : w.ownsRow B e size v n xs) (k : Nat) (hk : v.ownBlock = some k) : B ≤ k := by
  exact (h.lt k hk).1

theorem info_byte0 : (Tryd.prog.info? BE).map (fun i => (i.zero, i.size, i.bytes)) = some (some (.int .u8 0), 1, 1) := by kernel_rfl

theorem info_byte : ∃ i, Tryd.prog.info? BE = some i ∧ i.zero = some (.int .u8 0) ∧ i.size = 1 ∧ i.bytes = 1 := by
  obtain ⟨i, h, e⟩ := Option.map_eq_some_iff.1 info_byte0
  simp only [Prod.mk.injEq] at e
  exact ⟨i, h, e⟩

/-- A row of bytes of the call's own. -/
def Out (B : Nat) (w : World) (v : Value) (l : List UInt8) : Prop := w.ownsRow B BE 1 v l.length (Lib.byteCells l)

theorem Out.len {B : Nat} {w : World} {v : Value} {l : List UInt8} (h : Out B w v l) : ∃ a c, v = .slice a l.length c := by
  rcases h.2 with ⟨h0, h1⟩ | ⟨g, cap, cur, e1, _⟩
  · exact ⟨none, 0, by rw [h0, h1]⟩
  · exact ⟨_, _, e1⟩

theorem Out.nil (B : Nat) (w : World) : Out B w (.slice none 0 0) [] := ⟨rfl, .inl ⟨rfl, rfl⟩⟩

theorem Out.kept {B : Nat} {w w' : World} {v : Value} {l : List UInt8} (h : Out B w v l) (hk : ∀ k, B ≤ k → k < w.heap.size → w'.heap[k]? = w.heap[k]?) : Out B w' v l := row_kept h hk

theorem Out.alloc {B : Nat} {w : World} {v : Value} {l : List UInt8} (h : Out B w v l) (o : Obj) : Out B (w.alloc o) v l := h.kept fun k _ hk => Below.heap_alloc _ _ _ hk

theorem Out.below {B : Nat} {w w' : World} {v : Value} {l : List UInt8} (h : Out B w v l) (k : Below w.heap.size w w') : Out B w' v l := h.kept fun i _ hi => k.block i hi

theorem Out.grown {B : Nat} {a w w' : World} {v : Value} {l : List UInt8} (h : Out B w v l) (hb : Below B a w) (hg : w.grownBy w' v.ownBlock) (hB : B ≤ w.heap.size) : Below B a w' := hb.grown hg hB (fun k hk => row_block h k hk)

theorem out_of {B : Nat} {w : World} {v : Value} {n : Nat} {l m : List UInt8} {ys : List Value} (h : w.ownsRow B BE 1 v n (Lib.byteCells l ++ ys)) (e : ys = Lib.byteCells m) : Out B w v (l ++ m) := by
  subst e
  rw [← Lib.byteCells_append] at h
  have hl := h.1
  rw [Lib.byteCells_length] at hl
  have : n = (l ++ m).length := by omega
  subst this
  exact h

theorem one_new (w : World) (x : Value) (t : TypeId) : ∀ j u, [x][j]? = some u → (w.alloc (.cells #[x] t)).cell? ((⟨w.heap.size, 0, none⟩ : Addr).add j) = some u :=
  World.news_of_block (cs := #[x]) (alloc_new w _)

/-- A writer at block b has written l. -/
def Wr (b : Nat) (w : World) (l : List UInt8) : Prop := ∃ v, w.heap[b]? = some (.cells #[v] 43 (0, 0)) ∧ Out (b + 1) w v l

theorem Wr.lt {b : Nat} {w : World} {l : List UInt8} (h : Wr b w l) : b < w.heap.size := by
  obtain ⟨v, h, _⟩ := h
  exact (Array.getElem?_eq_some_iff.1 h).1

theorem Wr.below {b : Nat} {w w' : World} {l : List UInt8} (h : Wr b w l) (k : Below w.heap.size w w') : Wr b w' l := by
  have hl := h.lt
  obtain ⟨v, h1, h2⟩ := h
  exact ⟨v, (k.block b hl).trans h1, h2.below k⟩

/-- All blocks but the writer's and rows of bytes stay. -/
def Fr (b : Nat) (w w' : World) : Prop := ∀ j cs t fr, w.heap[j]? = some (.cells cs t fr) → t ≠ BE → j ≠ b → w'.heap[j]? = some (.cells cs t fr)

theorem Fr.refl (b : Nat) (w : World) : Fr b w w := fun _ _ _ _ h _ _ => h

theorem Fr.trans {b : Nat} {w w1 w2 : World} (h : Fr b w w1) (k : Fr b w1 w2) : Fr b w w2 := fun j cs t fr e h1 h2 => k j cs t fr (h j cs t fr e h1 h2) h1 h2

theorem Fr.below {b : Nat} {w w' : World} (k : Below w.heap.size w w') : Fr b w w' := fun j cs t fr e _ _ => (k.block j (Array.getElem?_eq_some_iff.1 e).1).trans e

/-- A row that has grown is put back into the writer. -/
theorem Wr.put {b : Nat} {W w1 : World} {l m : List UInt8} {v v1 : Value} {n : Nat} {ys : List Value} (hW : W.heap[b]? = some (.cells #[v] 43 (0, 0))) (h0 : b < W.heap.size) (hO : Out (b + 1) W v l)
    (hown : w1.ownsRow (b + 1) BE 1 v1 n (Lib.byteCells l ++ ys)) (hg : W.grownBy w1 v.ownBlock) (e : ys = Lib.byteCells m) :
    w1.heap[b]? = some (.cells #[v] 43 (0, 0)) ∧ Wr b (w1.setCell ⟨b, 0, none⟩ v1) (l ++ m) ∧ Below b W (w1.setCell ⟨b, 0, none⟩ v1) ∧ Fr b W (w1.setCell ⟨b, 0, none⟩ v1) := by
  have hO2 : ∀ k, v.ownBlock = some k → b + 1 ≤ k := fun k hk => row_block hO k hk
  have e1 : w1.heap[b]? = some (.cells #[v] 43 (0, 0)) := by
    rw [hg.block b h0 (fun e => by have := hO2 b e.symm; omega)]
    exact hW
  have hs : b + 1 ≤ W.heap.size := h0
  have hb1 : Below (b + 1) W w1 := hO.grown (Below.refl _ _) hg hs
  have hb2 : Below b W w1 := hb1.mono (by omega)
  refine ⟨e1, ⟨v1, ?_, ?_⟩, hb2.setCell (p := ⟨b, 0, none⟩) (Nat.le_refl _) _, ?_⟩
  · simp [World.setCell, Array.getElem?_modify, e1]
  · refine (out_of hown e).kept fun k hk hl => ?_
    simp only [World.setCell, Array.getElem?_modify]
    rw [if_neg (by show ¬ b = k; omega)]
  · intro j cs t fr ej ht hj
    have hjl := (Array.getElem?_eq_some_iff.1 ej).1
    simp only [World.setCell, Array.getElem?_modify]
    rw [if_neg (by show ¬ b = j; omega), hg.block j hjl ?_]
    · exact ej
    · intro er
      rcases hO.2 with ⟨q0, _⟩ | ⟨g, cap, cur, q0, _, q1, _⟩
      · rw [q0] at er; cases er
      · rw [q0] at er
        simp [Value.ownBlock] at er
        subst er
        rw [ej] at q1
        injection q1 with q1
        injection q1 with _ q2 _
        exact ht q2
end Go.Proofs.YtldpionmmplncaaDoor
