/-
  What is proved here: what the texts TTake, KkPure, KkW1, KkES prove, in one text.
-/
import Derived.Test.YtppbllandnbgbaaGreatDoorQGAI
import Derived.Test.YtppbllandnbgbaaGreatDoorQGAC
import Derived.Laws.BitsAllLaws
import Derived.Laws.ShiftsVarLaws
namespace Go.Proofs.YtppbllandnbgbaaGreatDoor
open Go.RowKit
set_option linter.unusedVariables false

theorem pair_map {α β γ : Type} {R : α → β → Prop} {f : α → γ} {g : β → γ} {P : List α} {L : List β} (h : Pair2 R P L) (hR : ∀ p x, R p x → f p = g x) : P.map f = L.map g := by
  apply List.ext_getElem?
  intro i
  rw [List.getElem?_map, List.getElem?_map]
  cases hx : P[i]? with
  | none =>
    have : L[i]? = none := by
      rw [List.getElem?_eq_none_iff] at hx ⊢
      rw [← h.1]
      exact hx
    rw [this]
    rfl
  | some x =>
    obtain ⟨y, hy, hxy⟩ := h.left hx
    rw [hy]
    show some (f x) = some (g y)
    rw [hR x y hxy]

theorem pair_mem {α β : Type} {R : α → β → Prop} {P : List α} {L : List β} (h : Pair2 R P L) {x : β} (hx : x ∈ L) : ∃ p ∈ P, R p x := by
  obtain ⟨i, hi⟩ := List.getElem?_of_mem hx
  obtain ⟨p, hp, hR⟩ := h.right hi
  exact ⟨p, List.mem_of_getElem? hp, hR⟩

theorem pair_mem' {α β : Type} {R : α → β → Prop} {P : List α} {L : List β} (h : Pair2 R P L) {p : α} (hp : p ∈ P) : ∃ x ∈ L, R p x := by
  obtain ⟨i, hi⟩ := List.getElem?_of_mem hp
  obtain ⟨x, hx, hR⟩ := h.left hi
  exact ⟨x, List.mem_of_getElem? hx, hR⟩

theorem props_right {w : World} {P : List Pr} {pa : Option Addr} {pl : Nat} (hP : PropsAt w P pa pl) (hO : ∀ p ∈ P, PrOk w p) (h0 : prsE P = 0) : ∃ X : List AP, Pair2 (PrIn AnyB w) P X ∧ RtP X := by
  obtain ⟨g1, g2, g3⟩ := (prsE_iff P).1 h0
  obtain ⟨X, hX⟩ := pair_choose (R := fun p x => PrIn AnyB w p x ∧ nm x.name = true ∧ kT x.t ≠ 0 ∧ Ck 6 x.t) P (fun p hp => by
    obtain ⟨⟨h1, h2⟩, L, _, h3, _, h4⟩ := hO p hp
    have hck := h4 (g3 p hp).2.2
    obtain ⟨i, hi⟩ := List.getElem?_of_mem hp
    have hil := (List.getElem?_eq_some_iff.1 hi).1
    obtain ⟨b, off, _, _, hc⟩ := hP.2.2 (by rw [hP.1]; omega)
    exact ⟨⟨p.name, .node p.k p.n p.s L⟩, ⟨rfl, (hc i p hi).1, h1, h2, L, rfl, LiesS.lie _ _ _ h3⟩, (g3 p hp).1, (g3 p hp).2.1, hck⟩)
  refine ⟨X, hX.mono fun _ _ _ _ h => h.1, ?_, by rw [← hX.1]; exact g2, fun x hx => ?_⟩
  · rw [← pair_map hX (f := Pr.name) fun p x h => h.1.1]
    exact g1
  · obtain ⟨p, _, h⟩ := pair_mem hX hx
    exact h.2

theorem nodes_right {w : World} {N : List Nd} (hO : ∀ x ∈ N, NdOk w x) (h0 : ∀ x ∈ N, labsE x.labs = 0 ∧ prsE x.props = 0) : ∃ X : List AN, Pair2 (NdIn w) N X ∧ ∀ x ∈ X, RtL x.labs ∧ RtP x.props := by
  obtain ⟨X, hX⟩ := pair_choose (R := fun p x => NdIn w p x ∧ RtL x.labs ∧ RtP x.props) N (fun p hp => by
    obtain ⟨h1, h2, h3⟩ := hO p hp
    obtain ⟨Y, hY, hok⟩ := props_right h2 h3 (h0 p hp).2
    exact ⟨⟨p.id, p.labs, Y⟩, ⟨rfl, rfl, h1, h2, hY⟩, (labsE_iff _).1 (h0 p hp).1, hok⟩)
  refine ⟨X, hX.mono fun _ _ _ _ h => h.1, fun x hx => ?_⟩
  obtain ⟨p, _, h⟩ := pair_mem hX hx
  exact h.2

theorem edges_right {w : World} {E : List Ed} {ea : Option Addr} {el : Nat} (hA : EdgesAt w E ea el) (hO : ∀ x ∈ E, EdOk w x) (h0 : ∀ x ∈ E, prsE x.props = 0) : ∃ X : List AE, Pair2 (EdIn w) E X ∧ ∀ x ∈ X, RtP x.props := by
  obtain ⟨X, hX⟩ := pair_choose (R := fun p x => EdIn w p x ∧ RtP x.props) E (fun p hp => by
    obtain ⟨h2, h3⟩ := hO p hp
    obtain ⟨Y, hY, hok⟩ := props_right h2 h3 (h0 p hp)
    obtain ⟨i, hi⟩ := List.getElem?_of_mem hp
    have hil := (List.getElem?_eq_some_iff.1 hi).1
    obtain ⟨b, off, _, _, hc⟩ := hA.2.2 (by rw [hA.1]; omega)
    exact ⟨⟨p.id, p.frm, p.dst, p.typ, Y⟩, ⟨rfl, rfl, rfl, rfl, (hc i p hi).1, h2, hY⟩, hok⟩)
  refine ⟨X, hX.mono fun _ _ _ _ h => h.1, fun x hx => ?_⟩
  obtain ⟨p, _, h⟩ := pair_mem hX hx
  exact h.2

/-- A graph that its check takes, by what it holds, is right. -/
theorem gr_right {w : World} {N : List Nd} {E : List Ed} {na : Option Addr} {nl : Nat} {ea : Option Addr} {el : Nat} {next : Int} (h : GrOk w N E na nl ea el) (h0 : gE N E next = 0) :
    ∃ XN XE, NsAt w XN na nl ∧ EsAt w XE ea el ∧ ∀ made, Rt ⟨XN, XE, next, made⟩ := by
  obtain ⟨h1, h2, h3, h4⟩ := h
  have r := (gE_iff N E next).1 h0
  obtain ⟨XN, p1, o1⟩ := nodes_right h3 r.nds
  obtain ⟨XE, p2, o2⟩ := edges_right h2 h4 (fun x hx => (r.eds x hx).2.2.2.2)
  have e1 : N.map Nd.id = XN.map AN.id := pair_map p1 fun p x h => h.1
  have e2 : E.map Ed.id = XE.map AE.id := pair_map p2 fun p x h => h.1
  refine ⟨XN, XE, ⟨N, h1, p1⟩, ⟨E, h2, p2⟩, fun made => ⟨by show XN.length ≤ 40; rw [← p1.1]; exact r.n40, by show XE.length ≤ 60; rw [← p2.1]; exact r.e60, by show Rise (XN.map AN.id); rw [← e1]; exact r.nri, by show Rise (XE.map AE.id); rw [← e2]; exact r.eri, r.pos, r.most, fun X hX => ?_, fun X hX => ?_, o1, fun X hX => ?_⟩⟩
  · obtain ⟨p, hp, h⟩ := pair_mem p1 hX
    rw [← h.1]
    exact r.nid p hp
  · obtain ⟨p, hp, h⟩ := pair_mem p2 hX
    have hno := (r.eds p hp).1
    unfold hasN at hno
    rw [e1] at hno
    rw [← h.1]
    exact ⟨(r.eid p hp).1, (r.eid p hp).2, by simpa using hno⟩
  · obtain ⟨p, hp, h⟩ := pair_mem p2 hX
    have hq := r.eds p hp
    unfold hasN at hq
    rw [e1] at hq
    rw [← h.2.1, ← h.2.2.1, ← h.2.2.2.1]
    exact ⟨hq.2.1, by simpa using hq.2.2.1, by simpa using hq.2.2.2.1, o2 X hX⟩

theorem inL_of : ∀ {L : List T}, (∀ t ∈ L, InT t) → InL L
  | [], _ => by unfold InL; trivial
  | t :: ts, h => by unfold InL; exact ⟨h t (List.mem_cons_self ..), inL_of fun u hu => h u (List.mem_cons_of_mem _ hu)⟩

theorem ck_in : ∀ {d : Nat} {t : T}, Ck d t → InT t := by
  intro d t h
  induction h with
  | null d => unfold InT InL; exact ⟨by omega, trivial⟩
  | bool d n h => unfold InT InL; exact ⟨by omega, trivial⟩
  | int d n h0 h1 => unfold InT InL; exact ⟨⟨h0, h1⟩, trivial⟩
  | text d s h0 h1 => unfold InT InL; exact ⟨by omega, trivial⟩
  | list d L h0 h1 ih => unfold InT; exact ⟨by omega, inL_of ih⟩

def Pr.fix (p : Pr) : Pr := ⟨p.name, p.k, p.n, p.s, p.a, p.l, p.c, 0⟩
def Nd.fix (x : Nd) : Nd := ⟨x.id, x.labs, x.la, x.ll, x.lc, x.props.map Pr.fix, x.pa, x.pl, x.pc⟩
def Ed.fix (x : Ed) : Ed := ⟨x.id, x.frm, x.dst, x.typ, x.props.map Pr.fix, x.pa, x.pl, x.pc⟩

theorem map_get {α β : Type} {f : α → β} {L : List α} {i : Nat} {y : β} (h : (L.map f)[i]? = some y) : ∃ x, L[i]? = some x ∧ f x = y := by
  rw [List.getElem?_map] at h
  cases hx : L[i]? with
  | none => rw [hx] at h; cases h
  | some x => rw [hx] at h; exact ⟨x, rfl, by injection h⟩

theorem PropsAt.fix {w : World} {P : List Pr} {a : Option Addr} {l : Nat} (h : PropsAt w P a l) : PropsAt w (P.map Pr.fix) a l := by
  obtain ⟨h1, h2, h3⟩ := h
  refine ⟨by rw [List.length_map]; exact h1, h2, fun h0 => ?_⟩
  obtain ⟨b, off, ha, hb, hc⟩ := h3 h0
  exact ⟨b, off, ha, hb, fun i p hp => by obtain ⟨q, hq, rfl⟩ := map_get hp; exact hc i q hq⟩

theorem NodesAt.fix {w : World} {P : List Nd} {a : Option Addr} {l : Nat} (h : NodesAt w P a l) : NodesAt w (P.map Nd.fix) a l := by
  obtain ⟨h1, h2, h3⟩ := h
  refine ⟨by rw [List.length_map]; exact h1, h2, fun h0 => ?_⟩
  obtain ⟨b, off, ha, hb, hc⟩ := h3 h0
  exact ⟨b, off, ha, hb, fun i p hp => by obtain ⟨q, hq, rfl⟩ := map_get hp; exact hc i q hq⟩

theorem EdgesAt.fix {w : World} {P : List Ed} {a : Option Addr} {l : Nat} (h : EdgesAt w P a l) : EdgesAt w (P.map Ed.fix) a l := by
  obtain ⟨h1, h2, h3⟩ := h
  refine ⟨by rw [List.length_map]; exact h1, h2, fun h0 => ?_⟩
  obtain ⟨b, off, ha, hb, hc⟩ := h3 h0
  exact ⟨b, off, ha, hb, fun i p hp => by obtain ⟨q, hq, rfl⟩ := map_get hp; exact hc i q hq⟩

theorem props_back (B : Nat) {w : World} (hB : B ≤ w.heap.size) (hT : Tabs B w) {P : List Pr} {X : List AP} (h : Pair2 (PrIn AnyB w) P X) (hX : RtP X) : (∀ p ∈ P.map Pr.fix, PrOk w p) ∧ prsE (P.map Pr.fix) = 0 := by
  have hx : ∀ p ∈ P, ∃ x ∈ X, PrIn AnyB w p x := fun p hp => pair_mem' h hp
  refine ⟨fun q hq => ?_, (prsE_iff _).2 ⟨?_, by rw [List.length_map, h.1]; exact hX.2.1, fun q hq => ?_⟩⟩
  · obtain ⟨p, hp, rfl⟩ := List.mem_map.1 hq
    obtain ⟨x, hxm, e1, e2, e3, e4, Lt, e5, e6⟩ := hx p hp
    have hck := (hX.2.2 x hxm).2.2
    rw [e5] at hck
    obtain ⟨e, hb, _, hz⟩ := bi_all B w hB hT 6 0 rfl p.k p.n p.s p.a p.l p.c Lt e3 (ck_in hck) (LieA.lies _ _ _ e6)
    rw [hz hck] at hb
    exact ⟨⟨e3, e4⟩, Lt, ck_in hck, LieA.lies _ _ _ e6, hb, fun _ => hck⟩
  · rw [List.map_map, show (Pr.name ∘ Pr.fix) = Pr.name from rfl, pair_map h (g := AP.name) fun p x h => h.1]
    exact hX.1
  · obtain ⟨p, hp, rfl⟩ := List.mem_map.1 hq
    obtain ⟨x, hxm, e1, e2, e3, e4, Lt, e5, e6⟩ := hx p hp
    have := hX.2.2 x hxm
    rw [e5] at this
    exact ⟨by show nm p.name = true; rw [e1]; exact this.1, this.2.1, rfl⟩

/-- A right work lies as a graph that its check takes. -/
theorem gr_back (B : Nat) {w : World} (hB : B ≤ w.heap.size) (hT : Tabs B w) {S : WS} (hS : Rt S) {na : Option Addr} {nl : Nat} {ea : Option Addr} {el : Nat} (hN : NsAt w S.N na nl) (hE : EsAt w S.E ea el) : ∃ N E, GrOk w N E na nl ea el ∧ gE N E S.next = 0 := by
  obtain ⟨N, hA, p1⟩ := hN
  obtain ⟨E, hA', p2⟩ := hE
  have i1 : (N.map Nd.fix).map Nd.id = S.N.map AN.id := by rw [List.map_map, show (Nd.id ∘ Nd.fix) = Nd.id from rfl]; exact pair_map p1 fun p x h => h.1
  have i2 : (E.map Ed.fix).map Ed.id = S.E.map AE.id := by rw [List.map_map, show (Ed.id ∘ Ed.fix) = Ed.id from rfl]; exact pair_map p2 fun p x h => h.1
  have hn : ∀ x ∈ N, ∃ X ∈ S.N, NdIn w x X := fun x hx => pair_mem' p1 hx
  have he : ∀ x ∈ E, ∃ X ∈ S.E, EdIn w x X := fun x hx => pair_mem' p2 hx
  refine ⟨N.map Nd.fix, E.map Ed.fix, ⟨hA.fix, hA'.fix, fun y hy => ?_, fun y hy => ?_⟩, (gE_iff _ _ _).2 ⟨by rw [List.length_map, p1.1]; exact hS.n40, by rw [List.length_map, p2.1]; exact hS.e60, by rw [i1]; exact hS.nri, by rw [i2]; exact hS.eri, hS.pos, hS.next, fun y hy => ?_, fun y hy => ?_, fun y hy => ?_, fun y hy => ?_⟩⟩
  · obtain ⟨x, hx, rfl⟩ := List.mem_map.1 hy
    obtain ⟨X, hX, q1, q2, q3, q4, q5⟩ := hn x hx
    exact ⟨q3, q4.fix, (props_back B hB hT q5 (hS.nds X hX).2).1⟩
  · obtain ⟨x, hx, rfl⟩ := List.mem_map.1 hy
    obtain ⟨X, hX, q1, q2, q3, q4, q5, q6, q7⟩ := he x hx
    exact ⟨q6.fix, (props_back B hB hT q7 (hS.eds X hX).2.2.2).1⟩
  · obtain ⟨x, hx, rfl⟩ := List.mem_map.1 hy
    obtain ⟨X, hX, q1, _⟩ := hn x hx
    show 0 < x.id ∧ x.id < S.next
    rw [q1]
    exact hS.nid X hX
  · obtain ⟨x, hx, rfl⟩ := List.mem_map.1 hy
    obtain ⟨X, hX, q1, _⟩ := he x hx
    show 0 < x.id ∧ x.id < S.next
    rw [q1]
    exact ⟨(hS.eid X hX).1, (hS.eid X hX).2.1⟩
  · obtain ⟨x, hx, rfl⟩ := List.mem_map.1 hy
    obtain ⟨X, hX, q1, q2, q3, q4, q5⟩ := hn x hx
    refine ⟨(labsE_iff _).2 ?_, (props_back B hB hT q5 (hS.nds X hX).2).2⟩
    show RtL x.labs
    rw [q2]
    exact (hS.nds X hX).1
  · obtain ⟨x, hx, rfl⟩ := List.mem_map.1 hy
    obtain ⟨X, hX, q1, q2, q3, q4, q5, q6, q7⟩ := he x hx
    have hd := hS.eds X hX
    have hi := (hS.eid X hX).2.2
    unfold hasN
    rw [i1]
    refine ⟨?_, ?_, ?_, ?_, (props_back B hB hT q7 hd.2.2.2).2⟩
    · rw [← q1] at hi
      exact decide_eq_false hi
    · show nm x.typ = true
      rw [q4]
      exact hd.1
    · have := hd.2.1
      rw [← q2] at this
      exact decide_eq_true this
    · have := hd.2.2.1
      rw [← q3] at this
      exact decide_eq_true this

theorem RtP.ok {P : List AP} (h : RtP P) : P.length ≤ 1000 ∧ ∀ p ∈ P, p.ok :=
  ⟨by have := h.2.1; omega, fun p hp => by
    have hwt := ck_wt 6 _ (h.2.2 p hp).2.2
    have e : 2 * 32 ^ 6 = 2147483648 := by decide
    show wtT p.t ≤ _
    omega⟩

theorem Rt.nok {S : WS} (h : Rt S) : ∀ x ∈ S.N, x.ok := fun x hx => ⟨by have := (h.nds x hx).1.2.1; omega, (h.nds x hx).2.ok.1, (h.nds x hx).2.ok.2⟩
theorem Rt.eok {S : WS} (h : Rt S) : ∀ x ∈ S.E, x.ok := fun x hx => (h.eds x hx).2.2.2.ok

/-- A number, seven bits a byte, the lowest first; so many bytes more at most. -/
def btsF : Nat → Nat → List UInt8
  | 0, n => [UInt8.ofNat n]
  | f + 1, n => if n < 128 then [UInt8.ofNat n] else UInt8.ofNat (n % 128 + 128) :: btsF f (n / 128)

def bts (n : Nat) : List UInt8 := btsF n n

theorem btsF_lt (f n : Nat) (h : n < 128) : btsF f n = [UInt8.ofNat n] := by
  cases f with
  | zero => rfl
  | succ f => simp [btsF, h]

theorem btsF_same : ∀ (f g n : Nat), n ≤ f → n ≤ g → btsF f n = btsF g n
  | 0, g, n, h, k => by rw [btsF_lt _ _ (by omega), btsF_lt _ _ (by omega)]
  | f + 1, g, n, h, k => by
    by_cases hn : n < 128
    · rw [btsF_lt _ _ hn, btsF_lt _ _ hn]
    · cases g with
      | zero => omega
      | succ g =>
        simp only [btsF, hn, if_false]
        rw [btsF_same f g (n / 128) (by omega) (by omega)]

theorem bts_lt {n : Nat} (h : n < 128) : bts n = [UInt8.ofNat n] := btsF_lt _ _ h

theorem bts_ge {n : Nat} (h : ¬ n < 128) : bts n = UInt8.ofNat (n % 128 + 128) :: bts (n / 128) := by
  unfold bts
  cases n with
  | zero => omega
  | succ k =>
    rw [show btsF (k + 1) (k + 1) = if k + 1 < 128 then [UInt8.ofNat (k + 1)] else UInt8.ofNat ((k + 1) % 128 + 128) :: btsF k ((k + 1) / 128) from rfl, if_neg h, btsF_same k ((k + 1) / 128) _ (by omega) (Nat.le_refl _)]

theorem bts_len : ∀ (k n : Nat), n < 128 ^ (k + 1) → (bts n).length ≤ k + 1
  | 0, n, h => by rw [bts_lt (by simpa using h)]; simp
  | k + 1, n, h => by
    by_cases hn : n < 128
    · rw [bts_lt hn]; simp
    · rw [bts_ge hn]
      have := bts_len k (n / 128) (by rw [Nat.pow_succ] at h; exact Nat.div_lt_of_lt_mul (by rw [Nat.mul_comm]; exact h))
      simp
      omega

theorem bts_len10 {n : Nat} (h : n ≤ 18446744073709551615) : (bts n).length ≤ 10 := bts_len 9 n (by omega)

theorem u8_of {x y : Nat} (hx : x < 256) (hy : y < 256) (h : UInt8.ofNat x = UInt8.ofNat y) : x = y := by
  have := congrArg UInt8.toNat h
  rw [UInt8.toNat_ofNat', UInt8.toNat_ofNat'] at this
  omega

/-- What f writes tells where it ends, among those that p allows. -/
def PF {α : Type} (p : α → Prop) (f : α → List UInt8) : Prop := ∀ x y r s, p x → p y → f x ++ r = f y ++ s → x = y ∧ r = s

theorem bts_pf : ∀ (n x y : Nat) (r s : List UInt8), x ≤ n → bts x ++ r = bts y ++ s → x = y ∧ r = s
  | n, x, y, r, s, hn, h => by
    by_cases hx : x < 128
    · by_cases hy : y < 128
      · rw [bts_lt hx, bts_lt hy] at h
        simp at h
        exact ⟨u8_of (by omega) (by omega) h.1, h.2⟩
      · rw [bts_lt hx, bts_ge hy] at h
        simp only [List.cons_append, List.nil_append, List.cons.injEq] at h
        have := u8_of (by omega) (by omega) h.1
        omega
    · by_cases hy : y < 128
      · rw [bts_ge hx, bts_lt hy] at h
        simp only [List.cons_append, List.nil_append, List.cons.injEq] at h
        have := u8_of (by omega) (by omega) h.1
        omega
      · cases n with
        | zero => omega
        | succ n =>
          rw [bts_ge hx, bts_ge hy] at h
          simp only [List.cons_append, List.cons.injEq] at h
          have h1 := u8_of (by omega) (by omega) h.1
          obtain ⟨h2, h3⟩ := bts_pf n (x / 128) (y / 128) r s (by omega) h.2
          exact ⟨by omega, h3⟩

theorem PF.bts : PF (fun _ : Nat => True) bts := fun x y r s _ _ h => bts_pf x x y r s (Nat.le_refl _) h

/-- The sign as the lowest bit. -/
def zig (z : Int) : Nat := if 0 ≤ z then (2 * z).toNat else (-2 * z - 1).toNat

def numB (z : Int) : List UInt8 := Go.Proofs.YtppbllandnbgbaaGreatDoor.bts (zig z)

theorem PF.num : PF (fun _ : Int => True) numB := fun x y r s _ _ h => by
  obtain ⟨h1, h2⟩ := bts_pf _ _ _ r s (Nat.le_refl _) h
  refine ⟨?_, h2⟩
  unfold zig at h1
  split at h1 <;> split at h1 <;> omega

def txB (s : ByteArray) : List UInt8 := Go.Proofs.YtppbllandnbgbaaGreatDoor.bts s.size ++ s.data.toList

theorem txB_pf (x y : ByteArray) (r s : List UInt8) (h : txB x ++ r = txB y ++ s) : x = y ∧ r = s := by
  unfold txB at h
  rw [List.append_assoc, List.append_assoc] at h
  obtain ⟨h1, h2⟩ := bts_pf _ _ _ _ _ (Nat.le_refl _) h
  obtain ⟨h3, h4⟩ := List.append_inj h2 (by simpa using h1)
  refine ⟨?_, h4⟩
  cases x with
  | mk x => cases y with
    | mk y =>
      have : x = y := Array.toList_inj.1 h3
      rw [this]

/-- How many, and then these. -/
def eaB {α : Type} (f : α → List UInt8) (L : List α) : List UInt8 := Go.Proofs.YtppbllandnbgbaaGreatDoor.bts L.length ++ (L.map f).flatten

theorem flat_pf {α : Type} {p : α → Prop} {f : α → List UInt8} (hf : PF p f) : ∀ (L M : List α) (r s : List UInt8), L.length = M.length → (∀ x ∈ L, p x) → (∀ x ∈ M, p x) → (L.map f).flatten ++ r = (M.map f).flatten ++ s → L = M ∧ r = s
  | [], [], r, s, _, _, _, h => ⟨rfl, by simpa using h⟩
  | [], _ :: _, _, _, h, _, _, _ => by simp at h
  | _ :: _, [], _, _, h, _, _, _ => by simp at h
  | x :: L, y :: M, r, s, hl, hp, hq, h => by
    simp only [List.map_cons, List.flatten_cons, List.append_assoc] at h
    obtain ⟨rfl, h2⟩ := hf x y _ _ (hp x (by simp)) (hq y (by simp)) h
    obtain ⟨rfl, h3⟩ := flat_pf hf L M r s (by simpa using hl) (fun z hz => hp z (by simp [hz])) (fun z hz => hq z (by simp [hz])) h2
    exact ⟨rfl, h3⟩

theorem PF.each {α : Type} {p : α → Prop} {f : α → List UInt8} (hf : PF p f) : PF (fun L : List α => ∀ x ∈ L, p x) (eaB f) := fun L M r s hL hM h => by
  unfold eaB at h
  rw [List.append_assoc, List.append_assoc] at h
  obtain ⟨h1, h2⟩ := bts_pf _ _ _ _ _ (Nat.le_refl _) h
  exact flat_pf hf L M r s h1 hL hM h2

mutual
/-- A value. -/
def vB : T → List UInt8
  | .node k n s L => UInt8.ofNat k.toNat :: (if k = 1 ∨ k = 2 then numB n else if k = 3 then txB s else if k = 4 then Go.Proofs.YtppbllandnbgbaaGreatDoor.bts L.length ++ vsB L else [])
def vsB : List T → List UInt8
  | [] => []
  | t :: ts => vB t ++ vsB ts
end

theorem vsB_map : ∀ L : List T, vsB L = (L.map vB).flatten
  | [] => by simp [vsB]
  | t :: ts => by rw [vsB, vsB_map ts]; simp

theorem ck_kind {d : Nat} {k n : Int} {s : ByteArray} {L : List T} (h : Ck d (.node k n s L)) : 0 ≤ k ∧ k ≤ 4 := by
  cases h <;> omega

theorem vB_pf : ∀ (d : Nat) (x y : T) (r s : List UInt8), Ck d x → Ck d y → vB x ++ r = vB y ++ s → x = y ∧ r = s
  | d, .node k n t L, .node k' n' t' L', r, s, hx, hy, h => by
    have e1 := ck_kind hx
    have e2 := ck_kind hy
    rw [vB, vB] at h
    simp only [List.cons_append, List.cons.injEq] at h
    obtain ⟨h1, h2⟩ := h
    have hk := u8_of (by omega) (by omega) h1
    have hk2 : k = k' := by omega
    subst hk2
    cases hx with
    | null => cases hy; simp at h2; exact ⟨rfl, h2⟩
    | bool _ _ a =>
      cases hy
      obtain ⟨h3, h4⟩ := PF.num _ _ r s trivial trivial (by simpa using h2)
      exact ⟨by rw [h3], h4⟩
    | int _ _ a b =>
      cases hy
      obtain ⟨h3, h4⟩ := PF.num _ _ r s trivial trivial (by simpa using h2)
      exact ⟨by rw [h3], h4⟩
    | text _ _ a b =>
      cases hy
      obtain ⟨h3, h4⟩ := txB_pf _ _ r s (by simpa using h2)
      exact ⟨by rw [h3], h4⟩
    | list d _ a b =>
      cases hy with
      | list _ _ a' b' =>
        have h3 : (Go.Proofs.YtppbllandnbgbaaGreatDoor.bts L.length ++ vsB L) ++ r = (Go.Proofs.YtppbllandnbgbaaGreatDoor.bts L'.length ++ vsB L') ++ s := by simpa using h2
        rw [vsB_map, vsB_map] at h3
        obtain ⟨h4, h5⟩ := PF.each (p := Ck d) (fun x y r s hx hy h => vB_pf d x y r s hx hy h) L L' r s b b' h3
        exact ⟨by rw [h4], h5⟩

def pB (p : AP) : List UInt8 := txB p.name ++ vB p.t
def nB (x : AN) : List UInt8 := numB x.id ++ (eaB txB x.labs ++ eaB pB x.props)
def eB (x : AE) : List UInt8 := numB x.id ++ (numB x.frm ++ (numB x.dst ++ (txB x.typ ++ eaB pB x.props)))
def gB (nx : Int) (N : List AN) (E : List AE) : List UInt8 := numB nx ++ (eaB nB N ++ eaB eB E)

theorem pB_pf : PF (fun p : AP => Ck 6 p.t) pB := fun x y r s hx hy h => by
  unfold pB at h
  rw [List.append_assoc, List.append_assoc] at h
  obtain ⟨h1, h2⟩ := txB_pf _ _ _ _ h
  obtain ⟨h3, h4⟩ := vB_pf 6 _ _ _ _ hx hy h2
  cases x; cases y
  exact ⟨by simp at h1 h3; rw [h1, h3], h4⟩

theorem txB_PF : PF (fun _ : ByteArray => True) txB := fun x y r s _ _ h => txB_pf x y r s h

theorem nB_pf : PF (fun x : AN => ∀ p ∈ x.props, Ck 6 p.t) nB := fun x y r s hx hy h => by
  unfold nB at h
  simp only [List.append_assoc] at h
  obtain ⟨h1, h2⟩ := PF.num _ _ _ _ trivial trivial h
  obtain ⟨h3, h4⟩ := txB_PF.each _ _ _ _ (fun _ _ => trivial) (fun _ _ => trivial) h2
  obtain ⟨h5, h6⟩ := pB_pf.each _ _ _ _ hx hy h4
  cases x; cases y
  exact ⟨by simp at h1 h3 h5; rw [h1, h3, h5], h6⟩

theorem eB_pf : PF (fun x : AE => ∀ p ∈ x.props, Ck 6 p.t) eB := fun x y r s hx hy h => by
  unfold eB at h
  simp only [List.append_assoc] at h
  obtain ⟨h1, h2⟩ := PF.num _ _ _ _ trivial trivial h
  obtain ⟨h3, h4⟩ := PF.num _ _ _ _ trivial trivial h2
  obtain ⟨h5, h6⟩ := PF.num _ _ _ _ trivial trivial h4
  obtain ⟨h7, h8⟩ := txB_pf _ _ _ _ h6
  obtain ⟨h9, h10⟩ := pB_pf.each _ _ _ _ hx hy h8
  cases x; cases y
  exact ⟨by simp at h1 h3 h5 h7 h9; rw [h1, h3, h5, h7, h9], h10⟩

theorem gB_inj {nx mx : Int} {N M : List AN} {E F : List AE} (hN : ∀ x ∈ N, ∀ p ∈ x.props, Ck 6 p.t) (hE : ∀ x ∈ E, ∀ p ∈ x.props, Ck 6 p.t) (hM : ∀ x ∈ M, ∀ p ∈ x.props, Ck 6 p.t) (hF : ∀ x ∈ F, ∀ p ∈ x.props, Ck 6 p.t) (h : gB nx N E = gB mx M F) : nx = mx ∧ N = M ∧ E = F := by
  unfold gB at h
  have h' : numB nx ++ (eaB nB N ++ (eaB eB E ++ [])) = numB mx ++ (eaB nB M ++ (eaB eB F ++ [])) := by simpa using h
  obtain ⟨h1, h2⟩ := PF.num _ _ _ _ trivial trivial h'
  obtain ⟨h3, h4⟩ := nB_pf.each _ _ _ _ hN hM h2
  obtain ⟨h5, _⟩ := eB_pf.each _ _ _ _ hE hF h4
  exact ⟨h1, h3, h5⟩

theorem own_slice {B n size : Nat} {e : TypeId} {v : Value} {xs : List Value} {w : World} (h : w.ownsRow B e size v n xs) : ∃ a n c, v = .slice a n c := by
  rcases h.2 with ⟨h0, _⟩ | ⟨g, cap, cur, e1, _⟩
  · exact ⟨_, _, _, h0⟩
  · exact ⟨_, _, _, e1⟩

theorem or128 (m : Nat) : bits .or .u8 ((m : Int) % 256) 128 = ((m % 128 + 128 : Nat) : Int) := by
  have h : ∀ r : Fin 256, bits .or .u8 (r.val : Int) 128 = ((r.val % 128 + 128 : Nat) : Int) := by decide +kernel
  have := h ⟨m % 256, by omega⟩
  simp only at this
  rw [show ((m : Int) % 256) = ((m % 256 : Nat) : Int) from by omega, this]
  omega

set_option maxHeartbeats 1000000 in
set_option maxRecDepth 100000 in
theorem bits_any (b n : Nat) (l : List UInt8) (w : World) (h : Wr b w l) (hn : n ≤ 18446744073709551615) (hl : l.length ≤ 100000000000000) :
    Calls Tryz.prog 46 #[.pointer (some ⟨b, 0, none⟩), .int .u64 n] w fun e w' => e = .returned (.tuple #[]) ∧ Wr b w' (l ++ bts n) ∧ Below b w w' ∧ Fr b w w' := by
  obtain ⟨i0, hi, hz0, hz1, hz2⟩ := info_byte
  have H := toHid h
  clear h
  go_enter Tryz.func46, Tryz.ntmps46
  go_wp2_with fail
  go_loopg [1] n (fun g s1 wr => ∃ (m : Nat) (L : List UInt8), s1 = .int .u64 m ∧ m ≤ n ∧ m ≤ g ∧ Wr b wr L ∧ L ++ bts m = l ++ bts n ∧ Below b w wr ∧ Fr b w wr)
  case atStart => exact ⟨n, l, rfl, Nat.le_refl _, Nat.le_refl _, H.out, rfl, Below.refl _ _, Fr.refl _ _⟩
  case round =>
    clear H
    obtain ⟨m, L, rfl, hmn, hg, hW, hE, hb, hfr⟩ := hrel
    have hlen : L.length ≤ 100000000000010 := by
      have e := congrArg List.length hE
      rw [List.length_append, List.length_append] at e
      have := bts_len10 hn
      omega
    have hlt := hW.lt
    obtain ⟨v, hv, hO⟩ := hW
    obtain ⟨a0, c0, rfl⟩ := hO.len
    have HV := toHid hv
    have HO := toHid hO
    have HE := toHid hE
    have x0 := cell_of hv 0
    have f0 := free_of hv 0
    simp at x0
    clear hO hv hE
    by_cases hm : m < 128
    · have hm' : ¬ (128 : Int) ≤ m := by omega
      go_wp2_with (at_builtin; refine wpList_append_own _ rfl _ _ 37 rfl (b + 1) BE i0 (.int .u8 0) 1 1 Tryz.underlying37 hi hz0 hz1 hz2 rfl (by decide) _ _ _ rfl (HO.out.alloc _) ⟨wr.heap.size, 0, none⟩ 1 1 [.int .u8 m] rfl rfl (one_new _ _ _) (fun x hx => by simp at hx; subst hx; rfl) (by unfold maxLen; omega) (by omega) (by simp; omega) ?_)
      intro v2 w2 hown2 hg2 _
      obtain ⟨a2, n2, c2, rfl⟩ := own_slice hown2
      obtain ⟨e1, hW2, hb2, hf2⟩ := Wr.put (m := [UInt8.ofNat m]) ((Below.heap_alloc _ _ b hlt).trans HV.out) (by simp; omega) (HO.out.alloc _) hown2 hg2 (by simp [Lib.byteCells, UInt8.toNat_ofNat']; omega)
      have y0 := cell_of e1 0
      have g0 := free_of e1 0
      simp at y0
      have hlt2 : b < w2.heap.size := (Array.getElem?_eq_some_iff.1 e1).1
      have HW2 := toHid hW2
      have HB2 := toHid (hb.trans (((Below.refl _ _).alloc (Nat.le_of_lt hlt) _).trans hb2))
      have HF2 := toHid (hfr.trans ((Fr.below ((Below.refl _ _).alloc (Nat.le_refl _) _)).trans hf2))
      clear hown2 hg2 e1 hW2 hb2 hf2 x0 f0
      go_wp2_with fail
      exact bodyPost_end (v := .tuple #[]) (by simp [results, Tryz.results46, go_sem]) rfl ⟨rfl, by rw [← HE.out, bts_lt hm]; exact HW2.out, HB2.out, HF2.out⟩
    · have hm' : (128 : Int) ≤ m := by omega
      go_wp2_with (at_builtin; rw [or128]; refine wpList_append_own _ rfl _ _ 37 rfl (b + 1) BE i0 (.int .u8 0) 1 1 Tryz.underlying37 hi hz0 hz1 hz2 rfl (by decide) _ _ _ rfl (HO.out.alloc _) ⟨wr.heap.size, 0, none⟩ 1 1 [.int .u8 ((m % 128 + 128 : Nat) : Int)] rfl rfl (one_new _ _ _) (fun x hx => by simp at hx; subst hx; rfl) (by unfold maxLen; omega) (by omega) (by simp; omega) ?_)
      intro v2 w2 hown2 hg2 _
      obtain ⟨a2, n2, c2, rfl⟩ := own_slice hown2
      obtain ⟨e1, hW2, hb2, hf2⟩ := Wr.put (m := [UInt8.ofNat (m % 128 + 128)]) ((Below.heap_alloc _ _ b hlt).trans HV.out) (by simp; omega) (HO.out.alloc _) hown2 hg2 (by simp [Lib.byteCells, UInt8.toNat_ofNat']; omega)
      have y0 := cell_of e1 0
      have g0 := free_of e1 0
      simp at y0
      have hlt2 : b < w2.heap.size := (Array.getElem?_eq_some_iff.1 e1).1
      have HW2 := toHid hW2
      have HB2 := toHid (hb.trans (((Below.refl _ _).alloc (Nat.le_of_lt hlt) _).trans hb2))
      have HF2 := toHid (hfr.trans ((Fr.below ((Below.refl _ _).alloc (Nat.le_refl _) _)).trans hf2))
      clear hown2 hg2 e1 hW2 hb2 hf2 x0 f0
      go_wp2_with fail
      go_roundg (m / 128)
      case measure => omega
      case rel => exact ⟨m / 128, L ++ [UInt8.ofNat (m % 128 + 128)], by go_num, by omega, Nat.le_refl _, HW2.out, by rw [← HE.out, bts_ge hm, List.append_assoc]; rfl, HB2.out, HF2.out⟩

theorem xor_ones (a : Nat) (h : a < 18446744073709551616) : a ^^^ 18446744073709551615 = 18446744073709551615 - a := by
  have := congrArg BitVec.toNat (BitVec.xor_allOnes (x := BitVec.ofNat 64 a))
  rw [BitVec.toNat_xor, BitVec.toNat_allOnes, BitVec.toNat_not, BitVec.toNat_ofNat, Nat.mod_eq_of_lt h] at this
  simpa using this

theorem zig_eq (z : Int) (h0 : -9223372036854775808 ≤ z) (h1 : z ≤ 9223372036854775807) : bits .xor .u64 (IntKind.u64.wrap (IntKind.u64.wrap z * 2)) (IntKind.u64.wrap (z / 9223372036854775808)) = (zig z : Int) := by
  rw [IntKind.wrap_u64, IntKind.wrap_u64, IntKind.wrap_u64]
  unfold zig
  split
  · rw [show z / 9223372036854775808 % 18446744073709551616 = ((0 : Nat) : Int) from by omega, show z % 18446744073709551616 * 2 % 18446744073709551616 = (((2 * z).toNat : Nat) : Int) from by omega, u64_xor_nat _ _ (by omega) (by omega), Nat.xor_zero]
  · rw [show z / 9223372036854775808 % 18446744073709551616 = ((18446744073709551615 : Nat) : Int) from by omega, show z % 18446744073709551616 * 2 % 18446744073709551616 = (((2 * z + 18446744073709551616).toNat : Nat) : Int) from by omega, u64_xor_nat _ _ (by omega) (by omega), xor_ones _ (by omega)]
    omega

theorem zig_le (z : Int) (h0 : -9223372036854775808 ≤ z) (h1 : z ≤ 9223372036854775807) : zig z ≤ 18446744073709551615 := by
  unfold zig
  split <;> omega

set_option maxHeartbeats 1000000 in
set_option maxRecDepth 100000 in
theorem number_any (b : Nat) (z : Int) (l : List UInt8) (w : World) (h : Wr b w l) (h0 : -9223372036854775808 ≤ z) (h1 : z ≤ 9223372036854775807) (hl : l.length ≤ 100000000000000) :
    Calls Tryz.prog 25 #[.pointer (some ⟨b, 0, none⟩), .int .i64 z] w fun e w' => e = .returned (.tuple #[]) ∧ Wr b w' (l ++ numB z) ∧ Below b w w' ∧ Fr b w w' := by
  have HZ := toHid (zig_eq z h0 h1)
  go_enter Tryz.func25, Tryz.ntmps25
  go_wp2_with fail
  rw [HZ.out]
  refine (bits_any b (zig z) l w h (zig_le z h0 h1) hl).mono ?_
  rintro e w1 ⟨rfl, hW1, hb1, hf1⟩
  go_wp2_with fail
  exact bodyPost_end (v := .tuple #[]) (by simp [results, Tryz.results25, go_sem]) rfl ⟨rfl, hW1, hb1, hf1⟩

set_option maxHeartbeats 1000000 in
set_option maxRecDepth 100000 in
theorem text_any (b : Nat) (s : ByteArray) (l : List UInt8) (w : World) (h : Wr b w l) (hs : s.size ≤ 1000000) (hl : l.length ≤ 100000000000000) :
    Calls Tryz.prog 48 #[.pointer (some ⟨b, 0, none⟩), .string s] w fun e w' => e = .returned (.tuple #[]) ∧ Wr b w' (l ++ txB s) ∧ Below b w w' ∧ Fr b w w' := by
  obtain ⟨i0, hi, hz0, hz1, hz2⟩ := info_byte
  go_enter Tryz.func48, Tryz.ntmps48
  go_wp2_with fail
  refine (bits_any b s.size l w h (by omega) hl).mono ?_
  rintro e w1 ⟨rfl, hW1, hb1, hf1⟩
  have hlen : (l ++ bts s.size).length ≤ 100000000000010 := by
    rw [List.length_append]
    have := bts_len10 (n := s.size) (by omega)
    omega
  obtain ⟨L, hL⟩ : ∃ L, L = l ++ bts s.size := ⟨_, rfl⟩
  rw [← hL] at hW1 hlen
  have hlt := hW1.lt
  obtain ⟨v, hv, hO⟩ := hW1
  obtain ⟨a0, c0, rfl⟩ := hO.len
  have HV := toHid hv
  have HO := toHid hO
  have HL := toHid hL
  have x0 := cell_of hv 0
  have f0 := free_of hv 0
  simp at x0
  clear hO hv hL
  go_wp2_with (at_builtin; refine Lib.wpList_append_own_string _ rfl _ _ 37 9 rfl (b + 1) BE i0 Tryz.underlying37 Tryz.underlying9 hi hz0 hz1 hz2 _ _ _ rfl HO.out s rfl ?c3 ?c4 ?c5 ?_)
  case c3 => unfold maxLen; omega
  case c4 => omega
  case c5 => exact hlt
  intro v2 w2 hown2 hg2 _
  obtain ⟨a2, n2, c2, rfl⟩ := own_slice hown2
  obtain ⟨e1, hW2, hb2, hf2⟩ := Wr.put (m := s.data.toList) HV.out hlt HO.out hown2 hg2 rfl
  have y0 := cell_of e1 0
  have g0 := free_of e1 0
  simp at y0
  have hlt2 : b < w2.heap.size := (Array.getElem?_eq_some_iff.1 e1).1
  have HW2 := toHid hW2
  have HB2 := toHid (hb1.trans hb2)
  have HF2 := toHid (hf1.trans hf2)
  clear hown2 hg2 e1 hW2 hb2 hf2 x0 f0
  go_wp2_with fail
  exact bodyPost_end (v := .tuple #[]) (by simp [results, Tryz.results48, go_sem]) rfl ⟨rfl, by have := HW2.out; rw [HL.out, List.append_assoc] at this; exact this, HB2.out, HF2.out⟩

theorem flat_step {α : Type} {f : α → List UInt8} {X : List α} {i : Nat} {x : α} (h : X[i]? = some x) : ((X.take (i + 1)).map f).flatten = ((X.take i).map f).flatten ++ f x := by
  rw [List.take_add_one, h]
  simp

theorem flat_le {α : Type} (f : α → List UInt8) (X : List α) (i : Nat) : ((X.take i).map f).flatten.length ≤ (X.map f).flatten.length := by
  have e : X.map f = (X.take i).map f ++ (X.drop i).map f := by rw [← List.map_append, List.take_append_drop]
  rw [e, List.flatten_append, List.length_append]
  omega

set_option maxHeartbeats 2000000 in
set_option maxRecDepth 100000 in
theorem eachS_any (w0 w : World) (b : Nat) (l : List UInt8) (X : List ByteArray) (a : Option Addr) (n c : Nat) (hX : StrsAt w0 X a n) (hw : Below w0.heap.size w0 w) (hb : w0.heap.size ≤ b) (h : Wr b w l) (hlen : (l ++ eaB txB X).length ≤ 100000000000000) (hsz : ∀ s ∈ X, s.size ≤ 1000000) :
    Calls Tryz.prog 47 #[.pointer (some ⟨b, 0, none⟩), .slice a n c, .func (.func 48) #[.pointer (some ⟨b, 0, none⟩)] #[]] w fun e w' => e = .returned (.tuple #[]) ∧ Wr b w' (l ++ eaB txB X) ∧ Below b w w' ∧ Fr b w w' := by
  have hn : n = X.length ∧ n ≤ 9223372036854775807 := ⟨hX.1, hX.2.1⟩
  have hlen' : l.length + ((bts n).length + ((X.map txB).flatten).length) ≤ 100000000000000 := by
    have e := hlen
    unfold eaB at e
    rw [← hn.1, List.length_append, List.length_append] at e
    exact e
  have HX := toHid hX
  have HN := toHid hn.1
  have hn2 := hn.2
  have HW := toHid h
  have HSZ := toHid hsz
  clear hsz
  clear hX hn h hlen
  go_enter Tryz.func47, Tryz.ntmps47
  go_wp2_with fail
  refine (bits_any b n l w HW.out (by omega) (by omega)).mono ?_
  rintro e w1 ⟨rfl, hW1, hb1, hf1⟩
  have HW1 := toHid hW1
  clear hW1 HW
  go_wp2_with fail
  go_loopg [15] n (fun g s15 wr => ∃ (i : Nat), i ≤ n ∧ n - i ≤ g ∧ s15 = .int .i64 i ∧ Wr b wr (l ++ (bts n ++ ((X.take i).map txB).flatten)) ∧ Below b w wr ∧ Fr b w wr)
  case atStart => exact ⟨0, Nat.zero_le _, by omega, rfl, by simpa using HW1.out, hb1, hf1⟩
  case round =>
    clear HW1 hb1 hf1
    obtain ⟨i, hi, hg, rfl, hW, hbw, hfr⟩ := hrel
    have HW := toHid hW
    clear hW
    have hw0 : Below w0.heap.size w0 wr := hw.trans (hbw.mono hb)
    have hlb := HW.out.lt
    by_cases hlt : i < n
    · have hil : (i : Int) < n := by omega
      obtain ⟨nb, off, ha, hnb, hc⟩ := HX.out.2.2 (by omega)
      subst ha
      obtain ⟨y, hy⟩ : ∃ y, X[i]? = some y := ⟨X[i]'(by rw [← HN.out]; exact hlt), List.getElem?_eq_getElem _⟩
      obtain ⟨hs, c0⟩ := hc i y hy
      have q : ∀ o, wr.cell? ⟨nb, o, none⟩ = w0.cell? ⟨nb, o, none⟩ := fun o => hw0.cell (p := ⟨nb, o, none⟩) hnb
      have d0 := (q _).trans c0
      clear q c0
      clear hc
      have HX2 : Hid (X[i]? = some y) := hy
      have hle := flat_le txB X (i + 1)
      have hst := flat_step (f := txB) hy
      rw [hst, List.length_append] at hle
      have HST := toHid hst
      clear hy hst
      go_wp2_with fail
      clear d0
      refine (text_any b y (l ++ (bts n ++ ((X.take i).map txB).flatten)) wr HW.out (HSZ.out y (List.mem_of_getElem? HX2.out)) (by simp only [List.length_append]; omega)).mono ?_
      rintro e w2 ⟨rfl, hW2, hb2, hf2⟩
      have HF2 := toHid (hfr.trans hf2)
      have HB2 := toHid (hbw.trans hb2)
      have HW2 := toHid hW2
      clear hW2 hb2 hf2
      go_wp2_with fail
      go_roundg (n - (i + 1))
      case measure => omega
      case rel => exact ⟨i + 1, by omega, by omega, by go_num, by rw [HST.out, ← List.append_assoc (bts n), ← List.append_assoc l]; exact HW2.out, HB2.out, HF2.out⟩
    · have hil : ¬ (i : Int) < n := by omega
      have hin : i = n := by omega
      have hT : X.take i = X := List.take_of_length_le (by rw [← HN.out]; omega)
      go_wp2_with fail
      exact bodyPost_end (v := .tuple #[]) (by simp [results, Tryz.results47, go_sem]) rfl ⟨rfl, by have := HW.out; rw [hT] at this; unfold eaB; rw [← HN.out]; exact this, hbw, hfr⟩
end Go.Proofs.YtppbllandnbgbaaGreatDoor
