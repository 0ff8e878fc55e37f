/-
  What is proved here: what the texts KkRt, KpRead, KpBack, KrK, KrOf prove, in one text.
-/
import Derived.Test.YtppbllandnbgbaaGreatDoorQGAS
import Derived.Test.YtppbllandnbgbaaGreatDoorQGAL
import Derived.Test.YtppbllandnbgbaaGreatDoorQGAR
import Derived.Test.YtppbllandnbgbaaGreatDoorQGAH
import Derived.Test.YtppbllandnbgbaaGreatDoorQGAG
import Derived.Lib.ConvBytes
namespace Go.Proofs.YtppbllandnbgbaaGreatDoor
open Go.RowKit
set_option linter.unusedVariables false

/-- A graph that its check takes, by what it holds, is right. -/
theorem gr_rightU {w : World} {N : List Nd} {E : List Ed} {na : Option Addr} {nl : Nat} {ea : Option Addr} {el : Nat} {next : Int} (h : GrOk w N E na nl ea el) (h0 : gE N E next = 0) (M : Nat) (u1 : ∀ x ∈ N, ∀ p ∈ x.props, PrOkU w M p) (u2 : ∀ x ∈ E, ∀ p ∈ x.props, PrOkU w M p) :
    ∃ XN XE, NsAt w XN na nl ∧ EsAt w XE ea el ∧ (∀ made, Rt ⟨XN, XE, next, made⟩) ∧ (∀ x ∈ XN, ∀ q ∈ x.props, wtT q.t ≤ M + 1) ∧ ∀ x ∈ XE, ∀ q ∈ x.props, wtT q.t ≤ M + 1 := by
  obtain ⟨h1, h2, h3, h4⟩ := h
  have r := (gE_iff N E next).1 h0
  obtain ⟨XN, p1, o1⟩ := nodes_right h3 r.nds
  obtain ⟨XE, p2, o2⟩ := edges_right h2 h4 (fun x hx => (r.eds x hx).2.2.2.2)
  have e1 : N.map Nd.id = XN.map AN.id := pair_map p1 fun p x h => h.1
  have e2 : E.map Ed.id = XE.map AE.id := pair_map p2 fun p x h => h.1
  have one : ∀ (pr : Pr) (q : AP), PrIn AnyB w pr q → PrOkU w M pr → wtT q.t ≤ M + 1 := fun pr q hq hu => by
    obtain ⟨_, _, _, _, Lt, e, hL⟩ := hq
    have := hu.2 Lt (LieA.lies _ _ _ hL)
    rw [e, wtT]
    omega
  have w1 : ∀ x ∈ XN, ∀ q ∈ x.props, wtT q.t ≤ M + 1 := fun x hx q hq => by
    obtain ⟨p, hp, h⟩ := pair_mem p1 hx
    obtain ⟨pr, hpr, h'⟩ := pair_mem h.2.2.2.2 hq
    exact one pr q h' (u1 p hp pr hpr)
  have w2 : ∀ x ∈ XE, ∀ q ∈ x.props, wtT q.t ≤ M + 1 := fun x hx q hq => by
    obtain ⟨p, hp, h⟩ := pair_mem p2 hx
    obtain ⟨pr, hpr, h'⟩ := pair_mem h.2.2.2.2.2.2 hq
    exact one pr q h' (u2 p hp pr hpr)
  refine ⟨XN, XE, ⟨N, h1, p1⟩, ⟨E, h2, p2⟩, ?_, w1, w2⟩
  refine fun made => ⟨by show XN.length ≤ 40; rw [← p1.1]; exact r.n40, by show XE.length ≤ 60; rw [← p2.1]; exact r.e60, by show Rise (XN.map AN.id); rw [← e1]; exact r.nri, by show Rise (XE.map AE.id); rw [← e2]; exact r.eri, r.pos, r.most, fun X hX => ?_, fun X hX => ?_, o1, fun X hX => ?_⟩
  · obtain ⟨p, hp, h⟩ := pair_mem p1 hX
    rw [← h.1]
    exact r.nid p hp
  · obtain ⟨p, hp, h⟩ := pair_mem p2 hX
    have hno := (r.eds p hp).1
    unfold hasN at hno
    rw [e1] at hno
    rw [← h.1]
    exact ⟨(r.eid p hp).1, (r.eid p hp).2, by simpa using hno⟩
  · obtain ⟨p, hp, h⟩ := pair_mem p2 hX
    have hq := r.eds p hp
    unfold hasN at hq
    rw [e1] at hq
    rw [← h.2.1, ← h.2.2.1, ← h.2.2.2.1]
    exact ⟨hq.2.1, by simpa using hq.2.2.1, by simpa using hq.2.2.2.1, o2 X hX⟩

theorem numB_len {z : Int} (h0 : -9223372036854775808 ≤ z) (h1 : z ≤ 9223372036854775807) : (numB z).length ≤ 10 := bts_len10 (zig_le z h0 h1)

theorem txB_len {s : ByteArray} (h : s.size ≤ 1000000) : (txB s).length ≤ 10 + s.size := by
  unfold txB
  rw [List.length_append]
  have := bts_len10 (n := s.size) (by omega)
  have e : s.data.toList.length = s.size := by simp
  omega

theorem flat_bound {α : Type} {f : α → List UInt8} {c : Nat} : ∀ L : List α, (∀ x ∈ L, (f x).length ≤ c) → ((L.map f).flatten).length ≤ L.length * c
  | [], _ => by simp
  | x :: L, h => by
    have h1 := h x (by simp)
    have h2 := flat_bound L (fun y hy => h y (by simp [hy]))
    simp only [List.map_cons, List.flatten_cons, List.length_append, List.length_cons, Nat.add_mul, Nat.one_mul]
    omega

theorem eaB_len {α : Type} {f : α → List UInt8} {c : Nat} (L : List α) (h0 : L.length ≤ 1000) (h : ∀ x ∈ L, (f x).length ≤ c) : (eaB f L).length ≤ 10 + L.length * c := by
  unfold eaB
  rw [List.length_append]
  have := bts_len10 (n := L.length) (by omega)
  have := flat_bound L h
  omega

theorem vB_len : ∀ (d : Nat) (t : T), Ck d t → (vB t).length ≤ 4020 * wtT t := by
  intro d
  induction d with
  | zero =>
    intro t h
    cases h with
    | null => simp [vB, wtT, wtL]
    | bool _ n hn =>
      have := numB_len (z := n) (by rcases hn with rfl | rfl <;> omega) (by rcases hn with rfl | rfl <;> omega)
      simp [vB, wtT, wtL]
      omega
    | int _ n a b =>
      have := numB_len a b
      simp [vB, wtT, wtL]
      omega
    | text _ s a b =>
      have := txB_len (s := s) (by omega)
      simp [vB, wtT, wtL]
      omega
  | succ d ih =>
    intro t h
    cases h with
    | null => simp [vB, wtT, wtL]
    | bool _ n hn =>
      have := numB_len (z := n) (by rcases hn with rfl | rfl <;> omega) (by rcases hn with rfl | rfl <;> omega)
      simp [vB, wtT, wtL]
      omega
    | int _ n a b =>
      have := numB_len a b
      simp [vB, wtT, wtL]
      omega
    | text _ s a b =>
      have := txB_len (s := s) (by omega)
      simp [vB, wtT, wtL]
      omega
    | list _ L a b =>
      have all : ∀ L : List T, (∀ t ∈ L, Ck d t) → (vsB L).length + 4020 ≤ 4020 * wtL L := by
        intro L
        induction L with
        | nil => intro _; simp [vsB, wtL]
        | cons t ts ihs =>
          intro h
          have h1 := ih t (h t (by simp))
          have h2 := ihs (fun u hu => h u (by simp [hu]))
          rw [vsB, wtL, List.length_append]
          omega
      have h1 := all L b
      have h2 := bts_len10 (n := L.length) (by omega)
      rw [vB, wtT]
      simp
      omega

theorem pB_len {M : Nat} (p : AP) (hn : p.name.size ≤ 12) (hc : Ck 6 p.t) (hw : wtT p.t ≤ M) : (pB p).length ≤ 22 + 4020 * M := by
  unfold pB
  rw [List.length_append]
  have h1 := txB_len (s := p.name) (by omega)
  have h2 := vB_len 6 p.t hc
  have h3 : 4020 * wtT p.t ≤ 4020 * M := Nat.mul_le_mul_left _ hw
  omega

theorem nm_size {s : ByteArray} (h : nm s = true) : s.size ≤ 12 := by
  unfold nm at h
  simp only [Bool.and_eq_true, decide_eq_true_eq] at h
  exact h.1.2

theorem rt_w {S : WS} (h : Rt S) : (∀ x ∈ S.N, NodeW x) ∧ ∀ x ∈ S.E, EdgeW x := by
  have hnx := h.next
  have idN : ∀ i ∈ S.N.map AN.id, 0 < i ∧ i < S.next := fun i hi => by
    obtain ⟨y, hy, rfl⟩ := List.mem_map.1 hi
    exact h.nid y hy
  refine ⟨fun x hx => ?_, fun x hx => ?_⟩
  · have h1 := h.nid x hx
    have h2 := h.nds x hx
    exact ⟨⟨by omega, by omega⟩, fun s hs => by have := nm_size (h2.1.2.2 s hs); omega, fun p hp => ⟨by have := nm_size (h2.2.2.2 p hp).1; omega, (h2.2.2.2 p hp).2.2⟩⟩
  · have h1 := h.eid x hx
    have h2 := h.eds x hx
    have h3 := idN _ h2.2.1
    have h4 := idN _ h2.2.2.1
    exact ⟨⟨⟨by omega, by omega⟩, ⟨by omega, by omega⟩, ⟨by omega, by omega⟩⟩, by have := nm_size h2.1; omega, fun p hp => ⟨by have := nm_size (h2.2.2.2.2.2 p hp).1; omega, (h2.2.2.2.2.2 p hp).2.2⟩⟩

theorem gB_len {S : WS} (h : Rt S) (w1 : ∀ x ∈ S.N, ∀ q ∈ x.props, wtT q.t ≤ 1048577) (w2 : ∀ x ∈ S.E, ∀ q ∈ x.props, wtT q.t ≤ 1048577) : (gB S.next S.N S.E).length ≤ 100000000000000 := by
  obtain ⟨o1, o2⟩ := rt_w h
  have hnx := h.next
  have hps := h.pos
  have n40 := h.n40
  have e60 := h.e60
  have n1 := numB_len (z := S.next) (by omega) (by omega)
  have a1 : ∀ x ∈ S.N, (nB x).length ≤ 30000000000 := fun x hx => by
    have h2 := h.nds x hx
    have b0 := numB_len (o1 x hx).1.1 (o1 x hx).1.2
    have b1 := eaB_len (f := txB) (c := 22) x.labs (by have := h2.1.2.1; omega) (fun s hs => by have q := nm_size (h2.1.2.2 s hs); have := txB_len (s := s) (by omega); omega)
    have b2 := eaB_len (f := pB) (c := 22 + 4020 * 1048577) x.props (by have := h2.2.2.1; omega) (fun p hp => pB_len p (nm_size (h2.2.2.2 p hp).1) (h2.2.2.2 p hp).2.2 (w1 x hx p hp))
    have l1 := h2.1.2.1
    have l2 := h2.2.2.1
    unfold nB
    rw [List.length_append, List.length_append]
    omega
  have a2 : ∀ x ∈ S.E, (eB x).length ≤ 30000000000 := fun x hx => by
    have h2 := h.eds x hx
    have q := o2 x hx
    have b0 := numB_len q.1.1.1 q.1.1.2
    have b1 := numB_len q.1.2.1.1 q.1.2.1.2
    have b3 := numB_len q.1.2.2.1 q.1.2.2.2
    have b4 := txB_len (s := x.typ) (by have := nm_size h2.1; omega)
    have b5 := nm_size h2.1
    have b2 := eaB_len (f := pB) (c := 22 + 4020 * 1048577) x.props (by have := h2.2.2.2.2.1; omega) (fun p hp => pB_len p (nm_size (h2.2.2.2.2.2 p hp).1) (h2.2.2.2.2.2 p hp).2.2 (w2 x hx p hp))
    have l2 := h2.2.2.2.2.1
    unfold eB
    rw [List.length_append, List.length_append, List.length_append, List.length_append]
    omega
  have c1 := eaB_len S.N (by omega) a1
  have c2 := eaB_len S.E (by omega) a2
  unfold gB
  rw [List.length_append, List.length_append]
  omega

theorem gB_len2 {S : WS} (h : Rt S) (w1 : ∀ x ∈ S.N, ∀ q ∈ x.props, wtT q.t ≤ 2097153) (w2 : ∀ x ∈ S.E, ∀ q ∈ x.props, wtT q.t ≤ 2097153) : (gB S.next S.N S.E).length ≤ 100000000000000 := by
  obtain ⟨o1, o2⟩ := rt_w h
  have hnx := h.next
  have hps := h.pos
  have n40 := h.n40
  have e60 := h.e60
  have n1 := numB_len (z := S.next) (by omega) (by omega)
  have a1 : ∀ x ∈ S.N, (nB x).length ≤ 60000000000 := fun x hx => by
    have h2 := h.nds x hx
    have b0 := numB_len (o1 x hx).1.1 (o1 x hx).1.2
    have b1 := eaB_len (f := txB) (c := 22) x.labs (by have := h2.1.2.1; omega) (fun s hs => by have q := nm_size (h2.1.2.2 s hs); have := txB_len (s := s) (by omega); omega)
    have b2 := eaB_len (f := pB) (c := 22 + 4020 * 2097153) x.props (by have := h2.2.2.1; omega) (fun p hp => pB_len p (nm_size (h2.2.2.2 p hp).1) (h2.2.2.2 p hp).2.2 (w1 x hx p hp))
    have l1 := h2.1.2.1
    have l2 := h2.2.2.1
    unfold nB
    rw [List.length_append, List.length_append]
    omega
  have a2 : ∀ x ∈ S.E, (eB x).length ≤ 60000000000 := fun x hx => by
    have h2 := h.eds x hx
    have q := o2 x hx
    have b0 := numB_len q.1.1.1 q.1.1.2
    have b1 := numB_len q.1.2.1.1 q.1.2.1.2
    have b3 := numB_len q.1.2.2.1 q.1.2.2.2
    have b4 := txB_len (s := x.typ) (by have := nm_size h2.1; omega)
    have b5 := nm_size h2.1
    have b2 := eaB_len (f := pB) (c := 22 + 4020 * 2097153) x.props (by have := h2.2.2.2.2.1; omega) (fun p hp => pB_len p (nm_size (h2.2.2.2.2.2 p hp).1) (h2.2.2.2.2.2 p hp).2.2 (w2 x hx p hp))
    have l2 := h2.2.2.2.2.1
    unfold eB
    rw [List.length_append, List.length_append, List.length_append, List.length_append]
    omega
  have c1 := eaB_len S.N (by omega) a1
  have c2 := eaB_len S.E (by omega) a2
  unfold gB
  rw [List.length_append, List.length_append]
  omega

theorem props_e (B M : Nat) {A : Nat → Prop} {w : World} (hB : B ≤ w.heap.size) (hT : Tabs B w) {P : List Pr} {X : List AP} (h : Pair2 (PrIn A w) P X) (hX : ∀ x ∈ X, InT x.t ∧ wtT x.t ≤ M) :
    ∃ P' : List Pr, (∀ a l, PropsAt w P a l → PropsAt w P' a l) ∧ ∀ p ∈ P', PrOkU w M p := by
  obtain ⟨P', hl, hP⟩ := list_of (fun i (q : Pr) => (∃ p, P[i]? = some p ∧ q.name = p.name ∧ q.k = p.k ∧ q.n = p.n ∧ q.s = p.s ∧ q.a = p.a ∧ q.l = p.l ∧ q.c = p.c) ∧ PrOkU w M q) P.length (fun i hi => by
    have hj : i < X.length := by rw [← h.1]; exact hi
    obtain ⟨h1, h2, h3, h4, Lt, h5, h6⟩ := h.2 i _ _ (List.getElem?_eq_getElem hi) (List.getElem?_eq_getElem hj)
    obtain ⟨hin, hwt⟩ := hX _ (List.getElem_mem hj)
    rw [h5] at hin hwt
    have hL := LieA.lies _ _ _ h6
    obtain ⟨e, he, hck⟩ := bk_all B w hB hT 6 0 rfl P[i].k P[i].n P[i].s P[i].a P[i].l P[i].c Lt h3 hin hL
    refine ⟨{ P[i] with e := e }, ⟨P[i], List.getElem?_eq_getElem hi, rfl, rfl, rfl, rfl, rfl, rfl, rfl⟩, ⟨⟨h3, h4⟩, Lt, hin, hL, he, hck⟩, fun L hL2 => ?_⟩
    rw [liesS_one L Lt _ _ hL2 hL]
    rw [wtT] at hwt
    omega)
  refine ⟨P', fun a l hp => ?_, fun p hp => ?_⟩
  · obtain ⟨q1, q2, q3⟩ := hp
    refine ⟨by rw [hl]; exact q1, q2, fun h0 => ?_⟩
    obtain ⟨b, off, r1, r2, r3⟩ := q3 h0
    refine ⟨b, off, r1, r2, fun i q hq => ?_⟩
    obtain ⟨⟨p, e0, e1, e2, e3, e4, e5, e6, e7⟩, _⟩ := hP i q hq
    rw [e1, e2, e3, e4, e5, e6, e7]
    exact r3 i p e0
  · obtain ⟨i, hi⟩ := List.getElem?_of_mem hp
    exact (hP i p hi).2

theorem nodes_e (B M : Nat) {A : Nat → Prop} {w : World} (hB : B ≤ w.heap.size) (hT : Tabs B w) {P : List Nd} {X : List AN} (h : Pair2 (NQ A w) P X) (hX : ∀ x ∈ X, ∀ p ∈ x.props, InT p.t ∧ wtT p.t ≤ M) :
    ∃ N : List Nd, (∀ a l, NodesAt w P a l → NodesAt w N a l) ∧ ∀ x ∈ N, NdOk w x ∧ ∀ p ∈ x.props, PrOkU w M p := by
  obtain ⟨P', hl, hP⟩ := list_of (fun i (q : Nd) => (∃ p, P[i]? = some p ∧ q.id = p.id ∧ q.la = p.la ∧ q.ll = p.ll ∧ q.lc = p.lc ∧ q.pa = p.pa ∧ q.pl = p.pl ∧ q.pc = p.pc) ∧ NdOk w q ∧ ∀ p ∈ q.props, PrOkU w M p) P.length (fun i hi => by
    have hj : i < X.length := by rw [← h.1]; exact hi
    obtain ⟨h1, h2, h3, h4, h5, h6, h7, h8⟩ := h.2 i _ _ (List.getElem?_eq_getElem hi) (List.getElem?_eq_getElem hj)
    obtain ⟨Q, q1, q2⟩ := props_e B M hB hT h8 (hX _ (List.getElem_mem hj))
    have hpa := row_props h6 (fun p hp => by
      obtain ⟨x, _, hx⟩ := pair_mem' h8 hp
      exact hx.2.1)
    have hst := row_strs h3 (fun s hs => by have := h5 s hs; omega)
    exact ⟨⟨P[i].id, X[i].labs, P[i].la, P[i].ll, P[i].lc, Q, P[i].pa, P[i].pl, P[i].pc⟩, ⟨P[i], List.getElem?_eq_getElem hi, rfl, rfl, rfl, rfl, rfl, rfl, rfl⟩, ⟨hst, q1 _ _ hpa, fun p hp => (q2 p hp).1⟩, q2⟩)
  refine ⟨P', fun a l hp => ?_, fun p hp => ?_⟩
  · obtain ⟨q1, q2, q3⟩ := hp
    refine ⟨by rw [hl]; exact q1, q2, fun h0 => ?_⟩
    obtain ⟨b, off, r1, r2, r3⟩ := q3 h0
    refine ⟨b, off, r1, r2, fun i q hq => ?_⟩
    obtain ⟨⟨p, e0, e1, e2, e3, e4, e5, e6, e7⟩, _⟩ := hP i q hq
    rw [e1, e2, e3, e4, e5, e6, e7]
    exact r3 i p e0
  · obtain ⟨i, hi⟩ := List.getElem?_of_mem hp
    exact (hP i p hi).2

theorem edges_e (B M : Nat) {A : Nat → Prop} {w : World} (hB : B ≤ w.heap.size) (hT : Tabs B w) {P : List Ed} {X : List AE} (h : Pair2 (EQ A w) P X) (hX : ∀ x ∈ X, ∀ p ∈ x.props, InT p.t ∧ wtT p.t ≤ M) :
    ∃ N : List Ed, (∀ a l, EdgesAt w P a l → EdgesAt w N a l) ∧ ∀ x ∈ N, EdOk w x ∧ ∀ p ∈ x.props, PrOkU w M p := by
  obtain ⟨P', hl, hP⟩ := list_of (fun i (q : Ed) => (∃ p, P[i]? = some p ∧ q.id = p.id ∧ q.frm = p.frm ∧ q.dst = p.dst ∧ q.typ = p.typ ∧ q.pa = p.pa ∧ q.pl = p.pl ∧ q.pc = p.pc) ∧ EdOk w q ∧ ∀ p ∈ q.props, PrOkU w M p) P.length (fun i hi => by
    have hj : i < X.length := by rw [← h.1]; exact hi
    obtain ⟨h1, h6, h7, h8⟩ := h.2 i _ _ (List.getElem?_eq_getElem hi) (List.getElem?_eq_getElem hj)
    obtain ⟨Q, q1, q2⟩ := props_e B M hB hT h8 (hX _ (List.getElem_mem hj))
    have hpa := row_props h6 (fun p hp => by
      obtain ⟨x, _, hx⟩ := pair_mem' h8 hp
      exact hx.2.1)
    exact ⟨⟨P[i].id, P[i].frm, P[i].dst, P[i].typ, Q, P[i].pa, P[i].pl, P[i].pc⟩, ⟨P[i], List.getElem?_eq_getElem hi, rfl, rfl, rfl, rfl, rfl, rfl, rfl⟩, ⟨q1 _ _ hpa, fun p hp => (q2 p hp).1⟩, q2⟩)
  refine ⟨P', fun a l hp => ?_, fun p hp => ?_⟩
  · obtain ⟨q1, q2, q3⟩ := hp
    refine ⟨by rw [hl]; exact q1, q2, fun h0 => ?_⟩
    obtain ⟨b, off, r1, r2, r3⟩ := q3 h0
    refine ⟨b, off, r1, r2, fun i q hq => ?_⟩
    obtain ⟨⟨p, e0, e1, e2, e3, e4, e5, e6, e7⟩, _⟩ := hP i q hq
    rw [e1, e2, e3, e4, e5, e6, e7]
    exact r3 i p e0
  · obtain ⟨i, hi⟩ := List.getElem?_of_mem hp
    exact (hP i p hi).2

/-- What pack.Graph answers of a graph at this place. -/
def PkSays (w : World) (na : Option Addr) (nl nc : Nat) (ea : Option Addr) (el ec : Nat) (nx : Int) (s : ByteArray) (er : Int) : Prop :=
  (∀ W, Below w.heap.size w W → Calls Tryz.prog 4 #[.agg #[.slice na nl nc, .slice ea el ec, .int .i64 nx]] W fun e w' => e = .returned (.tuple #[.string s, .int .i64 er]) ∧ Below W.heap.size W w') ∧ (er = 0 → ∃ XN XE, s = ⟨(gB nx XN XE).toArray⟩ ∧ NsAt w XN na nl ∧ EsAt w XE ea el ∧ ∀ made, Rt ⟨XN, XE, nx, made⟩)

theorem pack_says {w : World} {N : List Nd} {E : List Ed} {na : Option Addr} {nl : Nat} {ea : Option Addr} {el : Nat} (hG : GrOk w N E na nl ea el) (nc ec : Nat) (nx : Int) (u1 : ∀ x ∈ N, ∀ p ∈ x.props, PrOkU w 2097152 p) (u2 : ∀ x ∈ E, ∀ p ∈ x.props, PrOkU w 2097152 p) : ∃ s, PkSays w na nl nc ea el ec nx s (gE N E nx) := by
  by_cases h0 : gE N E nx = 0
  · obtain ⟨XN, XE, a1, a2, a3, a4, a5⟩ := gr_rightU hG h0 2097152 u1 u2
    have r := rt_w (a3 [])
    have hx := (a3 []).next
    have hx0 := (a3 []).pos
    refine ⟨_, fun W kW => ?_, fun _ => ⟨XN, XE, rfl, a1, a2, a3⟩⟩
    rw [h0]
    exact pack_good W na nl nc ea el ec nx XN XE (fun W' kW' => by have := check_ok hG nc ec nx W' (below2 kW kW'); rw [h0] at this; exact this) (a1.below kW) (a2.below kW) r.1 r.2 ⟨by show _ ≤ nx; have : (0 : Int) < nx := hx0; omega, by have : nx ≤ 1099511627776 := hx; omega⟩ (gB_len2 (a3 []) a4 a5)
  · exact ⟨_, fun W kW => pack_bad W na nl nc ea el ec nx _ h0 (fun W' kW' => check_ok hG nc ec nx W' (below2 kW kW')), fun h => absurd h h0⟩

theorem pack_read (B : Nat) {A : Nat → Prop} {w : World} (hB : B ≤ w.heap.size) (hT : Tabs B w) {v : Value} {nx : Int} {XN : List AN} {XE : List AE} (h : GQ A w v (nx, XN, XE)) (hN : ∀ x ∈ XN, ∀ p ∈ x.props, InT p.t ∧ wtT p.t ≤ 2097152) (hE : ∀ x ∈ XE, ∀ p ∈ x.props, InT p.t ∧ wtT p.t ≤ 2097152) :
    ∃ na nc ea ec s er, v = .agg #[.slice na XN.length nc, .slice ea XE.length ec, .int .i64 nx] ∧ PkSays w na XN.length nc ea XE.length ec nx s er := by
  obtain ⟨na, nc, ea, ec, P, E, h1, h2, h0, h3, h4, h5, h6, h7, h8⟩ := h
  simp only at h1 h3 h5 h6 h8
  obtain ⟨N', n1, n2⟩ := nodes_e B 2097152 hB hT h5 hN
  obtain ⟨E', e1, e2⟩ := edges_e B 2097152 hB hT h8 hE
  have hna : NodesAt w N' na XN.length := n1 _ _ (by
    have h3' := h3
    rw [← h5.1] at h3' ⊢
    exact row_nodes h3')
  have hea : EdgesAt w E' ea XE.length := e1 _ _ (by
    have h6' := h6
    rw [← h8.1] at h6' ⊢
    exact row_edges h6' (fun p hp => by
      obtain ⟨x, _, hx⟩ := pair_mem' h8 hp
      have := hx.1.2.2.2
      rw [this.1]
      omega))
  obtain ⟨s, hs⟩ := pack_says ⟨hna, hea, fun x hx => (n2 x hx).1, fun x hx => (e2 x hx).1⟩ nc ec nx (fun x hx => (n2 x hx).2) (fun x hx => (e2 x hx).2)
  exact ⟨na, nc, ea, ec, s, _, h1, hs⟩

theorem NQ.reads {A : Nat → Prop} {w : World} {p : Nd} {x : AN} (h : NQ A w p x) : NdIn w p x := by
  obtain ⟨h1, h2, h3, h4, h5, h6, h7, h8⟩ := h
  refine ⟨h1.1, h2, ?_, row_props h6 (fun q hq => ?_), h8.mono fun _ _ _ _ hp => hp.any⟩
  · rw [h2]
    exact row_strs h3 (fun s hs => by have := h5 s hs; omega)
  · obtain ⟨y, _, hy⟩ := pair_mem' h8 hq
    exact hy.2.1

theorem EQ.reads {A : Nat → Prop} {w : World} {p : Ed} {x : AE} (h : EQ A w p x) : EdIn w p x := by
  obtain ⟨h1, h6, h7, h8⟩ := h
  refine ⟨h1.1.1, h1.2.1.1, h1.2.2.1.1, h1.2.2.2.1, by rw [h1.2.2.2.1]; have := h1.2.2.2.2; omega, row_props h6 (fun q hq => ?_), h8.mono fun _ _ _ _ hp => hp.any⟩
  obtain ⟨y, _, hy⟩ := pair_mem' h8 hq
  exact hy.2.1

theorem GQ.reads {A : Nat → Prop} {w : World} {v : Value} {nx : Int} {XN : List AN} {XE : List AE} (h : GQ A w v (nx, XN, XE)) : ∃ na nc ea ec, v = .agg #[.slice na XN.length nc, .slice ea XE.length ec, .int .i64 nx] ∧ NsAt w XN na XN.length ∧ EsAt w XE ea XE.length := by
  obtain ⟨na, nc, ea, ec, P, E, h1, h2, h0, h3, h4, h5, h6, h7, h8⟩ := h
  simp only at h1 h3 h5 h6 h8
  refine ⟨na, nc, ea, ec, h1, ⟨P, ?_, h5.mono fun _ _ _ _ hp => hp.reads⟩, ⟨E, ?_, h8.mono fun _ _ _ _ hp => hp.reads⟩⟩
  · rw [← h5.1] at h3 ⊢
    exact row_nodes h3
  · rw [← h8.1] at h6 ⊢
    exact row_edges h6 (fun p hp => by
      obtain ⟨x, _, hx⟩ := pair_mem' h8 hp
      have := hx.1.2.2.2
      rw [this.1]
      omega)

/-- A right graph's bytes are read as it. -/
theorem grP_gr {S : WS} (h : Rt S) : grP (gB S.next S.N S.E) = some ((S.next, S.N, S.E), []) := by
  obtain ⟨o1, o2⟩ := rt_w h
  have hnx := h.next
  have hps := h.pos
  have e : gB S.next S.N S.E = numB S.next ++ (eaB nB S.N ++ (eaB eB S.E ++ [])) := by rw [List.append_nil]; rfl
  rw [e]
  unfold grP
  rw [numP_num _ _ (by omega) (by omega)]
  simp only [Option.bind_some]
  rw [listP_all (one := ndP) (f := nB) 40 S.N _ h.n40 (by omega) (fun x hx r => by
    have q := o1 x hx
    have q2 := h.nds x hx
    exact ndP_nd x r q.1.1 q.1.2 q2.1.2.1 q.2.1 q2.2.2.1 q.2.2)]
  simp only [Option.bind_some]
  rw [listP_all (one := edP) (f := eB) 60 S.E _ h.e60 (by omega) (fun x hx r => by
    have q := o2 x hx
    have q2 := h.eds x hx
    exact edP_ed x r q.1.1.1 q.1.1.2 q.1.2.1.1 q.1.2.1.2 q.1.2.2.1 q.1.2.2.2 q.2.1 q2.2.2.2.2.1 q.2.2)]
  rfl

theorem pack_read2 (B : Nat) {A : Nat → Prop} {w : World} (hB : B ≤ w.heap.size) (hT : Tabs B w) {v : Value} {nx : Int} {XN : List AN} {XE : List AE} (h : GQ A w v (nx, XN, XE)) (hN : ∀ x ∈ XN, ∀ p ∈ x.props, InT p.t ∧ wtT p.t ≤ 2097152) (hE : ∀ x ∈ XE, ∀ p ∈ x.props, InT p.t ∧ wtT p.t ≤ 2097152) :
    ∃ na nc ea ec s er, v = .agg #[.slice na XN.length nc, .slice ea XE.length ec, .int .i64 nx] ∧ PkSays w na XN.length nc ea XE.length ec nx s er ∧ (Rt ⟨XN, XE, nx, []⟩ → er = 0 ∧ s = ⟨(gB nx XN XE).toArray⟩) := by
  by_cases hr : Rt ⟨XN, XE, nx, []⟩
  · obtain ⟨na, nc, ea, ec, rfl, a1, a2⟩ := h.reads
    obtain ⟨N, E, g1, g2⟩ := gr_back B hB hT hr a1 a2
    have r := rt_w hr
    have hx : nx ≤ 1099511627776 := hr.next
    have hx0 : 0 < nx := hr.pos
    refine ⟨na, nc, ea, ec, _, 0, rfl, ⟨fun W kW => pack_good W na XN.length nc ea XE.length ec nx XN XE (fun W' kW' => by have := check_ok g1 nc ec nx W' (below2 kW kW'); rw [show gE N E nx = 0 from g2] at this; exact this) (a1.below kW) (a2.below kW) r.1 r.2 ⟨by omega, by omega⟩ (gB_len2 hr (fun x hx q hq => by have := (hN x hx q hq).2; omega) (fun x hx q hq => by have := (hE x hx q hq).2; omega)), fun _ => ⟨XN, XE, rfl, a1, a2, fun made => ⟨hr.n40, hr.e60, hr.nri, hr.eri, hr.pos, hr.next, hr.nid, hr.eid, hr.nds, hr.eds⟩⟩⟩, fun _ => ⟨rfl, rfl⟩⟩
  · obtain ⟨na, nc, ea, ec, s, er, h1, h2⟩ := pack_read B hB hT h hN hE
    exact ⟨na, nc, ea, ec, s, er, h1, h2, fun h => absurd h hr⟩

def KN : List FN := [⟨1, [⟨#[65]⟩], [(⟨#[110]⟩, 5)]⟩, ⟨2, [], []⟩]
def KE : List FE := [⟨3, 1, 2, ⟨#[75]⟩⟩]

theorem KN_small : KN.length ≤ 40 ∧ ∀ y ∈ KN, y.small := by
  refine ⟨by decide, fun y hy => ?_⟩
  rcases List.mem_cons.1 hy with rfl | hy
  · refine ⟨by decide, ⟨by decide, fun s hs => ?_⟩, by decide, fun p hp => ?_⟩
    · obtain rfl := List.mem_singleton.1 hs
      decide
    · obtain rfl := List.mem_singleton.1 hp
      decide
  · obtain rfl := List.mem_singleton.1 hy
    exact ⟨by decide, ⟨by decide, fun s hs => by cases hs⟩, by decide, fun p hp => by cases hp⟩

theorem KE_small : KE.length ≤ 60 ∧ ∀ y ∈ KE, y.small := by
  refine ⟨by decide, fun y hy => ?_⟩
  obtain rfl := List.mem_singleton.1 hy
  exact ⟨by decide, by decide, by decide, by decide⟩

theorem check_R {b : Nat} {w : World} {na : Option Addr} {nc : Nat} {ea : Option Addr} {ec : Nat} (h : GrR b w na nc ea ec KN KE) (W : World) (kW : Below w.heap.size w W) :
    Calls Tryz.prog 10 #[.agg #[.slice na 2 nc, .slice ea 1 ec, .int .i64 4]] W fun e w' => e = .returned (.int .i64 0) ∧ Below W.heap.size W w' := by
  have h' : GrR b W na nc ea ec KN KE := h.kept fun k cs t _ hc _ => kW.block k (Array.getElem?_eq_some_iff.1 hc).1
  obtain ⟨⟨PN, h1, h2⟩, h3⟩ := h'
  have hlen : PN.length = 2 := h2.1
  match PN, hlen with
  | [p1, p2], _ =>
    have e1 := h2.2 0 p1 _ rfl rfl
    have e2 := h2.2 1 p2 _ rfl rfl
    have r1 := e1.reads (KN_small.2 _ (by simp [KN]))
    have r2 := e2.reads (KN_small.2 _ (by simp [KN]))
    obtain ⟨la, lc, pa, pc, rfl, _⟩ := e1
    obtain ⟨la2, lc2, pa2, pc2, rfl, _⟩ := e2
    have hNA := row_nodes h1
    have hEA : EdgesAt W (KE.map edF) ea 1 := by
      rw [rowG_is] at h3
      exact row_edges h3 (fun q hq => by
        obtain rfl := List.mem_singleton.1 hq
        decide)
    have := check_graph _ _ na 2 nc ea 1 ec 4 W hNA hEA (fun x hx w' k => by
      rcases List.mem_cons.1 hx with rfl | hx
      · exact ⟨labels_of name_any _ _ _ _ w' (r1.2.2.1.below k), props_of name_any _ _ _ _ w' (r1.2.2.2.1.below k) fun p hp w2 k2 => by
          obtain rfl := List.mem_singleton.1 hp
          exact val_K w2⟩
      · obtain rfl := List.mem_singleton.1 hx
        exact ⟨labels_of name_any _ _ _ _ w' (r2.2.2.1.below k), props_of name_any _ _ _ _ w' (r2.2.2.2.1.below k) fun p hp => by cases hp⟩) (fun x hx w' k => by
      obtain rfl := List.mem_singleton.1 hx
      exact props_E w' none 0)
    have hg : gE [ndOf ⟨1, [⟨#[65]⟩], [(⟨#[110]⟩, 5)]⟩ la lc pa pc, ndOf ⟨2, [], []⟩ la2 lc2 pa2 pc2] (KE.map edF) 4 = 0 := by
      have a1 := labs_K
      have a2 : prsE [prF (⟨#[110]⟩, 5)] = 0 := prs_K
      have a3 : labsE [] = 0 := by simp [labsE, labE]
      have a4 : prsE [] = 0 := by simp [prsE, prE]
      have a5 : nm ⟨#[75]⟩ = true := by decide
      have n1 : ndE 0 [ndOf ⟨1, [⟨#[65]⟩], [(⟨#[110]⟩, 5)]⟩ la lc pa pc, ndOf ⟨2, [], []⟩ la2 lc2 pa2 pc2] = 0 := by simp [ndE, ndOne, ndOf, a1, a2, a3, a4]
      have e1 : edE [ndOf ⟨1, [⟨#[65]⟩], [(⟨#[110]⟩, 5)]⟩ la lc pa pc, ndOf ⟨2, [], []⟩ la2 lc2 pa2 pc2] 0 (KE.map edF) = 0 := by simp [edE, edOne, KE, edF, hasN, ndOf, a4, a5]
      have l1 : lastI 0 ([ndOf ⟨1, [⟨#[65]⟩], [(⟨#[110]⟩, 5)]⟩ la lc pa pc, ndOf ⟨2, [], []⟩ la2 lc2 pa2 pc2].map Nd.id) = 2 := rfl
      have l2 : lastI 0 ((KE.map edF).map Ed.id) = 3 := rfl
      rw [gE, n1, e1, l1, l2]
      simp [KE]
    rw [hg] at this
    exact this

def KB : List UInt8 := gB 4 (KN.map FN.an) (KE.map FE.ae)

theorem bytes_bel (w : World) (e : TypeId) (s : ByteArray) : Below w.heap.size w (Lib.bytesWorld w e s) :=
  ⟨rfl, rfl, rfl, by rw [Lib.bytesWorld_size]; omega, fun k hk => Lib.bytesWorld_at_old w e s k hk⟩

theorem bytes_bt (w : World) (e : TypeId) (l : List UInt8) : BtAt (Lib.bytesWorld w e ⟨l.toArray⟩) w.heap.size 0 l := fun i x hx => by
  have hi : i < (⟨l.toArray⟩ : ByteArray).size := (List.getElem?_eq_some_iff.1 hx).1
  have := Lib.bytesWorld_cell w e ⟨l.toArray⟩ i hi
  rw [Nat.zero_add, this]
  simp [List.getD, hx]

theorem KN_w : ∀ x ∈ KN.map FN.an, NodeW x := by
  intro x hx
  obtain ⟨y, hy, rfl⟩ := List.mem_map.1 hx
  have h := KN_small.2 y hy
  refine ⟨⟨by show _ ≤ y.id; have := h.1.1; omega, by show y.id ≤ _; have := h.1.2; omega⟩, h.2.1.2, fun p hp => ?_⟩
  obtain ⟨q, hq, rfl⟩ := List.mem_map.1 hp
  have h2 := h.2.2.2 q hq
  exact ⟨h2.1, Ck.int 6 q.2 (by omega) (by omega)⟩

theorem KE_w : ∀ x ∈ KE.map FE.ae, EdgeW x := by
  intro x hx
  obtain ⟨y, hy, rfl⟩ := List.mem_map.1 hx
  have h := KE_small.2 y hy
  refine ⟨⟨⟨by show _ ≤ y.id; have := h.1.1; omega, by show y.id ≤ _; have := h.1.2; omega⟩, ⟨by show _ ≤ y.frm; have := h.2.1.1; omega, by show y.frm ≤ _; have := h.2.1.2; omega⟩, ⟨by show _ ≤ y.dst; have := h.2.2.1.1; omega, by show y.dst ≤ _; have := h.2.2.1.2; omega⟩⟩, h.2.2.2, fun p hp => by cases hp⟩

theorem KB_len : KB.length ≤ 1000 := by decide +kernel

set_option maxHeartbeats 4000000 in
set_option maxRecDepth 100000 in
theorem ofGraph_K (w : World) :
    Calls Tryz.prog 5 #[.string ⟨KB.toArray⟩] w fun e w' => (∃ na nc ea ec, e = .returned (.tuple #[.agg #[.slice na 2 nc, .slice ea 1 ec, .int .i64 4], .int .i64 0]) ∧ NsAt w' (KN.map FN.an) na 2 ∧ EsAt w' (KE.map FE.ae) ea 1) ∧ Below w.heap.size w w' := by
  obtain ⟨L, hL⟩ : ∃ L, L = KB := ⟨_, rfl⟩
  rw [← hL]
  have HL := toHid hL
  have hlen : L.length ≤ 1000 := by rw [hL]; exact KB_len
  clear hL
  obtain ⟨s, hs⟩ : ∃ s : ByteArray, s = ⟨L.toArray⟩ := ⟨_, rfl⟩
  rw [← hs]
  have hsz : s.size = L.length := by rw [hs]; rfl
  have HS := toHid hs
  clear hs
  have kc : ∀ (w : World), (convert 9 37 (.string s)).run Tryz.prog w = .ok (.slice (some ⟨w.heap.size, 0, none⟩) s.size (grownCap w s.size 0 5)) (Lib.bytesWorld w 5 s) := fun w => Lib.run_convert_string_bytes w _ _ _ s Tryz.underlying9 Tryz.underlying37 Tryz.underlying5
  have kA : Below w.heap.size w (w.alloc (.cells #[.slice none 0 0, .slice none 0 0, .int .i64 0] 25)) := (Below.refl _ _).alloc (Nat.le_refl _) _
  have HA := toHid (alloc_new w (.cells #[.slice none 0 0, .slice none 0 0, .int .i64 0] 25))
  have hzA : (w.alloc (.cells #[.slice none 0 0, .slice none 0 0, .int .i64 0] 25)).heap.size = w.heap.size + 1 := by simp
  have HZA := toHid hzA
  clear hzA
  go_enter Tryz.func5, Tryz.ntmps5
  go_upto_region 1 with fail
  generalize w.alloc (.cells #[.slice none 0 0, .slice none 0 0, .int .i64 0] 25) = WA at kA HA HZA ⊢
  have hbB := bytes_bel WA 5 s
  have hzB : (Lib.bytesWorld WA 5 s).heap.size = WA.heap.size + 1 := Lib.bytesWorld_size WA _ s
  have HZB := toHid hzB
  clear hzB
  have hbt : BtAt (Lib.bytesWorld WA 5 s) WA.heap.size 0 L := by rw [HS.out]; exact bytes_bt WA _ L
  have hcap := grownCap_ge WA L.length 0 5
  go_upto_region 2 with fail
  have HA1 := toHid ((hbB.block w.heap.size (by rw [HZA.out]; omega)).trans HA.out)
  have HK1 := toHid (kA.trans (hbB.mono kA.size))
  generalize Lib.bytesWorld WA 5 s = WB at hbB HZB hbt HA1 HK1 ⊢
  have hzB := HZB.out
  have kC : Below WB.heap.size WB (WB.alloc (.cells #[.slice (some ⟨WA.heap.size, 0, none⟩) L.length (grownCap WA L.length 0 5), .int .i64 0] 43)) := (Below.refl _ _).alloc (Nat.le_refl _) _
  have hzA := HZA.out
  have HRD : Hid (Rd WB.heap.size (WB.alloc (.cells #[.slice (some ⟨WA.heap.size, 0, none⟩) L.length (grownCap WA L.length 0 5), .int .i64 0] 43)) (KB ++ []) 0) := by
    show Rd _ _ _ _
    rw [List.append_nil, ← HL.out]
    exact ⟨WA.heap.size, 0, _, alloc_new WB _, by omega, hcap, by omega, fun i x hx => (World.cell?_of_block (kC.block WA.heap.size (by omega))).trans (hbt i x hx)⟩
  have HA2 := toHid ((kC.block w.heap.size (by omega)).trans HA1.out)
  have HK2 := toHid (HK1.out.trans (kC.mono (by omega)))
  have hzC : (WB.alloc (.cells #[.slice (some ⟨WA.heap.size, 0, none⟩) L.length (grownCap WA L.length 0 5), .int .i64 0] 43)).heap.size = WB.heap.size + 1 := by simp
  have HZC := toHid hzC
  obtain ⟨b, hb⟩ : ∃ b, b = WB.heap.size := ⟨_, rfl⟩
  rw [← hb] at HRD HZC
  rw [← hb]
  have hwb : w.heap.size < b := by omega
  clear hbt kc hzC hzA hzB hb
  generalize WB.alloc (.cells #[.slice (some ⟨WA.heap.size, 0, none⟩) L.length (grownCap WA L.length 0 5), .int .i64 0] 43) = WC at kC HRD HA2 HK2 HZC ⊢
  have HBG : Hid (Calls Tryz.prog 12 #[.func (.func 13) #[.pointer (some ⟨b, 0, none⟩)] #[]] WC fun e w' => (∃ na nc ea ec, e = .returned (.tuple #[.agg #[.slice na 2 nc, .slice ea 1 ec, .int .i64 4], .bool true]) ∧ GrR b w' na nc ea ec KN KE) ∧ Below b WC w' ∧ Rf b WC w') := begin_any b WC KN KE 4 0 KN_small KE_small (by decide) HRD.out
  go_wp2_with fail
  refine HBG.out.mono ?_
  rintro e u1 ⟨⟨na, nc, ea, ec, rfl, hGr⟩, hb1, hf1⟩
  have HGR := toHid hGr
  have HA3 := toHid ((hf1 w.heap.size (by rw [HZC.out]; omega) (by omega)).trans HA2.out)
  have HK3 := toHid (HK2.out.trans (hb1.mono (Nat.le_of_lt hwb)))
  have z1 : w.heap.size < u1.heap.size := (Array.getElem?_eq_some_iff.1 HA3.out).1
  have kD : Below u1.heap.size u1 (u1.alloc (.cells #[.slice na 2 nc, .slice ea 1 ec, .int .i64 4] 25)) := (Below.refl _ _).alloc (Nat.le_refl _) _
  have HD := toHid (alloc_new u1 (.cells #[.slice na 2 nc, .slice ea 1 ec, .int .i64 4] 25))
  have hzD : (u1.alloc (.cells #[.slice na 2 nc, .slice ea 1 ec, .int .i64 4] 25)).heap.size = u1.heap.size + 1 := by simp
  have HZD := toHid hzD
  have HA4 := toHid ((kD.block w.heap.size z1).trans HA3.out)
  have HK4 := toHid (HK3.out.trans (kD.mono (Nat.le_of_lt z1)))
  clear hGr hb1 hf1 HBG hzD
  go_upto_region 5 with fail
  generalize u1.alloc (.cells #[.slice na 2 nc, .slice ea 1 ec, .int .i64 4] 25) = WD at kD HD HZD HA4 HK4 ⊢
  have z2 : u1.heap.size < WD.heap.size := by rw [HZD.out]; omega
  have HRR := toHid (HGR.out.reads KN_small.2 KE_small.2)
  have HPK : Hid (Calls Tryz.prog 4 #[.agg #[.slice na 2 nc, .slice ea 1 ec, .int .i64 4]] WD fun e w' => e = .returned (.tuple #[.string s, .int .i64 0]) ∧ Below WD.heap.size WD w') := by
    have := pack_good WD na 2 nc ea 1 ec 4 (KN.map FN.an) (KE.map FE.ae) (fun W kW => check_R HGR.out W (below2 kD kW)) (HRR.out.1.below kD) (HRR.out.2.below kD) KN_w KE_w (by decide) (by have := KB_len; show KB.length ≤ _; omega)
    rw [HS.out, HL.out]
    exact this
  have r0 := cell_of HD.out 0
  have r1 := cell_of HD.out 1
  have r2 := cell_of HD.out 2
  simp at r0 r1 r2
  go_wp2_with fail
  refine HPK.out.mono ?_
  rintro e u2 ⟨rfl, k2⟩
  have HD2 := toHid ((k2.block u1.heap.size z2).trans HD.out)
  have HA5 := toHid ((k2.block w.heap.size (by omega)).trans HA4.out)
  have HK5 := toHid (HK4.out.trans (k2.mono (by omega)))
  have HG2 := toHid (HGR.out.kept (w' := u2) fun k cs t _ hc _ => (below2 kD k2).block k (Array.getElem?_eq_some_iff.1 hc).1)
  have z3 : u1.heap.size < u2.heap.size := (Array.getElem?_eq_some_iff.1 HD2.out).1
  have z4 : w.heap.size < u2.heap.size := by omega
  clear r0 r1 r2 k2 HPK
  have r0 := cell_of HD2.out 0
  have r1 := cell_of HD2.out 1
  have r2 := cell_of HD2.out 2
  simp at r0 r1 r2
  have d0 := cell_of HA5.out 0
  have d1 := cell_of HA5.out 1
  have d2 := cell_of HA5.out 2
  have f0 := free_of HA5.out 0
  have f1 := free_of HA5.out 1
  have f2 := free_of HA5.out 2
  simp at d0 d1 d2
  have hss : (s.toList != s.toList) = false := by simp
  go_wp2_with fail
  have eP : ((u2.setCell ⟨w.heap.size, 0, none⟩ (.slice na 2 nc)).setCell ⟨w.heap.size, 1, none⟩ (.slice ea 1 ec)).setCell ⟨w.heap.size, 2, none⟩ (.int .i64 4) = putL u2 w.heap.size 0 [.slice na 2 nc, .slice ea 1 ec, .int .i64 4] := rfl
  rw [eP]
  have EBX := box3R HA5.out rfl (.slice na 2 nc) (.slice ea 1 ec) (.int .i64 4)
  have hbY : Below w.heap.size u2 (putL u2 w.heap.size 0 [.slice na 2 nc, .slice ea 1 ec, .int .i64 4]) := putL_bel w.heap.size _ _ u2
  have hYo : ∀ j, j ≠ w.heap.size → (putL u2 w.heap.size 0 [.slice na 2 nc, .slice ea 1 ec, .int .i64 4]).heap[j]? = u2.heap[j]? := fun j hj => putL_other _ _ _ _ j hj
  generalize putL u2 w.heap.size 0 [.slice na 2 nc, .slice ea 1 ec, .int .i64 4] = Y at EBX hbY hYo ⊢
  have t0 := cell_of EBX 0
  have t1 := cell_of EBX 1
  have t2 := cell_of EBX 2
  simp at t0 t1 t2
  have HGY := toHid ((HG2.out.kept (w' := Y) fun k cs t hb hc ht => hYo k (fun e => by
    subst e
    rw [HA5.out] at hc
    injection hc with hc
    injection hc with _ e2 _
    exact ht e2.symm)).reads KN_small.2 KE_small.2)
  exact bodyPost_ret (v := .tuple #[.agg #[.slice na 2 nc, .slice ea 1 ec, .int .i64 4], .int .i64 0]) (by simp [results, Tryz.results5, go_sem, t0, t1, t2]) rfl ⟨⟨na, nc, ea, ec, rfl, HGY.out.1, HGY.out.2⟩, HK5.out.trans hbY⟩
end Go.Proofs.YtppbllandnbgbaaGreatDoor
