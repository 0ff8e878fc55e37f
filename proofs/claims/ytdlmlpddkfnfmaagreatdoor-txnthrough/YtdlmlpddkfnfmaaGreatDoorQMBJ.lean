/-
  What is proved here: what the texts HNoth0, TLaw0, TThr1, TThr2, TThr, GLaid prove, in one text.
-/
import Derived.Test.YtdlmlpddkfnfmaaGreatDoorQMBH
import Derived.Test.YtdlmlpddkfnfmaaGreatDoorQMBI
import Derived.Test.YtdlmlpddkfnfmaaGreatDoorQMBF
import Derived.Test.YtdlmlpddkfnfmaaGreatDoorQMAN
import Derived.Test.YtdlmlpddkfnfmaaGreatDoorQMAJ
import Derived.Deep.RegionHeld3
import Derived.Test.YtdlmlpddkfnfmaaGreatDoorQMBG
import Derived.Test.YtdlmlpddkfnfmaaGreatDoorPM
import Derived.Test.YtdlmlpddkfnfmaaGreatDoorShelf
import Derived.PinnedBridge
import Derived.Lib.LaidU8T
import Derived.Lib.LaidTab
import Derived.Lay
namespace Go.Proofs.YtdlmlpddkfnfmaaGreatDoor
open Go.RowKit
set_option linter.unusedVariables false

/-- A difference that may be read, by where it lies. -/
def DAt (w : World) (G N : List AN) (H E : List AE) (ga : Option Addr) (gn : Nat) (na : Option Addr) (nn : Nat) (ha : Option Addr) (hn : Nat) (ea : Option Addr) (en : Nat) : Prop := NsAt w G ga gn ∧ NsAt w N na nn ∧ EsAt w H ha hn ∧ EsAt w E ea en

theorem DAt.below {w w' : World} {G N : List AN} {H E : List AE} {ga : Option Addr} {gn : Nat} {na : Option Addr} {nn : Nat} {ha : Option Addr} {hn : Nat} {ea : Option Addr} {en : Nat} (h : DAt w G N H E ga gn na nn ha hn ea en) (k : Below w.heap.size w w') : DAt w' G N H E ga gn na nn ha hn ea en := ⟨h.1.below k, h.2.1.below k, h.2.2.1.below k, h.2.2.2.below k⟩

def DOk (G N : List AN) (H E : List AE) : Prop := (∀ x ∈ G, x.ok) ∧ (∀ x ∈ N, x.ok) ∧ (∀ x ∈ H, x.ok) ∧ (∀ x ∈ E, x.ok)

/-- Two graphs of which one isn't right. -/
theorem between_bad {N1 : List Nd} {E1 : List Ed} {N2 : List Nd} {E2 : List Ed} {na : Option Addr} {nl : Nat} {ea : Option Addr} {el : Nat} {ma : Option Addr} {ml : Nat} {fa : Option Addr} {fl : Nat} {w : World} (h1 : GrOk w N1 E1 na nl ea el) (h2 : GrOk w N2 E2 ma ml fa fl) (nc ec : Nat) (nx : Int) (mc fc : Nat) (mx : Int) (er : Int) (her : er = if gE N1 E1 nx = 0 then gE N2 E2 mx else gE N1 E1 nx) (h0 : er ≠ 0) (W : World) (k : Below w.heap.size w W) :
    Calls Tryz.prog 18 #[.agg #[.slice na nl nc, .slice ea el ec, .int .i64 nx], .agg #[.slice ma ml mc, .slice fa fl fc, .int .i64 mx]] W fun e w' => e = .returned (.tuple #[.agg #[.slice none 0 0, .slice none 0 0, .slice none 0 0, .slice none 0 0, .int .i64 0, .int .i64 0], .int .i64 er]) ∧ Below W.heap.size W w' := by
  refine (between_any [] [] [] [] na nl nc ea el ec nx ma ml mc fa fl fc mx (gE N1 E1 nx) (gE N2 E2 mx) er W (fun V kV => check_ok h1 nc ec nx V (k.trans (kV.mono k.size))) (fun V kV => check_ok h2 mc fc mx V (k.trans (kV.mono k.size))) her (fun h => absurd h h0)).mono ?_
  rintro e w' ⟨⟨v, rfl, hv, _⟩, kk⟩
  rw [hv h0]
  exact ⟨rfl, kk⟩

/-- Two graphs that are right. -/
theorem between_good {N1 : List Nd} {E1 : List Ed} {N2 : List Nd} {E2 : List Ed} {na : Option Addr} {nl : Nat} {ea : Option Addr} {el : Nat} {ma : Option Addr} {ml : Nat} {fa : Option Addr} {fl : Nat} {w : World} (h1 : GrOk w N1 E1 na nl ea el) (h2 : GrOk w N2 E2 ma ml fa fl) (nc ec : Nat) (nx : Int) (mc fc : Nat) (mx : Int) (e1 : gE N1 E1 nx = 0) (e2 : gE N2 E2 mx = 0)
    {XN YN : List AN} {XE YE : List AE} (p1 : NsAt w XN na nl) (p2 : EsAt w XE ea el) (p3 : NsAt w YN ma ml) (p4 : EsAt w YE fa fl) (o1 : ∀ x ∈ XN, x.ok) (o2 : ∀ x ∈ XE, x.ok) (o3 : ∀ x ∈ YN, x.ok) (o4 : ∀ x ∈ YE, x.ok) (l1 : nl ≤ 40) (l2 : el ≤ 60) (l3 : ml ≤ 40) (l4 : fl ≤ 60) (W : World) (k : Below w.heap.size w W) :
    Calls Tryz.prog 18 #[.agg #[.slice na nl nc, .slice ea el ec, .int .i64 nx], .agg #[.slice ma ml mc, .slice fa fl fc, .int .i64 mx]] W fun e w' => (∃ v, e = .returned (.tuple #[v, .int .i64 0]) ∧ DOwnV W w' (lackL sameN XN YN) (lackL sameN YN XN) (lackL sameE XE YE) (lackL sameE YE XE) nx mx v) ∧ Below W.heap.size W w' := by
  refine (between_any XN XE YN YE na nl nc ea el ec nx ma ml mc fa fl fc mx 0 0 0 W (fun V kV => by have := check_ok h1 nc ec nx V (k.trans (kV.mono k.size)); rw [e1] at this; exact this) (fun V kV => by have := check_ok h2 mc fc mx V (k.trans (kV.mono k.size)); rw [e2] at this; exact this) rfl (fun _ => ⟨p1.below k, p2.below k, p3.below k, p4.below k, ⟨by omega, by omega, by omega, by omega⟩, o1, o2, o3, o4⟩)).mono ?_
  rintro e w' ⟨⟨v, rfl, _, hv⟩, kk⟩
  exact ⟨⟨v, rfl, hv rfl⟩, kk⟩

theorem lack_ok {G N : List AN} {H E : List AE} (o1 : ∀ x ∈ G, x.ok) (o2 : ∀ x ∈ N, x.ok) (o3 : ∀ x ∈ H, x.ok) (o4 : ∀ x ∈ E, x.ok) : DOk (lackL sameN G N) (lackL sameN N G) (lackL sameE H E) (lackL sameE E H) :=
  ⟨fun x hx => o1 x (lackL_mem hx), fun x hx => o2 x (lackL_mem hx), fun x hx => o3 x (lackL_mem hx), fun x hx => o4 x (lackL_mem hx)⟩

/-- What is turned back, at lengths that are letters. -/
theorem back_at {G N : List AN} {H E : List AE} (ho : DOk G N H E) {gn nn hn en : Nat} (hl : gn = G.length ∧ nn = N.length ∧ hn = H.length ∧ en = E.length) (hs : gn ≤ 1000 ∧ nn ≤ 1000 ∧ hn ≤ 1000 ∧ en ≤ 1000) {W : World} {ga : Option Addr} {na : Option Addr} {ha : Option Addr} {ea : Option Addr} (h : DAt W G N H E ga gn na nn ha hn ea en) (gc nc hc ec : Nat) (f t : Int) :
    Calls Tryz.prog 24 #[.agg #[.slice ga gn gc, .slice na nn nc, .slice ha hn hc, .slice ea en ec, .int .i64 f, .int .i64 t]] W fun e w' => (∃ a1 c1 a2 c2 a3 c3 a4 c4, e = .returned (.agg #[.slice a1 nn c1, .slice a2 gn c2, .slice a3 en c3, .slice a4 hn c4, .int .i64 t, .int .i64 f]) ∧ DAt w' N G E H a1 nn a2 gn a3 en a4 hn) ∧ Below W.heap.size W w' := by
  refine (back_any G N H E ga gn gc na nn nc ha hn hc ea en ec f t W h.1 h.2.1 h.2.2.1 h.2.2.2 hs.1 hs.2.1 hs.2.2.1 hs.2.2.2 ho.1 ho.2.1 ho.2.2.1 ho.2.2.2).mono ?_
  rintro e w' ⟨⟨v, rfl, a1, c1, a2, c2, a3, c3, a4, c4, rfl, q1, q2, q3, q4⟩, k⟩
  obtain ⟨rfl, rfl, rfl, rfl⟩ := hl
  exact ⟨⟨a1, c1, a2, c2, a3, c3, a4, c4, rfl, q1, q2, q3, q4⟩, k⟩

/-- The same difference, twice in memory. -/
theorem same_at {G N : List AN} {H E : List AE} (ho : DOk G N H E) {gn nn hn en : Nat} {W : World} {ga : Option Addr} {na : Option Addr} {ha : Option Addr} {ea : Option Addr} (h : DAt W G N H E ga gn na nn ha hn ea en) {ia ja ka la : Option Addr} (h' : DAt W G N H E ia gn ja nn ka hn la en) (gc nc hc ec ic jc kc lc : Nat) (f t : Int) :
    Calls Tryz.prog 19 #[.agg #[.slice ga gn gc, .slice na nn nc, .slice ha hn hc, .slice ea en ec, .int .i64 f, .int .i64 t], .agg #[.slice ia gn ic, .slice ja nn jc, .slice ka hn kc, .slice la en lc, .int .i64 f, .int .i64 t]] W fun e w' => e = .returned (.bool true) ∧ Below W.heap.size W w' := by
  have := sameDelta_any G N G N H E H E ga gn gc na nn nc ha hn hc ea en ec f t ia gn ic ja nn jc ka hn kc la en lc f t W h.1 h.2.1 h.2.2.1 h.2.2.2 h'.1 h'.2.1 h'.2.2.1 h'.2.2.2 ho.1 ho.2.1 ho.2.2.1 ho.2.2.2 ho.1 ho.2.1 ho.2.2.1 ho.2.2.2
  rw [eqB_self _ sameN_self, eqB_self _ sameN_self, eqB_self _ sameE_self, eqB_self _ sameE_self] at this
  simpa using this

theorem ops_none (w : World) : OpsAt w [] none 0 := ⟨rfl, by omega, fun h => absurd h (Nat.lt_irrefl _)⟩

/-- No operations: the graph, laid anew. -/
theorem apply_none {XN : List AN} {XE : List AE} {na : Option Addr} {nl nc : Nat} {ea : Option Addr} {el ec : Nat} {nx : Int} {w : World} (hC : ∀ W, Below w.heap.size w W → Calls Tryz.prog 30 #[.agg #[.slice na nl nc, .slice ea el ec, .int .i64 nx]] W fun e w' => e = .returned (.int .i64 0) ∧ Below W.heap.size W w') (p1 : NsAt w XN na nl) (p2 : EsAt w XE ea el) (o1 : ∀ x ∈ XN, x.ok) (o2 : ∀ x ∈ XE, x.ok) (l1 : nl ≤ 40) (l2 : el ≤ 60) (W : World) (k : Below w.heap.size w W) {xl yl : Nat} (hxl : xl = XN.length) (hyl : yl = XE.length) :
    Calls Tryz.prog 10 #[.agg #[.slice na nl nc, .slice ea el ec, .int .i64 nx], .slice none 0 0] W fun e w' => (∃ a1 c1 a2 c2 a3 c3, e = .returned (.tuple #[.agg #[.slice a1 xl c1, .slice a2 yl c2, .int .i64 nx], .slice a3 0 c3, .int .i64 0, .int .i64 0]) ∧ NsAt w' XN a1 xl ∧ EsAt w' XE a2 yl) ∧ Below W.heap.size W w' := by
  refine (apply_of XN XE nx na nl nc ea el ec [] none 0 0 (fun _ => 0) (fun _ => ⟨XN, XE, nx, []⟩) W (fun V kV => hC V (k.trans (kV.mono k.size))) (p1.below k) (p2.below k) (by omega) (by omega) o1 o2 (ops_none W) (by omega) rfl (fun _ => by show 0 ≤ _; omega) (fun i o hi => by simp at hi)).mono ?_
  rintro e w' ⟨hA, kk⟩
  subst hxl hyl
  rcases hA with ⟨i, hi, _⟩ | ⟨_, a1, c1, a2, c2, a3, c3, rfl, _, q1, _, q2, _⟩
  · omega
  · exact ⟨⟨a1, c1, a2, c2, a3, c3, rfl, q1, q2⟩, kk⟩

theorem ns_len {w : World} {X : List AN} {a : Option Addr} {l : Nat} (h : NsAt w X a l) : l = X.length := by
  obtain ⟨N, h1, h2⟩ := h
  rw [h1.1, h2.1]

theorem es_len {w : World} {X : List AE} {a : Option Addr} {l : Nat} (h : EsAt w X a l) : l = X.length := by
  obtain ⟨N, h1, h2⟩ := h
  rw [h1.1, h2.1]

theorem bset3 {B : Nat} {a u : World} (k : Below B a u) (p : Nat) (hp : B ≤ p) (v0 v1 v2 : Value) : Below B a (((u.setCell ⟨p, 0, none⟩ v0).setCell ⟨p, 1, none⟩ v1).setCell ⟨p, 2, none⟩ v2) :=
  ((k.setCell (p := ⟨p, 0, none⟩) hp _).setCell (p := ⟨p, 1, none⟩) hp _).setCell (p := ⟨p, 2, none⟩) hp _

/-- What Between answers of any two graphs, by its error. -/
def BetForm (er : Int) (e : Ending) : Prop := ∃ ga gl gc na nl nc ha hl hc ea el ec f t, e = .returned (.tuple #[.agg #[.slice ga gl gc, .slice na nl nc, .slice ha hl hc, .slice ea el ec, .int .i64 f, .int .i64 t], .int .i64 er])

/-- Its error. -/
def betE (N1 : List Nd) (E1 : List Ed) (nx : Int) (N2 : List Nd) (E2 : List Ed) (mx : Int) : Int := if gE N1 E1 nx = 0 then gE N2 E2 mx else gE N1 E1 nx

theorem between_form {N1 : List Nd} {E1 : List Ed} {N2 : List Nd} {E2 : List Ed} {na : Option Addr} {nl : Nat} {ea : Option Addr} {el : Nat} {ma : Option Addr} {ml : Nat} {fa : Option Addr} {fl : Nat} {w : World} (h1 : GrOk w N1 E1 na nl ea el) (h2 : GrOk w N2 E2 ma ml fa fl) (nc ec : Nat) (nx : Int) (mc fc : Nat) (mx : Int) (W : World) (k : Below w.heap.size w W) :
    Calls Tryz.prog 18 #[.agg #[.slice na nl nc, .slice ea el ec, .int .i64 nx], .agg #[.slice ma ml mc, .slice fa fl fc, .int .i64 mx]] W fun e w' => BetForm (betE N1 E1 nx N2 E2 mx) e ∧ Below W.heap.size W w' := by
  by_cases h0 : betE N1 E1 nx N2 E2 mx = 0
  · have e1 : gE N1 E1 nx = 0 := by
      unfold betE at h0
      split at h0
      · assumption
      · exact h0
    have e2 : gE N2 E2 mx = 0 := by
      unfold betE at h0
      rw [if_pos e1] at h0
      exact h0
    obtain ⟨XN, XE, p1, p2, o1, o2, l1, l2, _, _⟩ := gr_abs h1 e1
    obtain ⟨YN, YE, p3, p4, o3, o4, l3, l4, _, _⟩ := gr_abs h2 e2
    refine (between_good h1 h2 nc ec nx mc fc mx e1 e2 p1 p2 p3 p4 o1 o2 o3 o4 l1 l2 l3 l4 W k).mono ?_
    rintro e w' ⟨⟨v, rfl, ga, gc, na1, nc1, ha, hc, ea1, ec1, rfl, _⟩, kk⟩
    rw [h0]
    exact ⟨⟨_, _, _, _, _, _, _, _, _, _, _, _, _, _, rfl⟩, kk⟩
  · refine (between_bad h1 h2 nc ec nx mc fc mx _ rfl h0 W k).mono ?_
    rintro e w' ⟨rfl, kk⟩
    exact ⟨⟨_, _, _, _, _, _, _, _, _, _, _, _, _, _, rfl⟩, kk⟩

/-- Between of two right graphs, at lengths that are letters. -/
theorem between_dat {N1 : List Nd} {E1 : List Ed} {N2 : List Nd} {E2 : List Ed} {na : Option Addr} {nl : Nat} {ea : Option Addr} {el : Nat} {ma : Option Addr} {ml : Nat} {fa : Option Addr} {fl : Nat} {w : World} (h1 : GrOk w N1 E1 na nl ea el) (h2 : GrOk w N2 E2 ma ml fa fl) (nc ec : Nat) (nx : Int) (mc fc : Nat) (mx : Int) (e1 : gE N1 E1 nx = 0) (e2 : gE N2 E2 mx = 0) {XN YN : List AN} {XE YE : List AE} (p1 : NsAt w XN na nl) (p2 : EsAt w XE ea el) (p3 : NsAt w YN ma ml) (p4 : EsAt w YE fa fl) (r1 : Rt ⟨XN, XE, nx, []⟩) (r2 : Rt ⟨YN, YE, mx, []⟩) {gn nn hn en : Nat} (hg : gn = (lackL sameN XN YN).length) (hn1 : nn = (lackL sameN YN XN).length) (hh : hn = (lackL sameE XE YE).length) (he : en = (lackL sameE YE XE).length) (W : World) (k : Below w.heap.size w W) :
    Calls Tryz.prog 18 #[.agg #[.slice na nl nc, .slice ea el ec, .int .i64 nx], .agg #[.slice ma ml mc, .slice fa fl fc, .int .i64 mx]] W fun e w' => (∃ ga gc na1 nc1 ha hc ea1 ec1, e = .returned (.tuple #[.agg #[.slice ga gn gc, .slice na1 nn nc1, .slice ha hn hc, .slice ea1 en ec1, .int .i64 nx, .int .i64 mx], .int .i64 0]) ∧ DAt w' (lackL sameN XN YN) (lackL sameN YN XN) (lackL sameE XE YE) (lackL sameE YE XE) ga gn na1 nn ha hn ea1 en) ∧ Below W.heap.size W w' := by
  have l1 : nl ≤ 40 := by rw [ns_len p1]; exact r1.n40
  have l2 : el ≤ 60 := by rw [es_len p2]; exact r1.e60
  have l3 : ml ≤ 40 := by rw [ns_len p3]; exact r2.n40
  have l4 : fl ≤ 60 := by rw [es_len p4]; exact r2.e60
  refine (between_good h1 h2 nc ec nx mc fc mx e1 e2 p1 p2 p3 p4 r1.nok r1.eok r2.nok r2.eok l1 l2 l3 l4 W k).mono ?_
  rintro e w' ⟨⟨v, rfl, ga, gc, na1, nc1, ha, hc, ea1, ec1, rfl, q1, q2, q3, q4⟩, kk⟩
  subst hg hn1 hh he
  exact ⟨⟨ga, gc, na1, nc1, ha, hc, ea1, ec1, rfl, q1.reads2.2, q2.reads2.2, q3.reads2.2, q4.reads2.2⟩, kk⟩

/-- Turn of a right graph and what differs. -/
theorem turn_at (B : Nat) {XN YN : List AN} {XE YE : List AE} {nx mx : Int} (r1 : Rt ⟨XN, XE, nx, []⟩) (r2 : Rt ⟨YN, YE, mx, []⟩) {ml fl : Nat} (hm : ml = YN.length) (hf : fl = YE.length) {W : World} (hB : B ≤ W.heap.size) (hT : Tabs B W) {na : Option Addr} {nl : Nat} {ea : Option Addr} {el : Nat} (p1 : NsAt W XN na nl) (p2 : EsAt W XE ea el) {ga : Option Addr} {gn : Nat} {na1 : Option Addr} {nn : Nat} {ha : Option Addr} {hn : Nat} {ea1 : Option Addr} {en : Nat} (d : DAt W (lackL sameN XN YN) (lackL sameN YN XN) (lackL sameE XE YE) (lackL sameE YE XE) ga gn na1 nn ha hn ea1 en) (nc ec gc nc1 hc ec1 : Nat) :
    Calls Tryz.prog 26 #[.agg #[.slice na nl nc, .slice ea el ec, .int .i64 nx], .agg #[.slice ga gn gc, .slice na1 nn nc1, .slice ha hn hc, .slice ea1 en ec1, .int .i64 nx, .int .i64 mx]] W fun e w' => (∃ a1 c1 a2 c2, e = .returned (.tuple #[.agg #[.slice a1 ml c1, .slice a2 fl c2, .int .i64 mx], .int .i64 0]) ∧ NsOwn (fun i => W.heap.size ≤ i) w' YN (.slice a1 ml c1) ∧ EsOwn (fun i => W.heap.size ≤ i) w' YE (.slice a2 fl c2)) ∧ Below W.heap.size W w' :=
  turn_any B XN YN XE YE na nl nc ea el ec nx ga gn gc na1 nn nc1 ha hn hc ea1 en ec1 mx ml fl W hB hT r1 r2 p1 p2 d.1 d.2.1 d.2.2.1 d.2.2.2 hm hf

theorem NsOwn.seen {A : Nat → Prop} {w w' : World} {X : List AN} {a : Option Addr} {l c : Nat} (h : NsOwn A w X (.slice a l c)) (hl : l = X.length) (k : Keep A A w w') : NsAt w' X a l := by
  subst hl
  exact (h.kept k).reads2.2

theorem EsOwn.seen {A : Nat → Prop} {w w' : World} {X : List AE} {a : Option Addr} {l c : Nat} (h : EsOwn A w X (.slice a l c)) (hl : l = X.length) (k : Keep A A w w') : EsAt w' X a l := by
  subst hl
  exact (h.kept k).reads2.2

/-- A graph, twice in memory. -/
theorem same_graph {XN : List AN} {XE : List AE} {nx : Int} (r : Rt ⟨XN, XE, nx, []⟩) {W : World} {a : Option Addr} {l : Nat} {b : Option Addr} {m : Nat} {a' : Option Addr} {l' : Nat} {b' : Option Addr} {m' : Nat} (h1 : NsAt W XN a l) (h2 : EsAt W XE b m) (h3 : NsAt W XN a' l') (h4 : EsAt W XE b' m') (c d c' d' : Nat) :
    Calls Tryz.prog 12 #[.agg #[.slice a l c, .slice b m d, .int .i64 nx], .agg #[.slice a' l' c', .slice b' m' d', .int .i64 nx]] W fun e w' => e = .returned (.bool true) ∧ Below W.heap.size W w' := by
  have := sameGraph_ref XN XN XE XE a l c b m d nx a' l' c' b' m' d' nx W h1 h2 h3 h4 r.nok r.eok r.nok r.eok
  rw [eqB_self _ sameN_self, eqB_self _ sameE_self] at this
  simpa using this

set_option maxHeartbeats 8000000 in
set_option maxRecDepth 100000 in
theorem through_bad (N1 : List Nd) (E1 : List Ed) (na : Option Addr) (nl nc : Nat) (ea : Option Addr) (el ec : Nat) (nx : Int) (N2 : List Nd) (E2 : List Ed) (ma : Option Addr) (ml mc : Nat) (fa : Option Addr) (fl fc : Nat) (mx : Int) (N3 : List Nd) (E3 : List Ed) (pa : Option Addr) (pl pc : Nat) (qa : Option Addr) (ql qc : Nat) (px : Int) (w : World) (h1 : GrOk w N1 E1 na nl ea el) (h2 : GrOk w N2 E2 ma ml fa fl) (h3 : GrOk w N3 E3 pa pl qa ql) (h0 : betE N1 E1 nx N2 E2 mx ≠ 0 ∨ betE N2 E2 mx N3 E3 px ≠ 0) :
    Calls Tryz.prog 7 #[.agg #[.slice na nl nc, .slice ea el ec, .int .i64 nx], .agg #[.slice ma ml mc, .slice fa fl fc, .int .i64 mx], .agg #[.slice pa pl pc, .slice qa ql qc, .int .i64 px]] w fun e w' => e = .returned (.bool true) ∧ Below w.heap.size w w' := by
  obtain ⟨er1, her1⟩ : ∃ z, z = betE N1 E1 nx N2 E2 mx := ⟨_, rfl⟩
  obtain ⟨er2, her2⟩ : ∃ z, z = betE N2 E2 mx N3 E3 px := ⟨_, rfl⟩
  have HB1 : Hid (∀ W, Below w.heap.size w W → Calls Tryz.prog 18 #[.agg #[.slice na nl nc, .slice ea el ec, .int .i64 nx], .agg #[.slice ma ml mc, .slice fa fl fc, .int .i64 mx]] W fun e w' => BetForm er1 e ∧ Below W.heap.size W w') := fun W k => by rw [her1]; exact between_form h1 h2 nc ec nx mc fc mx W k
  have HB2 : Hid (∀ W, Below w.heap.size w W → Calls Tryz.prog 18 #[.agg #[.slice ma ml mc, .slice fa fl fc, .int .i64 mx], .agg #[.slice pa pl pc, .slice qa ql qc, .int .i64 px]] W fun e w' => BetForm er2 e ∧ Below W.heap.size W w') := fun W k => by rw [her2]; exact between_form h2 h3 mc fc mx pc qc px W k
  rw [← her1, ← her2] at h0
  clear h1 h2 h3 her1 her2
  obtain ⟨z0, g0, g1, g2, b0⟩ := three_new w (.cells #[.slice na nl nc, .slice ea el ec, .int .i64 nx] 25) (.cells #[.slice ma ml mc, .slice fa fl fc, .int .i64 mx] 25) (.cells #[.slice pa pl pc, .slice qa ql qc, .int .i64 px] 25)
  have Z0 := toHid z0
  have G0 := toHid g0
  have G1 := toHid g1
  have G2 := toHid g2
  have B0 := toHid b0
  clear z0 g0 g1 g2 b0
  go_enter Tryz.func7, Tryz.ntmps7
  go_wp2_with fail
  refine (HB1.out _ B0.out).mono ?_
  generalize (((w.alloc (.cells #[.slice na nl nc, .slice ea el ec, .int .i64 nx] 25)).alloc (.cells #[.slice ma ml mc, .slice fa fl fc, .int .i64 mx] 25)).alloc (.cells #[.slice pa pl pc, .slice qa ql qc, .int .i64 px] 25)) = W0 at Z0 G0 G1 G2 B0 ⊢
  have HS : Hid (∀ W' : World, Below (w.heap.size + 3) W0 W' → Below w.heap.size w W' ∧ w.heap.size + 3 ≤ W'.heap.size ∧ (W'.cell? ⟨w.heap.size, 0, none⟩ = some (.slice na nl nc) ∧ W'.cell? ⟨w.heap.size, 1, none⟩ = some (.slice ea el ec) ∧ W'.cell? ⟨w.heap.size, 2, none⟩ = some (.int .i64 nx)) ∧ (W'.cell? ⟨w.heap.size + 1, 0, none⟩ = some (.slice ma ml mc) ∧ W'.cell? ⟨w.heap.size + 1, 1, none⟩ = some (.slice fa fl fc) ∧ W'.cell? ⟨w.heap.size + 1, 2, none⟩ = some (.int .i64 mx)) ∧ (W'.cell? ⟨w.heap.size + 2, 0, none⟩ = some (.slice pa pl pc) ∧ W'.cell? ⟨w.heap.size + 2, 1, none⟩ = some (.slice qa ql qc) ∧ W'.cell? ⟨w.heap.size + 2, 2, none⟩ = some (.int .i64 px))) := fun W' kk => by
    have q0 : ∀ o, W'.cell? ⟨w.heap.size, o, none⟩ = _ := fun o => (kk.cell (p := ⟨w.heap.size, o, none⟩) (by show w.heap.size < _; omega)).trans (cell_of G0.out o)
    have q1 : ∀ o, W'.cell? ⟨w.heap.size + 1, o, none⟩ = _ := fun o => (kk.cell (p := ⟨w.heap.size + 1, o, none⟩) (by show w.heap.size + 1 < _; omega)).trans (cell_of G1.out o)
    have q2 : ∀ o, W'.cell? ⟨w.heap.size + 2, o, none⟩ = _ := fun o => (kk.cell (p := ⟨w.heap.size + 2, o, none⟩) (by show w.heap.size + 2 < _; omega)).trans (cell_of G2.out o)
    exact ⟨B0.out.trans (kk.mono (by omega)), by have := kk.size; rw [Z0.out] at this; exact this, ⟨q0 0, q0 1, q0 2⟩, ⟨q1 0, q1 1, q1 2⟩, ⟨q2 0, q2 1, q2 2⟩⟩
  rintro e w1 ⟨⟨ga, gl, gc, na1, nl1, nc1, ha, hl, hc, ea1, el1, ec1, f1, t1, rfl⟩, k1⟩
  rw [Z0.out] at k1
  have hz1 : w.heap.size + 3 ≤ w1.heap.size := by have := k1.size; rw [Z0.out] at this; exact this
  have K1 := toHid (k1.alloc hz1 (.cells #[.slice ga gl gc, .slice na1 nl1 nc1, .slice ha hl hc, .slice ea1 el1 ec1, .int .i64 f1, .int .i64 t1] 41))
  clear k1 HB1
  obtain ⟨bw, sz, ⟨x0, x1, x2⟩, ⟨y0, y1, y2⟩, ⟨v0, v1, v2⟩⟩ := HS.out (w1.alloc (.cells #[.slice ga gl gc, .slice na1 nl1 nc1, .slice ha hl hc, .slice ea1 el1 ec1, .int .i64 f1, .int .i64 t1] 41)) K1.out
  have hs0 : w.heap.size < (w1.alloc (.cells #[.slice ga gl gc, .slice na1 nl1 nc1, .slice ha hl hc, .slice ea1 el1 ec1, .int .i64 f1, .int .i64 t1] 41)).heap.size := by omega
  have hs1 : w.heap.size + 1 < (w1.alloc (.cells #[.slice ga gl gc, .slice na1 nl1 nc1, .slice ha hl hc, .slice ea1 el1 ec1, .int .i64 f1, .int .i64 t1] 41)).heap.size := by omega
  have hs2 : w.heap.size + 2 < (w1.alloc (.cells #[.slice ga gl gc, .slice na1 nl1 nc1, .slice ha hl hc, .slice ea1 el1 ec1, .int .i64 f1, .int .i64 t1] 41)).heap.size := by omega
  have BW := toHid bw
  clear bw
  go_wp2_with fail
  refine (HB2.out _ BW.out).mono ?_
  clear x0 x1 x2 y0 y1 y2 v0 v1 v2 hs0 hs1 hs2 sz
  generalize w1.alloc (.cells #[.slice ga gl gc, .slice na1 nl1 nc1, .slice ha hl hc, .slice ea1 el1 ec1, .int .i64 f1, .int .i64 t1] 41) = W1 at K1 BW ⊢
  rintro e w2 ⟨⟨gb, gm, gd, na2, nl2, nc2, hb, hm, hd, ea2, el2, ec2, f2, t2, rfl⟩, k2⟩
  have BW2 := toHid ((below3 BW.out BW.out.size k2).alloc (below3 BW.out BW.out.size k2).size (.cells #[.slice gb gm gd, .slice na2 nl2 nc2, .slice hb hm hd, .slice ea2 el2 ec2, .int .i64 f2, .int .i64 t2] 41))
  clear k2 HB2
  go_wp2_with fail
  generalize w2.alloc (.cells #[.slice gb gm gd, .slice na2 nl2 nc2, .slice hb hm hd, .slice ea2 el2 ec2, .int .i64 f2, .int .i64 t2] 41) = W2 at BW2 ⊢
  refine (changed_true _).mono ?_
  rintro e w3 ⟨rfl, k3⟩
  have BW3 := toHid (below3 BW2.out BW2.out.size k3)
  clear k3
  by_cases he1 : er1 = 0
  · have hz' : (er1 != 0) = false := by simp [he1]
    have hz2 : (er2 != 0) = true := by simp [h0.resolve_left (fun h => h he1)]
    go_wp2_with fail
    refine (changed_true _).mono ?_
    rintro e w4 ⟨rfl, k4⟩
    go_wp2_with fail
    go_ret
    exact ⟨rfl, below3 BW3.out BW3.out.size k4⟩
  · have hz' : (er1 != 0) = true := by simp [he1]
    go_wp2_with fail
    refine (changed_true _).mono ?_
    rintro e w4 ⟨rfl, k4⟩
    go_wp2_with fail
    go_ret
    exact ⟨rfl, below3 BW3.out BW3.out.size k4⟩

set_option maxHeartbeats 8000000 in
set_option maxRecDepth 100000 in
theorem through_good (B : Nat) (N1 : List Nd) (E1 : List Ed) (na : Option Addr) (nl nc : Nat) (ea : Option Addr) (el ec : Nat) (nx : Int) (N2 : List Nd) (E2 : List Ed) (ma : Option Addr) (ml mc : Nat) (fa : Option Addr) (fl fc : Nat) (mx : Int) (N3 : List Nd) (E3 : List Ed) (pa : Option Addr) (pl pc : Nat) (qa : Option Addr) (ql qc : Nat) (px : Int) (w : World) (h1 : GrOk w N1 E1 na nl ea el) (h2 : GrOk w N2 E2 ma ml fa fl) (h3 : GrOk w N3 E3 pa pl qa ql) (hB : B ≤ w.heap.size) (hT : Tabs B w) (e1 : gE N1 E1 nx = 0) (e2 : gE N2 E2 mx = 0) (e3 : gE N3 E3 px = 0) :
    Calls Tryz.prog 7 #[.agg #[.slice na nl nc, .slice ea el ec, .int .i64 nx], .agg #[.slice ma ml mc, .slice fa fl fc, .int .i64 mx], .agg #[.slice pa pl pc, .slice qa ql qc, .int .i64 px]] w fun e w' => e = .returned (.bool true) ∧ Below w.heap.size w w' := by
  obtain ⟨XN, XE, p1, p2, R1⟩ := gr_right h1 e1
  obtain ⟨YN, YE, p3, p4, R2⟩ := gr_right h2 e2
  obtain ⟨ZN, ZE, p5, p6, R3⟩ := gr_right h3 e3
  have r1 := R1 []
  have r2 := R2 []
  have r3 := R3 []
  obtain ⟨g1n, hg1⟩ : ∃ z, z = (lackL sameN XN YN).length := ⟨_, rfl⟩
  obtain ⟨n1n, hn1⟩ : ∃ z, z = (lackL sameN YN XN).length := ⟨_, rfl⟩
  obtain ⟨h1n, hh1⟩ : ∃ z, z = (lackL sameE XE YE).length := ⟨_, rfl⟩
  obtain ⟨e1n, he1⟩ : ∃ z, z = (lackL sameE YE XE).length := ⟨_, rfl⟩
  obtain ⟨g2n, hg2⟩ : ∃ z, z = (lackL sameN YN ZN).length := ⟨_, rfl⟩
  obtain ⟨n2n, hn2⟩ : ∃ z, z = (lackL sameN ZN YN).length := ⟨_, rfl⟩
  obtain ⟨h2n, hh2⟩ : ∃ z, z = (lackL sameE YE ZE).length := ⟨_, rfl⟩
  obtain ⟨e2n, he2⟩ : ∃ z, z = (lackL sameE ZE YE).length := ⟨_, rfl⟩
  have HB1 : Hid (∀ W, Below w.heap.size w W → Calls Tryz.prog 18 #[.agg #[.slice na nl nc, .slice ea el ec, .int .i64 nx], .agg #[.slice ma ml mc, .slice fa fl fc, .int .i64 mx]] W fun e w' => (∃ ga gc na1 nc1 ha hc ea1 ec1, e = .returned (.tuple #[.agg #[.slice ga g1n gc, .slice na1 n1n nc1, .slice ha h1n hc, .slice ea1 e1n ec1, .int .i64 nx, .int .i64 mx], .int .i64 0]) ∧ DAt w' (lackL sameN XN YN) (lackL sameN YN XN) (lackL sameE XE YE) (lackL sameE YE XE) ga g1n na1 n1n ha h1n ea1 e1n) ∧ Below W.heap.size W w') := fun W k => between_dat h1 h2 nc ec nx mc fc mx e1 e2 p1 p2 p3 p4 r1 r2 hg1 hn1 hh1 he1 W k
  have HB2 : Hid (∀ W, Below w.heap.size w W → Calls Tryz.prog 18 #[.agg #[.slice ma ml mc, .slice fa fl fc, .int .i64 mx], .agg #[.slice pa pl pc, .slice qa ql qc, .int .i64 px]] W fun e w' => (∃ gb gd na2 nc2 hb hd ea2 ec2, e = .returned (.tuple #[.agg #[.slice gb g2n gd, .slice na2 n2n nc2, .slice hb h2n hd, .slice ea2 e2n ec2, .int .i64 mx, .int .i64 px], .int .i64 0]) ∧ DAt w' (lackL sameN YN ZN) (lackL sameN ZN YN) (lackL sameE YE ZE) (lackL sameE ZE YE) gb g2n na2 n2n hb h2n ea2 e2n) ∧ Below W.heap.size W w') := fun W k => between_dat h2 h3 mc fc mx pc qc px e2 e3 p3 p4 p5 p6 r2 r3 hg2 hn2 hh2 he2 W k
  have HT1 : Hid (∀ W ga gc na1 nc1 ha hc ea1 ec1, Below w.heap.size w W → DAt W (lackL sameN XN YN) (lackL sameN YN XN) (lackL sameE XE YE) (lackL sameE YE XE) ga g1n na1 n1n ha h1n ea1 e1n → Calls Tryz.prog 26 #[.agg #[.slice na nl nc, .slice ea el ec, .int .i64 nx], .agg #[.slice ga g1n gc, .slice na1 n1n nc1, .slice ha h1n hc, .slice ea1 e1n ec1, .int .i64 nx, .int .i64 mx]] W fun e w' => (∃ a1 c1 a2 c2, e = .returned (.tuple #[.agg #[.slice a1 ml c1, .slice a2 fl c2, .int .i64 mx], .int .i64 0]) ∧ NsAt w' YN a1 ml ∧ EsAt w' YE a2 fl) ∧ Below W.heap.size W w') := fun W ga gc na1 nc1 ha hc ea1 ec1 k d => (turn_at B r1 r2 (ns_len p3) (es_len p4) (Nat.le_trans hB k.size) (tabs_up hT hB k) (p1.below k) (p2.below k) d nc ec gc nc1 hc ec1).mono fun e w' ⟨⟨a1, c1, a2, c2, he, q1, q2⟩, kk⟩ => ⟨⟨a1, c1, a2, c2, he, q1.seen (ns_len p3) (Keep.weak w' fun _ h _ => h), q2.seen (es_len p4) (Keep.weak w' fun _ h _ => h)⟩, kk⟩
  have HT2 : Hid (∀ W a1 c1 a2 c2 gb gd na2 nc2 hb hd ea2 ec2, Below w.heap.size w W → NsAt W YN a1 ml → EsAt W YE a2 fl → DAt W (lackL sameN YN ZN) (lackL sameN ZN YN) (lackL sameE YE ZE) (lackL sameE ZE YE) gb g2n na2 n2n hb h2n ea2 e2n → Calls Tryz.prog 26 #[.agg #[.slice a1 ml c1, .slice a2 fl c2, .int .i64 mx], .agg #[.slice gb g2n gd, .slice na2 n2n nc2, .slice hb h2n hd, .slice ea2 e2n ec2, .int .i64 mx, .int .i64 px]] W fun e w' => (∃ b1 d1 b2 d2, e = .returned (.tuple #[.agg #[.slice b1 pl d1, .slice b2 ql d2, .int .i64 px], .int .i64 0]) ∧ NsAt w' ZN b1 pl ∧ EsAt w' ZE b2 ql) ∧ Below W.heap.size W w') := fun W a1 c1 a2 c2 gb gd na2 nc2 hb hd ea2 ec2 k q1 q2 d => (turn_at B r2 r3 (ns_len p5) (es_len p6) (Nat.le_trans hB k.size) (tabs_up hT hB k) q1 q2 d c1 c2 gd nc2 hd ec2).mono fun e w' ⟨⟨b1, d1, b2, d2, he, q1, q2⟩, kk⟩ => ⟨⟨b1, d1, b2, d2, he, q1.seen (ns_len p5) (Keep.weak w' fun _ h _ => h), q2.seen (es_len p6) (Keep.weak w' fun _ h _ => h)⟩, kk⟩
  have HSG : Hid (∀ W b1 d1 b2 d2, Below w.heap.size w W → NsAt W ZN b1 pl → EsAt W ZE b2 ql → Calls Tryz.prog 12 #[.agg #[.slice b1 pl d1, .slice b2 ql d2, .int .i64 px], .agg #[.slice pa pl pc, .slice qa ql qc, .int .i64 px]] W fun e w' => e = .returned (.bool true) ∧ Below W.heap.size W w') := fun W b1 d1 b2 d2 k q1 q2 => same_graph r3 q1 q2 (p5.below k) (p6.below k) d1 d2 pc qc
  clear h1 h2 h3 e1 e2 e3 p1 p2 p3 p4 p5 p6 R1 R2 R3 r1 r2 r3 hB hT hg1 hn1 hh1 he1 hg2 hn2 hh2 he2
  obtain ⟨z0, g0, g1, g2, b0⟩ := three_new w (.cells #[.slice na nl nc, .slice ea el ec, .int .i64 nx] 25) (.cells #[.slice ma ml mc, .slice fa fl fc, .int .i64 mx] 25) (.cells #[.slice pa pl pc, .slice qa ql qc, .int .i64 px] 25)
  have Z0 := toHid z0
  have G0 := toHid g0
  have G1 := toHid g1
  have G2 := toHid g2
  have B0 := toHid b0
  clear z0 g0 g1 g2 b0
  go_enter Tryz.func7, Tryz.ntmps7
  go_wp2_with fail
  refine (HB1.out _ B0.out).mono ?_
  generalize (((w.alloc (.cells #[.slice na nl nc, .slice ea el ec, .int .i64 nx] 25)).alloc (.cells #[.slice ma ml mc, .slice fa fl fc, .int .i64 mx] 25)).alloc (.cells #[.slice pa pl pc, .slice qa ql qc, .int .i64 px] 25)) = W0 at Z0 G0 G1 G2 B0 ⊢
  have HS : Hid (∀ W' : World, Below (w.heap.size + 3) W0 W' → Below w.heap.size w W' ∧ w.heap.size + 3 ≤ W'.heap.size ∧ (W'.cell? ⟨w.heap.size, 0, none⟩ = some (.slice na nl nc) ∧ W'.cell? ⟨w.heap.size, 1, none⟩ = some (.slice ea el ec) ∧ W'.cell? ⟨w.heap.size, 2, none⟩ = some (.int .i64 nx)) ∧ (W'.cell? ⟨w.heap.size + 1, 0, none⟩ = some (.slice ma ml mc) ∧ W'.cell? ⟨w.heap.size + 1, 1, none⟩ = some (.slice fa fl fc) ∧ W'.cell? ⟨w.heap.size + 1, 2, none⟩ = some (.int .i64 mx)) ∧ (W'.cell? ⟨w.heap.size + 2, 0, none⟩ = some (.slice pa pl pc) ∧ W'.cell? ⟨w.heap.size + 2, 1, none⟩ = some (.slice qa ql qc) ∧ W'.cell? ⟨w.heap.size + 2, 2, none⟩ = some (.int .i64 px))) := fun W' kk => by
    have q0 : ∀ o, W'.cell? ⟨w.heap.size, o, none⟩ = _ := fun o => (kk.cell (p := ⟨w.heap.size, o, none⟩) (by show w.heap.size < _; omega)).trans (cell_of G0.out o)
    have q1 : ∀ o, W'.cell? ⟨w.heap.size + 1, o, none⟩ = _ := fun o => (kk.cell (p := ⟨w.heap.size + 1, o, none⟩) (by show w.heap.size + 1 < _; omega)).trans (cell_of G1.out o)
    have q2 : ∀ o, W'.cell? ⟨w.heap.size + 2, o, none⟩ = _ := fun o => (kk.cell (p := ⟨w.heap.size + 2, o, none⟩) (by show w.heap.size + 2 < _; omega)).trans (cell_of G2.out o)
    exact ⟨B0.out.trans (kk.mono (by omega)), by have := kk.size; rw [Z0.out] at this; exact this, ⟨q0 0, q0 1, q0 2⟩, ⟨q1 0, q1 1, q1 2⟩, ⟨q2 0, q2 1, q2 2⟩⟩
  rintro e w1 ⟨⟨ga, gc, na1, nc1, ha, hc, ea1, ec1, rfl, dd1⟩, k1⟩
  have hz1 : w.heap.size + 3 ≤ w1.heap.size := by have := k1.size; rw [Z0.out] at this; exact this
  rw [Z0.out] at k1
  have kA : Below w1.heap.size w1 (w1.alloc (.cells #[.slice ga g1n gc, .slice na1 n1n nc1, .slice ha h1n hc, .slice ea1 e1n ec1, .int .i64 nx, .int .i64 mx] 41)) := (Below.refl _ _).alloc (Nat.le_refl _) _
  have hA := alloc_new w1 (.cells #[.slice ga g1n gc, .slice na1 n1n nc1, .slice ha h1n hc, .slice ea1 e1n ec1, .int .i64 nx, .int .i64 mx] 41)
  have zA : (w1.alloc (.cells #[.slice ga g1n gc, .slice na1 n1n nc1, .slice ha h1n hc, .slice ea1 e1n ec1, .int .i64 nx, .int .i64 mx] 41)).heap.size = w1.heap.size + 1 := by simp
  have K1 := toHid (k1.alloc hz1 (.cells #[.slice ga g1n gc, .slice na1 n1n nc1, .slice ha h1n hc, .slice ea1 e1n ec1, .int .i64 nx, .int .i64 mx] 41))
  have DD1 := toHid (dd1.below kA)
  have HA := toHid hA
  have ZA := toHid zA
  clear k1 HB1 dd1 kA hA zA
  obtain ⟨bw, sz, ⟨x0, x1, x2⟩, ⟨y0, y1, y2⟩, ⟨v0, v1, v2⟩⟩ := HS.out (w1.alloc (.cells #[.slice ga g1n gc, .slice na1 n1n nc1, .slice ha h1n hc, .slice ea1 e1n ec1, .int .i64 nx, .int .i64 mx] 41)) K1.out
  have hs0 : w.heap.size < (w1.alloc (.cells #[.slice ga g1n gc, .slice na1 n1n nc1, .slice ha h1n hc, .slice ea1 e1n ec1, .int .i64 nx, .int .i64 mx] 41)).heap.size := by omega
  have hs1 : w.heap.size + 1 < (w1.alloc (.cells #[.slice ga g1n gc, .slice na1 n1n nc1, .slice ha h1n hc, .slice ea1 e1n ec1, .int .i64 nx, .int .i64 mx] 41)).heap.size := by omega
  have hs2 : w.heap.size + 2 < (w1.alloc (.cells #[.slice ga g1n gc, .slice na1 n1n nc1, .slice ha h1n hc, .slice ea1 e1n ec1, .int .i64 nx, .int .i64 mx] 41)).heap.size := by omega
  have BW := toHid bw
  clear bw
  go_wp2_with fail
  refine (HB2.out _ BW.out).mono ?_
  clear x0 x1 x2 y0 y1 y2 v0 v1 v2 hs0 hs1 hs2 sz
  generalize w1.alloc (.cells #[.slice ga g1n gc, .slice na1 n1n nc1, .slice ha h1n hc, .slice ea1 e1n ec1, .int .i64 nx, .int .i64 mx] 41) = W1 at K1 BW DD1 HA ZA ⊢
  generalize w1.heap.size = m1 at hz1 HA ZA ⊢
  rintro e w2 ⟨⟨gb, gd, na2, nc2, hb, hd, ea2, ec2, rfl, dd2⟩, k2⟩
  have hz2 : m1 + 1 ≤ w2.heap.size := by have := k2.size; rw [ZA.out] at this; exact this
  have kA : Below w2.heap.size w2 (w2.alloc (.cells #[.slice gb g2n gd, .slice na2 n2n nc2, .slice hb h2n hd, .slice ea2 e2n ec2, .int .i64 mx, .int .i64 px] 41)) := (Below.refl _ _).alloc (Nat.le_refl _) _
  have kB := below3 k2 k2.size kA
  have hA2 := alloc_new w2 (.cells #[.slice gb g2n gd, .slice na2 n2n nc2, .slice hb h2n hd, .slice ea2 e2n ec2, .int .i64 mx, .int .i64 px] 41)
  have zA2 : (w2.alloc (.cells #[.slice gb g2n gd, .slice na2 n2n nc2, .slice hb h2n hd, .slice ea2 e2n ec2, .int .i64 mx, .int .i64 px] 41)).heap.size = w2.heap.size + 1 := by simp
  have K2 := toHid (K1.out.trans (kB.mono (by rw [ZA.out]; omega)))
  have DD1' := toHid (DD1.out.below kB)
  have DD2 := toHid (dd2.below kA)
  have HA' := toHid ((kB.block m1 (by rw [ZA.out]; omega)).trans HA.out)
  have HA2 := toHid hA2
  have ZA2 := toHid zA2
  clear k2 HB2 dd2 kA kB hA2 zA2 DD1 HA ZA K1 BW
  go_wp2_with fail
  generalize w2.alloc (.cells #[.slice gb g2n gd, .slice na2 n2n nc2, .slice hb h2n hd, .slice ea2 e2n ec2, .int .i64 mx, .int .i64 px] 41) = W2 at K2 DD1' DD2 HA' HA2 ZA2 ⊢
  generalize w2.heap.size = m2 at hz2 HA2 ZA2 ⊢
  refine (changed_true _).mono ?_
  rintro e w3 ⟨rfl, k3⟩
  have hz3 : m2 + 1 ≤ w3.heap.size := by have := k3.size; rw [ZA2.out] at this; exact this
  have K3 := toHid (K2.out.trans (k3.mono (by rw [ZA2.out]; omega)))
  have E1 := toHid (DD1'.out.below k3)
  have E2 := toHid (DD2.out.below k3)
  have h1b := (k3.block m1 (by rw [ZA2.out]; omega)).trans HA'.out
  have HF1 := toHid h1b
  have HF2 := toHid ((k3.block m2 (by rw [ZA2.out]; omega)).trans HA2.out)
  have u0 := cell_of h1b 0
  have u1 := cell_of h1b 1
  have u2 := cell_of h1b 2
  have u3 := cell_of h1b 3
  have u4 := cell_of h1b 4
  have u5 := cell_of h1b 5
  simp at u0 u1 u2 u3 u4 u5
  clear k3 DD1' DD2 HA' HA2 ZA2 K2 h1b
  obtain ⟨bw, sz, ⟨x0, x1, x2⟩, ⟨y0, y1, y2⟩, ⟨v0, v1, v2⟩⟩ := HS.out w3 K3.out
  have hs0 : w.heap.size < w3.heap.size := by omega
  have hs1 : w.heap.size + 1 < w3.heap.size := by omega
  have hs2 : w.heap.size + 2 < w3.heap.size := by omega
  have hm1 : m1 < w3.heap.size := by omega
  go_wp2_with fail
  refine (HT1.out _ ga gc na1 nc1 ha hc ea1 ec1 bw E1.out).mono ?_
  clear x0 x1 x2 y0 y1 y2 v0 v1 v2 hs0 hs1 hs2 u0 u1 u2 u3 u4 u5 hm1
  rintro e w4 ⟨⟨a1, c1, a2, c2, rfl, q1, q2⟩, k4⟩
  have hz4 : m2 + 1 ≤ w4.heap.size := Nat.le_trans hz3 k4.size
  have kA : Below w4.heap.size w4 (w4.alloc (.cells #[.slice a1 ml c1, .slice a2 fl c2, .int .i64 mx] 25)) := (Below.refl _ _).alloc (Nat.le_refl _) _
  have kB := below3 k4 k4.size kA
  have hX := alloc_new w4 (.cells #[.slice a1 ml c1, .slice a2 fl c2, .int .i64 mx] 25)
  have zX : (w4.alloc (.cells #[.slice a1 ml c1, .slice a2 fl c2, .int .i64 mx] 25)).heap.size = w4.heap.size + 1 := by simp
  have K4 := toHid (K3.out.trans (kB.mono (by omega)))
  have Q1 := toHid (q1.below kA)
  have Q2 := toHid (q2.below kA)
  have F2 := toHid (E2.out.below kB)
  have h2b := (kB.block m2 (by omega)).trans HF2.out
  have s0 := cell_of h2b 0
  have s1 := cell_of h2b 1
  have s2 := cell_of h2b 2
  have s3 := cell_of h2b 3
  have s4 := cell_of h2b 4
  have s5 := cell_of h2b 5
  simp at s0 s1 s2 s3 s4 s5
  have HX := toHid hX
  have ZX := toHid zX
  clear k4 q1 q2 kA kB hX zX h2b HF1 HF2 E1 E2 K3 bw sz HT1
  obtain ⟨bw, sz, -, -, -⟩ := HS.out _ K4.out
  have BW := toHid bw
  have hm2 : m2 < (w4.alloc (.cells #[.slice a1 ml c1, .slice a2 fl c2, .int .i64 mx] 25)).heap.size := by rw [ZX.out]; omega
  clear bw
  go_wp2_with fail
  refine (HT2.out _ a1 c1 a2 c2 gb gd na2 nc2 hb hd ea2 ec2 BW.out Q1.out Q2.out F2.out).mono ?_
  generalize w4.alloc (.cells #[.slice a1 ml c1, .slice a2 fl c2, .int .i64 mx] 25) = W4 at K4 Q1 Q2 F2 HX ZX BW sz s0 s1 s2 s3 s4 s5 hm2 ⊢
  clear s0 s1 s2 s3 s4 s5
  rintro e w5 ⟨⟨b1, d1, b2, d2, rfl, q1, q2⟩, k5⟩
  have hz5 : w.heap.size + 3 ≤ w5.heap.size := Nat.le_trans sz k5.size
  have kA : Below w5.heap.size w5 (w5.alloc (.cells #[.slice b1 pl d1, .slice b2 ql d2, .int .i64 px] 25)) := (Below.refl _ _).alloc (Nat.le_refl _) _
  have kB := below3 k5 k5.size kA
  have K5 := toHid (K4.out.trans (kB.mono sz))
  have Q3 := toHid (q1.below kA)
  have Q4 := toHid (q2.below kA)
  clear k5 q1 q2 kA kB HT2 K4 Q1 Q2 F2 HX ZX BW sz hm2
  obtain ⟨bw, sz, ⟨x0, x1, x2⟩, ⟨y0, y1, y2⟩, ⟨v0, v1, v2⟩⟩ := HS.out (w5.alloc (.cells #[.slice b1 pl d1, .slice b2 ql d2, .int .i64 px] 25)) K5.out
  have hs0 : w.heap.size < (w5.alloc (.cells #[.slice b1 pl d1, .slice b2 ql d2, .int .i64 px] 25)).heap.size := by omega
  have hs1 : w.heap.size + 1 < (w5.alloc (.cells #[.slice b1 pl d1, .slice b2 ql d2, .int .i64 px] 25)).heap.size := by omega
  have hs2 : w.heap.size + 2 < (w5.alloc (.cells #[.slice b1 pl d1, .slice b2 ql d2, .int .i64 px] 25)).heap.size := by omega
  go_wp2_with fail
  refine (HSG.out _ b1 d1 b2 d2 bw Q3.out Q4.out).mono ?_
  rintro e w6 ⟨rfl, k6⟩
  have hfin := below3 bw bw.size k6
  clear x0 x1 x2 y0 y1 y2 v0 v1 v2 hs0 hs1 hs2
  go_wp2_with fail
  go_ret
  exact ⟨rfl, hfin⟩

theorem law_through (B : Nat) (N1 : List Nd) (E1 : List Ed) (na : Option Addr) (nl nc : Nat) (ea : Option Addr) (el ec : Nat) (nx : Int) (N2 : List Nd) (E2 : List Ed) (ma : Option Addr) (ml mc : Nat) (fa : Option Addr) (fl fc : Nat) (mx : Int) (N3 : List Nd) (E3 : List Ed) (pa : Option Addr) (pl pc : Nat) (qa : Option Addr) (ql qc : Nat) (px : Int) (w : World) (h1 : GrOk w N1 E1 na nl ea el) (h2 : GrOk w N2 E2 ma ml fa fl) (h3 : GrOk w N3 E3 pa pl qa ql) (hB : B ≤ w.heap.size) (hT : Tabs B w) :
    Calls Tryz.prog 7 #[.agg #[.slice na nl nc, .slice ea el ec, .int .i64 nx], .agg #[.slice ma ml mc, .slice fa fl fc, .int .i64 mx], .agg #[.slice pa pl pc, .slice qa ql qc, .int .i64 px]] w fun e w' => e = .returned (.bool true) ∧ Below w.heap.size w w' := by
  by_cases h0 : betE N1 E1 nx N2 E2 mx = 0
  · by_cases h00 : betE N2 E2 mx N3 E3 px = 0
    · have e1 : gE N1 E1 nx = 0 := by
        unfold betE at h0
        split at h0
        · assumption
        · exact h0
      have e2 : gE N2 E2 mx = 0 := by
        unfold betE at h0
        rw [if_pos e1] at h0
        exact h0
      have e3 : gE N3 E3 px = 0 := by
        unfold betE at h00
        rw [if_pos e2] at h00
        exact h00
      exact through_good B N1 E1 na nl nc ea el ec nx N2 E2 ma ml mc fa fl fc mx N3 E3 pa pl pc qa ql qc px w h1 h2 h3 hB hT e1 e2 e3
    · exact through_bad N1 E1 na nl nc ea el ec nx N2 E2 ma ml mc fa fl fc mx N3 E3 pa pl pc qa ql qc px w h1 h2 h3 (.inr h00)
  · exact through_bad N1 E1 na nl nc ea el ec nx N2 E2 ma ml mc fa fl fc mx N3 E3 pa pl pc qa ql qc px w h1 h2 h3 (.inl h0)

open Go.RowKit Go.Lib
set_option linter.unusedVariables false

theorem accept_eq : (Rows.laid_unicode_utf8_acceptRanges : DataW Unit) = acceptData := by kernel_rfl
theorem first_eq : (Rows.laid_unicode_utf8_first : DataW Unit) = firstData := Pinned.utf8First_eq

theorem u8extra : U8Extra Tryz.prog Tryz.lays196_ren := ⟨by kernel_rfl, by kernel_rfl, by kernel_rfl, by kernel_rfl, by kernel_rfl, by kernel_rfl, by kernel_rfl⟩

theorem tabs_of {l : List (String × DataW Unit)} (hf : ("unicode/utf8.first", Rows.laid_unicode_utf8_first) ∈ l) (ha : ("unicode/utf8.acceptRanges", Rows.laid_unicode_utf8_acceptRanges) ∈ l) {W : World} (h : laidMet Tryz.prog l W) : Tabs W.heap.size W := by
  have h0 : Lib.Utf8Tabs 0 1 W := utf8Tabs_of_readsT (U8Types.of196 Tryz.lays196) u8extra
    (first_eq ▸ Lib.laidMet.reads h hf)
    (accept_eq ▸ Lib.laidMet.reads h ha)
  have b0 : 0 < W.heap.size := World.block_lt_of_cell? W _ (h0.1 0 (by decide))
  have b1 : 1 < W.heap.size := World.block_lt_of_cell? W _ (h0.2 0 (by decide)).1
  intro w' hb
  refine ⟨fun c hc => ?_, fun i hi => ⟨?_, ?_⟩⟩
  · rw [hb.cell (p := ⟨0, c, none⟩) b0]; exact h0.1 c hc
  · rw [hb.cell (p := ⟨1, 2 * i, none⟩) b1]; exact (h0.2 i hi).1
  · rw [hb.cell (p := ⟨1, 2 * i + 1, none⟩) b1]; exact (h0.2 i hi).2
end Go.Proofs.YtdlmlpddkfnfmaaGreatDoor
