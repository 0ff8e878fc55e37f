/-
  What is proved here: what the texts KoRead, KpLS, KpLP, KrVal prove, in one text.
-/
import Derived.Test.YtldpionmmplncaaDoorQOAN
import Derived.Test.YtldpionmmplncaaDoorQOAO
import Derived.Test.YtldpionmmplncaaDoorQOAP
import Derived.Test.YtldpionmmplncaaDoorQOAH
import Derived.Test.YtldpionmmplncaaDoorQOAL
import Derived.Deep.AppendLies
namespace Go.Proofs.YtldpionmmplncaaDoor
open Go.RowKit
set_option linter.unusedVariables false

theorem pr_e (B : Nat) {w : World} (hB : B ≤ w.heap.size) (hT : Tabs B w) {p : Pr} {x : AP} (h : PrIn AnyB w p x) (hin : InT x.t) : ∃ e, PrOk w { p with e := e } ∧ (e = 0 ↔ Ck 6 x.t) := by
  obtain ⟨h1, h2, h3, h4, Lt, h5, h6⟩ := h
  rw [h5] at hin
  have hL := LieA.lies _ _ _ h6
  obtain ⟨e, he, c1, c2⟩ := bi_all B w hB hT 6 0 rfl p.k p.n p.s p.a p.l p.c Lt h3 hin hL
  refine ⟨e, ⟨⟨h3, h4⟩, Lt, hin, hL, he, c1⟩, ?_⟩
  rw [h5]
  exact ⟨c1, c2⟩

theorem prs_e (B : Nat) {w : World} (hB : B ≤ w.heap.size) (hT : Tabs B w) {P : List Pr} {X : List AP} (h : Pair2 (PrIn AnyB w) P X) (hX : ∀ x ∈ X, InT x.t) :
    ∃ P' : List Pr, P'.length = X.length ∧ (∀ a l, PropsAt w P a l → PropsAt w P' a l) ∧ (∀ p ∈ P', PrOk w p) ∧ (P'.all fitP = true ↔ ∀ x ∈ X, x.name.size ≤ 12 ∧ Ck 6 x.t) := by
  obtain ⟨P', hl, hP⟩ := list_of (fun i (q : Pr) => ∃ p x, P[i]? = some p ∧ X[i]? = some x ∧ (q.name = p.name ∧ q.k = p.k ∧ q.n = p.n ∧ q.s = p.s ∧ q.a = p.a ∧ q.l = p.l ∧ q.c = p.c) ∧ q.name = x.name ∧ PrOk w q ∧ (q.e = 0 ↔ Ck 6 x.t)) P.length (fun i hi => by
    have hj : i < X.length := by rw [← h.1]; exact hi
    have h0 := h.2 i _ _ (List.getElem?_eq_getElem hi) (List.getElem?_eq_getElem hj)
    obtain ⟨e, he, hc⟩ := pr_e B hB hT h0 (hX _ (List.getElem_mem hj))
    exact ⟨{ P[i] with e := e }, P[i], X[i], List.getElem?_eq_getElem hi, List.getElem?_eq_getElem hj, ⟨rfl, rfl, rfl, rfl, rfl, rfl, rfl⟩, h0.1, he, hc⟩)
  refine ⟨P', hl.trans h.1, fun a l hp => ?_, fun p hp => ?_, ⟨fun hall x hx => ?_, fun hall => ?_⟩⟩
  · obtain ⟨q1, q2, q3⟩ := hp
    refine ⟨by rw [hl]; exact q1, q2, fun h0 => ?_⟩
    obtain ⟨b, off, r1, r2, r3⟩ := q3 h0
    refine ⟨b, off, r1, r2, fun i q hq => ?_⟩
    obtain ⟨p, x, e0, _, ⟨e1, e2, e3, e4, e5, e6, e7⟩, _⟩ := hP i q hq
    rw [e1, e2, e3, e4, e5, e6, e7]
    exact r3 i p e0
  · obtain ⟨i, hi⟩ := List.getElem?_of_mem hp
    obtain ⟨_, _, _, _, _, _, h5, _⟩ := hP i p hi
    exact h5
  · obtain ⟨i, hi⟩ := List.getElem?_of_mem hx
    have hil : i < P'.length := by rw [hl, h.1]; exact (List.getElem?_eq_some_iff.1 hi).1
    obtain ⟨p, x', e0, e1, _, e3, _, e5⟩ := hP i _ (List.getElem?_eq_getElem hil)
    rw [hi] at e1
    cases e1
    have := List.all_eq_true.1 hall _ (List.getElem_mem hil)
    simp only [fitP, Bool.and_eq_true, decide_eq_true_eq, beq_iff_eq] at this
    exact ⟨by rw [← e3]; exact this.1, e5.1 this.2⟩
  · rw [List.all_eq_true]
    intro q hq
    obtain ⟨i, hi⟩ := List.getElem?_of_mem hq
    obtain ⟨p, x, e0, e1, _, e3, _, e5⟩ := hP i q hi
    obtain ⟨c1, c2⟩ := hall x (List.mem_of_getElem? e1)
    simp only [fitP, Bool.and_eq_true, decide_eq_true_eq, beq_iff_eq]
    exact ⟨by rw [e3]; exact c1, e5.2 c2⟩

/-- The numbers of an operation are ints. -/
def OpR (x : AO) : Prop := (-9223372036854775808 ≤ x.k ∧ x.k ≤ 9223372036854775807) ∧ (-9223372036854775808 ≤ x.id ∧ x.id ≤ 9223372036854775807) ∧ (-9223372036854775808 ≤ x.frm ∧ x.frm ≤ 9223372036854775807) ∧ (-9223372036854775808 ≤ x.dst ∧ x.dst ≤ 9223372036854775807)

theorem op_e (B : Nat) {w : World} (hB : B ≤ w.heap.size) (hT : Tabs B w) {p : Oq} {x : AO} (h : OpIn w p x) (hr : OpR x) (hin : InT x.pr.t ∧ ∀ q ∈ x.props, InT q.t) :
    ∃ p' : Oq, p'.cells = p.cells ∧ OOk w p' ∧ (fitO p' = true ↔ OkO x) := by
  obtain ⟨h1, h2, h3, h4, h5, h6⟩ := h
  obtain ⟨e, he, hc⟩ := pr_e B hB hT h2 hin.1
  obtain ⟨P', q0, q1, q2, q3⟩ := prs_e B hB hT h6 hin.2
  refine ⟨{ p with pr := { p.pr with e := e }, props := P' }, rfl, ⟨⟨h2.2.1, he⟩, h4, q1 _ _ h5, q2⟩, ?_⟩
  have hn : p.pr.name = x.pr.name := h2.1
  simp only [fitO, Bool.and_eq_true, decide_eq_true_eq, beq_iff_eq]
  rw [hn, h3, q0, hc, q3, List.all_eq_true]
  constructor
  · rintro ⟨a1, a2, a3, a4, a5, a6⟩
    have a5' : ∀ s ∈ x.labs, s.size ≤ 12 := fun s hs => by have := a5 s hs; simpa [fitS] using this
    exact ⟨⟨hr, ⟨by omega, a4⟩, fun s hs => by have := a5' s hs; omega, fun q hq => ⟨by have := (a6 q hq).1; omega, (a6 q hq).2⟩⟩, a1, a2, a3, a5', fun q hq => (a6 q hq).1⟩
  · rintro ⟨⟨_, a4, _, a6⟩, a1, a2, a3, a5, a7⟩
    exact ⟨a1, a2, a3, a4.2, fun s hs => by have := a5 s hs; simpa [fitS] using this, fun q hq => ⟨a7 q hq, (a6 q hq).2⟩⟩

theorem ops_e (B : Nat) {w : World} (hB : B ≤ w.heap.size) (hT : Tabs B w) {X : List AO} {a : Option Addr} {n : Nat} (h : OsAt w X a n) (hr : ∀ x ∈ X, OpR x) (hin : ∀ x ∈ X, InT x.pr.t ∧ ∀ q ∈ x.props, InT q.t) :
    ∃ P : List Oq, OpsAt w P a n ∧ (∀ p ∈ P, OOk w p) ∧ (opsE P = 0 ↔ OkOs X) := by
  obtain ⟨P, hP, hpair⟩ := h
  obtain ⟨P', hl, hP'⟩ := list_of (fun i (q : Oq) => ∃ p x, P[i]? = some p ∧ X[i]? = some x ∧ q.cells = p.cells ∧ OOk w q ∧ (fitO q = true ↔ OkO x)) P.length (fun i hi => by
    have hj : i < X.length := by rw [← hpair.1]; exact hi
    have h0 := hpair.2 i _ _ (List.getElem?_eq_getElem hi) (List.getElem?_eq_getElem hj)
    obtain ⟨p', e1, e2, e3⟩ := op_e B hB hT h0 (hr _ (List.getElem_mem hj)) (hin _ (List.getElem_mem hj))
    exact ⟨p', P[i], X[i], List.getElem?_eq_getElem hi, List.getElem?_eq_getElem hj, e1, e2, e3⟩)
  refine ⟨P', ?_, fun p hp => ?_, ?_⟩
  · obtain ⟨q1, q2, q3⟩ := hP
    refine ⟨by rw [hl]; exact q1, q2, fun h0 => ?_⟩
    obtain ⟨b, off, r1, r2, r3⟩ := q3 h0
    refine ⟨b, off, r1, r2, fun i q hq => ?_⟩
    obtain ⟨p, x, e0, _, e1, _⟩ := hP' i q hq
    have := r3 i p e0
    unfold Oq.cells at e1
    simp only [List.cons.injEq, and_true] at e1
    obtain ⟨f0, f1, f2, f3, f4, f5, f6, f7, f8, f9, f10⟩ := e1
    rw [f0, f1, f2, f3, f4, f5, f6, f7, f8, f9, f10]
    exact this
  · obtain ⟨i, hi⟩ := List.getElem?_of_mem hp
    obtain ⟨_, _, _, _, _, h5, _⟩ := hP' i p hi
    exact h5
  · have hlx : P'.length = X.length := hl.trans hpair.1
    have hall : P'.all fitO = true ↔ ∀ x ∈ X, OkO x := by
      rw [List.all_eq_true]
      constructor
      · intro hq x hx
        obtain ⟨i, hi⟩ := List.getElem?_of_mem hx
        have hil : i < P'.length := by rw [hlx]; exact (List.getElem?_eq_some_iff.1 hi).1
        obtain ⟨_, x', _, e1, _, _, e5⟩ := hP' i _ (List.getElem?_eq_getElem hil)
        rw [hi] at e1
        cases e1
        exact e5.1 (hq _ (List.getElem_mem hil))
      · intro hx q hq
        obtain ⟨i, hi⟩ := List.getElem?_of_mem hq
        obtain ⟨_, x, _, e1, _, _, e5⟩ := hP' i q hi
        exact e5.2 (hx x (List.mem_of_getElem? e1))
    unfold opsE OkOs
    rw [hlx]
    constructor
    · intro h0
      split at h0
      · cases h0
      · rename_i h1
        split at h0
        · rename_i h2
          exact ⟨by omega, hall.1 h2⟩
        · cases h0
    · rintro ⟨h1, h2⟩
      rw [if_neg (by omega), if_pos (hall.2 h2)]

/-- The weights of an operation's values. -/
def OpL (M : Nat) (x : AO) : Prop := wtT x.pr.t ≤ M ∧ ∀ q ∈ x.props, wtT q.t ≤ M

theorem osB_len {X : List AO} (h : OkOs X) (hw : ∀ x ∈ X, OpL 2097153 x) : (osB X).length ≤ 100000000000000 := by
  have a1 : ∀ x ∈ X, (oB x).length ≤ 100000000000 := fun x hx => by
    obtain ⟨⟨⟨i1, i2, i3, i4⟩, c1, c2, c3⟩, n1, n2, n3, n4, n5⟩ := h.2 x hx
    obtain ⟨w1, w2⟩ := hw x hx
    have b1 := numB_len i1.1 i1.2
    have b2 := numB_len i2.1 i2.2
    have b3 := numB_len i3.1 i3.2
    have b4 := numB_len i4.1 i4.2
    have b5 := pB_len x.pr n1 c1.2 w1
    have b6 := eaB_len (f := txB) (c := 22) x.labs (by omega) (fun s hs => by have q := n4 s hs; have := txB_len (s := s) (by omega); omega)
    have b7 := eaB_len (f := pB) (c := 22 + 4020 * 2097153) x.props (by omega) (fun p hp => pB_len p (n5 p hp) (c3 p hp).2 (w2 p hp))
    unfold pB at b5
    rw [List.length_append] at b5
    unfold oB
    simp only [List.length_append]
    omega
  have c1 := eaB_len X (by have := h.1; omega) a1
  have := h.1
  unfold osB
  omega

theorem opP_some (B : Nat) (bs : List UInt8) (x : AO) (r : List UInt8) (h : opP bs = some (x, r)) : r.length ≤ bs.length ∧ (bs.length ≤ B → PQ B x.pr ∧ ∀ p ∈ x.props, PQ B p) := by
  unfold opP at h
  simp only [Option.bind_eq_some_iff, Option.map_eq_some_iff] at h
  obtain ⟨⟨a, l1⟩, h1, ⟨i, l2⟩, h2, ⟨f, l3⟩, h3, ⟨d, l4⟩, h4, ⟨t, l5⟩, h5, ⟨v, l6⟩, h6, ⟨L, l7⟩, h7, ⟨P, l8⟩, h8, h9⟩ := h
  simp only [Prod.mk.injEq] at h9
  obtain ⟨rfl, rfl⟩ := h9
  have a1 := (numP_some h1).2
  have a2 := (numP_some h2).2
  have a3 := (numP_some h3).2
  have a4 := (numP_some h4).2
  have a5 := txP_some h5
  obtain ⟨a6, a7⟩ := valP_some 6 _ _ _ h6
  have a8 := (listP_some (Q := fun _ => True) (B := 0) (fun l x r hx => ⟨Nat.le_of_lt (txP_some hx), fun _ => trivial⟩) h7).1
  obtain ⟨a9, a10⟩ := listP_some (Q := PQ B) (B := B) (prP_some B) h8
  simp only at a1 a2 a3 a4 a5 a6 a7 a8 a9 a10 ⊢
  exact ⟨by omega, fun hB => ⟨⟨a6, by show wtT v ≤ _; omega⟩, a10 (by omega)⟩⟩

/-- What is read of these bytes is not heavy. -/
def OsLow (L : List UInt8) : Prop := ∀ X r, osP L = some (X, r) → ∀ x ∈ X, (InT x.pr.t ∧ ∀ q ∈ x.props, InT q.t) ∧ OpL 2097152 x

theorem osLow_short {L : List UInt8} (h : L.length ≤ 1048576) : OsLow L := fun X r ho x hx => by
  have := (listP_some (Q := fun x : AO => PQ L.length x.pr ∧ ∀ p ∈ x.props, PQ L.length p) (B := L.length) (opP_some L.length) ho).2 (Nat.le_refl _) x hx
  exact ⟨⟨this.1.1, fun q hq => (this.2 q hq).1⟩, by have := this.1.2; omega, fun q hq => by have := (this.2 q hq).2; omega⟩

theorem okO_in {x : AO} (h : OkO x) : InT x.pr.t ∧ ∀ q ∈ x.props, InT q.t := ⟨ck_in h.1.2.1.2, fun q hq => ck_in (h.1.2.2.2 q hq).2⟩

theorem osLow_own {X : List AO} (h : OkOs X) (hw : ∀ x ∈ X, OpL 2097152 x) : OsLow (osB X) := fun Y r ho x hx => by
  rw [osP_os h] at ho
  simp only [Option.some.injEq, Prod.mk.injEq] at ho
  obtain ⟨rfl, _⟩ := ho
  exact ⟨okO_in (h.2 x hx), hw x hx⟩

/-- Right operations that lie somewhere are packed as their bytes. -/
theorem ops_own (B : Nat) {w : World} (hB : B ≤ w.heap.size) (hT : Tabs B w) {X : List AO} {a : Option Addr} {n c : Nat} (h : OsAt w X a n) (hok : OkOs X) (hl : (osB X).length ≤ 100000000000000) :
    Calls Tryd.prog 4 #[.slice a n c] w fun e w' => e = .returned (.tuple #[.string ⟨(osB X).toArray⟩, .int .i64 0]) ∧ Below w.heap.size w w' := by
  obtain ⟨P, p1, p2, p3⟩ := ops_e B hB hT h (fun x hx => (hok.2 x hx).1.1) (fun x hx => okO_in (hok.2 x hx))
  have h0 := p3.2 hok
  have := ops_any P X a n c w ⟨(osB X).toArray⟩ p1 p2 (fun _ => ⟨h, fun x hx => (hok.2 x hx).1, hl, rfl⟩) (fun h1 => absurd h0 h1)
  rw [h0] at this
  exact this

theorem infoGS0 : (Tryd.prog.info? 9).map (fun i => (i.zero, i.size, i.bytes)) = some (some (.string ⟨#[]⟩), 1, 16) := by kernel_rfl
theorem infoGS : ∃ i, Tryd.prog.info? 9 = some i ∧ i.zero = some (.string ⟨#[]⟩) ∧ i.size = 1 ∧ i.bytes = 16 := by
  obtain ⟨i, h, e⟩ := Option.map_eq_some_iff.1 infoGS0
  simp only [Prod.mk.injEq] at e
  exact ⟨i, h, e⟩

def vOfS : ByteArray → Value := (fun p : ByteArray => Value.string p)
def RLS := RL (β := ByteArray) 9 1 strs SIn

set_option maxHeartbeats 4000000 in
set_option maxRecDepth 100000 in
theorem listS_gen (b : Nat) (w : World) (bs : List UInt8) (d : Int) (most : Nat) (hm : most ≤ 1000) (one : List UInt8 → Option (ByteArray × List UInt8)) (h : Rd b w bs d)
    (HF : ∀ (W : World) (l : List UInt8), b < W.heap.size → Rd b W l d → Calls Tryd.prog 52 #[.pointer (some ⟨b, 0, none⟩)] W fun e w' => Rd1 b W w' d (one l) (R1 vOfS SIn) e) :
    Calls Tryd.prog 54 #[.pointer (some ⟨b, 0, none⟩), .int .i64 most, .func (.func 52) #[.pointer (some ⟨b, 0, none⟩)] #[]] w fun e w' => Rd1 b w w' d (listP most one bs) RLS e := by
  have hlt := h.lt
  have HB := toHid (bits_gen b w bs d h)
  have HHF := toHid HF
  obtain ⟨i0, hi0, hiz, his, hib⟩ := infoGS
  have HI0 := toHid hi0
  have HIZ := toHid hiz
  have HIS := toHid his
  have HIB := toHid hib
  obtain ⟨o, ho⟩ : ∃ o, o = listP most one bs := ⟨_, rfl⟩
  rw [← ho]
  have HO := toHid ho
  clear h hi0 hiz his hib HF ho
  go_enter Tryd.func54, Tryd.ntmps54
  go_wp2_with fail
  refine HB.out.mono ?_
  rintro e w1 ⟨⟨n, r, hbp, hn, rfl, hR1⟩ | ⟨hbp, rfl⟩, hb1, hf1⟩
  rotate_left
  · go_wp2_with fail
    exact ⟨rfl, .inr ⟨by rw [HO.out, listP, hbp]; rfl, rfl⟩, hb1, hf1⟩
  have HF1 := toHid hf1
  have HR1 := toHid hR1
  clear hR1 hf1 HB
  by_cases hmost : n ≤ most
  rotate_left
  · have hle : (most : Int) < n := by omega
    have HN : Hid (o = none) := by show _ = _; rw [HO.out, listP, hbp]; simp [hmost]
    go_wp2_with fail
    exact ⟨rfl, .inr ⟨HN.out, rfl⟩, hb1, HF1.out⟩
  have hle : ¬ (most : Int) < n := by omega
  have HREP : Hid (o = (repP one n r).map fun q => ([] ++ q.1, q.2)) := by
    show _ = _
    rw [HO.out, listP, hbp]
    simp only [Option.bind_some, hmost, if_true, List.nil_append]
    cases repP one n r <;> rfl
  clear hbp HO
  go_wp2_with fail
  rw [show decide (most < n) = false from decide_eq_false (by omega)]
  go_loopg [8, 18] n (fun g s8 s18 wr => ∃ (i : Nat) (ov : Value) (P : List ByteArray) (X : List ByteArray) (l : List UInt8), i ≤ n ∧ n - i ≤ g ∧ ov = s8 ∧ s18 = .int .u64 i ∧ X.length = i ∧ wr.ownsRow w.heap.size 9 1 ov i (strs P) ∧ Pair2 (SIn (fun j => w.heap.size ≤ j ∧ ov.ownBlock ≠ some j) wr) P X ∧ o = (repP one (n - i) l).map (fun q => (X ++ q.1, q.2)) ∧ Rd b wr l d ∧ Below b w wr ∧ Rf b w wr)
  case atStart => exact ⟨0, _, [], [], r, Nat.zero_le _, by omega, rfl, by go_num, rfl, World.ownsRow_nil _ _ _ _, Pair2.nil, HREP.out, HR1.out, hb1, HF1.out⟩
  case round =>
    clear HR1 HF1 hb1 HREP
    obtain ⟨i, ov, P, X, l, hi, hg, rfl, rfl, hXl, hown, hpr, hrep, hR, hbw, hf⟩ := hrel
    have hsz := hbw.size
    have HPR := toHid hpr
    have HREP := toHid hrep
    have HXL := toHid hXl
    clear hpr hrep hXl
    by_cases hlt2 : i < n
    · have HC := toHid (HHF.out wr l (by omega) hR)
      have HOW := toHid hown
      have HF := toHid hf
      have hil : (i : Int) < n := by omega
      have hiw : IntKind.u64.wrap ((i : Int) + 1) = (i : Int) + 1 := by rw [IntKind.wrap_u64]; omega
      have hni : n - i = (n - (i + 1)) + 1 := by omega
      clear hR hown hf
      go_wp2_with fail
      refine HC.out.mono ?_
      rintro e u1 ⟨⟨x, r2, v, ho1, rfl, ⟨p, rfl, hin⟩, hR1⟩ | ⟨ho1, rfl⟩, hb1, hf1⟩
      rotate_left
      · have HF1 := toHid (HF.out.trans hsz hf1)
        have HN : Hid (o = none) := by show _ = _; rw [HREP.out, hni, repP_stop ho1]; rfl
        go_wp2_with fail
        exact ⟨rfl, .inr ⟨HN.out, rfl⟩, hbw.trans hb1, HF1.out⟩
      have hs1 := hb1.size
      have HR1 := toHid hR1
      have HIN := toHid hin
      have HB1 := toHid (hbw.trans hb1)
      have HF1 := toHid (HF.out.trans hsz hf1)
      have HREP1 : Hid (o = (repP one (n - (i + 1)) r2).map fun q => ((X ++ [x]) ++ q.1, q.2)) := by
        show _ = _
        rw [HREP.out, hni]
        exact repP_go ho1 X
      have OWN2 := toHid (row_keep HOW.out (w' := u1) (fun g hg hl => hf1 g hl (by have := (HOW.out.lt g hg).1; omega)))
      have HPR1 : Hid (Pair2 (SIn (fun j => (w.heap.size ≤ j ∧ ov.ownBlock ≠ some j) ∧ j < wr.heap.size) u1) P X) := HPR.out.mono fun p x _ _ hp => hp.keeps ⟨hs1, fun j hj hl => ⟨⟨hj, hl⟩, hf1 j hl (by omega)⟩⟩
      have hlv : ∀ g, ov.ownBlock = some g → g < wr.heap.size := fun g hg => (HOW.out.lt g hg).2
      have HLV := toHid hlv
      have HBy : (i + 1) * 16 ≤ 140737488355328 := by omega
      have HBm : i + 1 ≤ maxLen := by unfold maxLen; omega
      clear hR1 hb1 hf1 HC HF hin hlv
      unfold vOfS
      go_wp2_with (at_builtin; refine wpList_append_lies _ rfl _ _ 35 rfl w.heap.size 9 i0 _ 1 16 Tryd.underlying35 HI0.out HIZ.out HIS.out HIB.out rfl (by omega) ov i (strs P) rfl (OWN2.out.alloc _) ⟨u1.heap.size, 0, none⟩ 1 1 [.string p] rfl rfl (World.news_of_block (cs := #[.string p]) (t := 9) (fr := (0, 0)) (alloc_new u1 _)) (by simp [Value.oneCell']) (by omega) HBm HBy (by simp; omega) (u1.heap.size + 1) (by simp) ?_)
      intro gg cap w5 hown5 hgrow hat5 hlt5
      have hb5 : Below w.heap.size u1 w5 := ((Below.refl _ _).alloc (by omega) _).grown hgrow (by simp; omega) (fun j hj => (OWN2.out.lt j hj).1)
      have hsame : ∀ j, j < u1.heap.size → ov.ownBlock ≠ some j → w5.heap[j]? = u1.heap[j]? := fun j hj hn => (hgrow.block j (by simp; omega) (fun e => hn e.symm)).trans (Below.heap_alloc u1 _ j hj)
      have hgg : ∀ j, j < u1.heap.size → ov.ownBlock ≠ some j → (Value.slice (some ⟨gg, 0, none⟩) (i + 1) cap).ownBlock ≠ some j := by
        intro j hj hn he
        have e1 : gg = j := by simpa [Value.ownBlock] using he
        rcases hat5 with h5 | h5
        · rw [e1] at h5; exact hn h5
        · omega
      have hsz5 : u1.heap.size ≤ w5.heap.size := Nat.le_trans (by simp) hgrow.size
      have HP5 : Hid (Pair2 (SIn (fun j => w.heap.size ≤ j ∧ (Value.slice (some ⟨gg, 0, none⟩) (i + 1) cap).ownBlock ≠ some j) w5) (P ++ [p]) (X ++ [x])) := by
        refine (HPR1.out.mono fun p x _ _ hp => hp.keeps ⟨hsz5, fun j hj hl => ⟨⟨hj.1.1, hgg j hl hj.1.2⟩, hsame j hl hj.1.2⟩⟩).snoc (HIN.out.keeps ⟨hsz5, fun j hj hl => ?_⟩)
        have hn : ov.ownBlock ≠ some j := fun e => by have := HLV.out j e; omega
        exact ⟨⟨by omega, hgg j hl hn⟩, hsame j hl hn⟩
      have HR5 := toHid (HR1.out.keep (hb5.mono hlt))
      have HB5 := toHid (HB1.out.trans (hb5.mono (Nat.le_of_lt hlt)))
      have HF5 : Hid (Rf b w w5) := fun j hj hn => (hb5.block j hj).trans (HF1.out j hj hn)
      have HO5 : Hid (w5.ownsRow w.heap.size 9 1 (.slice (some ⟨gg, 0, none⟩) (i + 1) cap) (i + 1) (strs (P ++ [p]))) := by
        rw [strs_snoc]
        exact hown5
      clear hown5 hgrow hat5 hlt5 hb5 hsame hgg hsz5
      go_wp2_with fail
      go_roundg (n - (i + 1))
      case measure => omega
      case rel => exact ⟨i + 1, .slice (some ⟨gg, 0, none⟩) (i + 1) cap, P ++ [p], X ++ [x], r2, by omega, by omega, rfl, by go_num, by rw [List.length_append, HXL.out]; rfl, HO5.out, HP5.out, HREP1.out, HR5.out, HB5.out, HF5.out⟩
    · have hil : ¬ (i : Int) < n := by omega
      obtain rfl : i = n := by omega
      have HOW := toHid hown
      have HR := toHid hR
      have HF := toHid hf
      have HFIN : Hid (o = some (X, l)) := by
        show _ = _
        rw [HREP.out, Nat.sub_self]
        simp [repP]
      clear hown hR hf
      go_wp2_with fail
      go_ret
      exact ⟨.inl ⟨X, l, _, HFIN.out, rfl, ⟨P, by rw [HXL.out]; exact HOW.out, HPR.out⟩, HR.out⟩, hbw, HF.out⟩

theorem infoGP0 : (Tryd.prog.info? 63).map (fun i => (i.zero, i.size, i.bytes)) = some (some (.agg #[.string ⟨#[]⟩, .int .i64 0, .int .i64 0, .string ⟨#[]⟩, .slice none 0 0]), 5, 72) := by kernel_rfl
theorem infoGP : ∃ i, Tryd.prog.info? 63 = some i ∧ i.zero = some (.agg #[.string ⟨#[]⟩, .int .i64 0, .int .i64 0, .string ⟨#[]⟩, .slice none 0 0]) ∧ i.size = 5 ∧ i.bytes = 72 := by
  obtain ⟨i, h, e⟩ := Option.map_eq_some_iff.1 infoGP0
  simp only [Prod.mk.injEq] at e
  exact ⟨i, h, e⟩

def vOfP : Pr → Value := (fun p : Pr => Value.agg #[.string p.name, .int .i64 p.k, .int .i64 p.n, .string p.s, .slice p.a p.l p.c])
def RLP := RL (β := AP) 63 5 rowP PrIn

set_option maxHeartbeats 4000000 in
set_option maxRecDepth 100000 in
theorem listP_gen (b : Nat) (w : World) (bs : List UInt8) (d : Int) (most : Nat) (hm : most ≤ 1000) (one : List UInt8 → Option (AP × List UInt8)) (h : Rd b w bs d)
    (HF : ∀ (W : World) (l : List UInt8), b < W.heap.size → Rd b W l d → Calls Tryd.prog 56 #[.pointer (some ⟨b, 0, none⟩)] W fun e w' => Rd1 b W w' d (one l) (R1 vOfP PrIn) e) :
    Calls Tryd.prog 55 #[.pointer (some ⟨b, 0, none⟩), .int .i64 most, .func (.func 56) #[.pointer (some ⟨b, 0, none⟩)] #[]] w fun e w' => Rd1 b w w' d (listP most one bs) RLP e := by
  have hlt := h.lt
  have HB := toHid (bits_gen b w bs d h)
  have HHF := toHid HF
  obtain ⟨i0, hi0, hiz, his, hib⟩ := infoGP
  have HI0 := toHid hi0
  have HIZ := toHid hiz
  have HIS := toHid his
  have HIB := toHid hib
  obtain ⟨o, ho⟩ : ∃ o, o = listP most one bs := ⟨_, rfl⟩
  rw [← ho]
  have HO := toHid ho
  clear h hi0 hiz his hib HF ho
  go_enter Tryd.func55, Tryd.ntmps55
  go_wp2_with fail
  refine HB.out.mono ?_
  rintro e w1 ⟨⟨n, r, hbp, hn, rfl, hR1⟩ | ⟨hbp, rfl⟩, hb1, hf1⟩
  rotate_left
  · go_wp2_with fail
    exact ⟨rfl, .inr ⟨by rw [HO.out, listP, hbp]; rfl, rfl⟩, hb1, hf1⟩
  have HF1 := toHid hf1
  have HR1 := toHid hR1
  clear hR1 hf1 HB
  by_cases hmost : n ≤ most
  rotate_left
  · have hle : (most : Int) < n := by omega
    have HN : Hid (o = none) := by show _ = _; rw [HO.out, listP, hbp]; simp [hmost]
    go_wp2_with fail
    exact ⟨rfl, .inr ⟨HN.out, rfl⟩, hb1, HF1.out⟩
  have hle : ¬ (most : Int) < n := by omega
  have HREP : Hid (o = (repP one n r).map fun q => ([] ++ q.1, q.2)) := by
    show _ = _
    rw [HO.out, listP, hbp]
    simp only [Option.bind_some, hmost, if_true, List.nil_append]
    cases repP one n r <;> rfl
  clear hbp HO
  go_wp2_with fail
  rw [show decide (most < n) = false from decide_eq_false (by omega)]
  go_loopg [8, 18] n (fun g s8 s18 wr => ∃ (i : Nat) (ov : Value) (P : List Pr) (X : List AP) (l : List UInt8), i ≤ n ∧ n - i ≤ g ∧ ov = s8 ∧ s18 = .int .u64 i ∧ X.length = i ∧ wr.ownsRow w.heap.size 63 5 ov i (rowP P) ∧ Pair2 (PrIn (fun j => w.heap.size ≤ j ∧ ov.ownBlock ≠ some j) wr) P X ∧ o = (repP one (n - i) l).map (fun q => (X ++ q.1, q.2)) ∧ Rd b wr l d ∧ Below b w wr ∧ Rf b w wr)
  case atStart => exact ⟨0, _, [], [], r, Nat.zero_le _, by omega, rfl, by go_num, rfl, World.ownsRow_nil _ _ _ _, Pair2.nil, HREP.out, HR1.out, hb1, HF1.out⟩
  case round =>
    clear HR1 HF1 hb1 HREP
    obtain ⟨i, ov, P, X, l, hi, hg, rfl, rfl, hXl, hown, hpr, hrep, hR, hbw, hf⟩ := hrel
    have hsz := hbw.size
    have HPR := toHid hpr
    have HREP := toHid hrep
    have HXL := toHid hXl
    clear hpr hrep hXl
    by_cases hlt2 : i < n
    · have HC := toHid (HHF.out wr l (by omega) hR)
      have HOW := toHid hown
      have HF := toHid hf
      have hil : (i : Int) < n := by omega
      have hiw : IntKind.u64.wrap ((i : Int) + 1) = (i : Int) + 1 := by rw [IntKind.wrap_u64]; omega
      have hni : n - i = (n - (i + 1)) + 1 := by omega
      clear hR hown hf
      go_wp2_with fail
      refine HC.out.mono ?_
      rintro e u1 ⟨⟨x, r2, v, ho1, rfl, ⟨p, rfl, hin⟩, hR1⟩ | ⟨ho1, rfl⟩, hb1, hf1⟩
      rotate_left
      · have HF1 := toHid (HF.out.trans hsz hf1)
        have HN : Hid (o = none) := by show _ = _; rw [HREP.out, hni, repP_stop ho1]; rfl
        go_wp2_with fail
        exact ⟨rfl, .inr ⟨HN.out, rfl⟩, hbw.trans hb1, HF1.out⟩
      have hs1 := hb1.size
      have HR1 := toHid hR1
      have HIN := toHid hin
      have HB1 := toHid (hbw.trans hb1)
      have HF1 := toHid (HF.out.trans hsz hf1)
      have HREP1 : Hid (o = (repP one (n - (i + 1)) r2).map fun q => ((X ++ [x]) ++ q.1, q.2)) := by
        show _ = _
        rw [HREP.out, hni]
        exact repP_go ho1 X
      have OWN2 := toHid (row_keep HOW.out (w' := u1) (fun g hg hl => hf1 g hl (by have := (HOW.out.lt g hg).1; omega)))
      have HPR1 : Hid (Pair2 (PrIn (fun j => (w.heap.size ≤ j ∧ ov.ownBlock ≠ some j) ∧ j < wr.heap.size) u1) P X) := HPR.out.mono fun p x _ _ hp => hp.keeps ⟨hs1, fun j hj hl => ⟨⟨hj, hl⟩, hf1 j hl (by omega)⟩⟩
      have hlv : ∀ g, ov.ownBlock = some g → g < wr.heap.size := fun g hg => (HOW.out.lt g hg).2
      have HLV := toHid hlv
      have HBy : (i + 1) * 72 ≤ 140737488355328 := by omega
      have HBm : i + 1 ≤ maxLen := by unfold maxLen; omega
      clear hR1 hb1 hf1 HC HF hin hlv
      unfold vOfP
      go_wp2_with (at_builtin; refine wpList_append_lies _ rfl _ _ 36 rfl w.heap.size 63 i0 _ 5 72 Tryd.underlying36 HI0.out HIZ.out HIS.out HIB.out rfl (by omega) ov i (rowP P) rfl (OWN2.out.alloc _) ⟨u1.heap.size, 0, none⟩ 1 1 [.string p.name, .int .i64 p.k, .int .i64 p.n, .string p.s, .slice p.a p.l p.c] rfl rfl (World.news_of_block (cs := #[.string p.name, .int .i64 p.k, .int .i64 p.n, .string p.s, .slice p.a p.l p.c]) (t := 63) (fr := (0, 0)) (alloc_new u1 _)) (by simp [Value.oneCell']) (by omega) HBm HBy (by simp; omega) (u1.heap.size + 1) (by simp) ?_)
      intro gg cap w5 hown5 hgrow hat5 hlt5
      have hb5 : Below w.heap.size u1 w5 := ((Below.refl _ _).alloc (by omega) _).grown hgrow (by simp; omega) (fun j hj => (OWN2.out.lt j hj).1)
      have hsame : ∀ j, j < u1.heap.size → ov.ownBlock ≠ some j → w5.heap[j]? = u1.heap[j]? := fun j hj hn => (hgrow.block j (by simp; omega) (fun e => hn e.symm)).trans (Below.heap_alloc u1 _ j hj)
      have hgg : ∀ j, j < u1.heap.size → ov.ownBlock ≠ some j → (Value.slice (some ⟨gg, 0, none⟩) (i + 1) cap).ownBlock ≠ some j := by
        intro j hj hn he
        have e1 : gg = j := by simpa [Value.ownBlock] using he
        rcases hat5 with h5 | h5
        · rw [e1] at h5; exact hn h5
        · omega
      have hsz5 : u1.heap.size ≤ w5.heap.size := Nat.le_trans (by simp) hgrow.size
      have HP5 : Hid (Pair2 (PrIn (fun j => w.heap.size ≤ j ∧ (Value.slice (some ⟨gg, 0, none⟩) (i + 1) cap).ownBlock ≠ some j) w5) (P ++ [p]) (X ++ [x])) := by
        refine (HPR1.out.mono fun p x _ _ hp => hp.keeps ⟨hsz5, fun j hj hl => ⟨⟨hj.1.1, hgg j hl hj.1.2⟩, hsame j hl hj.1.2⟩⟩).snoc (HIN.out.keeps ⟨hsz5, fun j hj hl => ?_⟩)
        have hn : ov.ownBlock ≠ some j := fun e => by have := HLV.out j e; omega
        exact ⟨⟨by omega, hgg j hl hn⟩, hsame j hl hn⟩
      have HR5 := toHid (HR1.out.keep (hb5.mono hlt))
      have HB5 := toHid (HB1.out.trans (hb5.mono (Nat.le_of_lt hlt)))
      have HF5 : Hid (Rf b w w5) := fun j hj hn => (hb5.block j hj).trans (HF1.out j hj hn)
      have HO5 : Hid (w5.ownsRow w.heap.size 63 5 (.slice (some ⟨gg, 0, none⟩) (i + 1) cap) (i + 1) (rowP (P ++ [p]))) := by
        rw [rowP_snoc]
        exact hown5
      clear hown5 hgrow hat5 hlt5 hb5 hsame hgg hsz5
      go_wp2_with fail
      go_roundg (n - (i + 1))
      case measure => omega
      case rel => exact ⟨i + 1, .slice (some ⟨gg, 0, none⟩) (i + 1) cap, P ++ [p], X ++ [x], r2, by omega, by omega, rfl, by go_num, by rw [List.length_append, HXL.out]; rfl, HO5.out, HP5.out, HREP1.out, HR5.out, HB5.out, HF5.out⟩
    · have hil : ¬ (i : Int) < n := by omega
      obtain rfl : i = n := by omega
      have HOW := toHid hown
      have HR := toHid hR
      have HF := toHid hf
      have HFIN : Hid (o = some (X, l)) := by
        show _ = _
        rw [HREP.out, Nat.sub_self]
        simp [repP]
      clear hown hR hf
      go_wp2_with fail
      go_ret
      exact ⟨.inl ⟨X, l, _, HFIN.out, rfl, ⟨P, by rw [HXL.out]; exact HOW.out, HPR.out⟩, HR.out⟩, hbw, HF.out⟩

set_option maxHeartbeats 4000000 in
set_option maxRecDepth 100000 in
theorem rvalue_int (b : Nat) (w : World) (n : Int) (r : List UInt8) (d : Int) (h0 : 0 ≤ n) (h1 : n ≤ 1099511627776) (h : Rd b w (vB (.node 2 n ⟨#[]⟩ []) ++ r) d) :
    Calls Tryd.prog 53 #[.pointer (some ⟨b, 0, none⟩)] w fun e w' => e = .returned (.agg #[.int .i64 2, .int .i64 n, .string ⟨#[]⟩, .slice none 0 0]) ∧ Rd b w' r d ∧ Below b w w' ∧ Rf b w w' := by
  have hlt := h.lt
  have hne : w.heap.size ≠ b := by omega
  have hv : vB (.node 2 n ⟨#[]⟩ []) ++ r = [2] ++ (numB n ++ r) := by rw [vB]; rfl
  rw [hv] at h
  have kA : Below w.heap.size w (w.alloc (.cells #[.int .i64 0, .int .i64 0, .string ⟨#[]⟩, .slice none 0 0] 34)) := (Below.refl _ _).alloc (Nat.le_refl _) _
  have HC := toHid (cut_any b _ [2] (numB n ++ r) d (h.below kA))
  have HA := toHid (alloc_new w (.cells #[.int .i64 0, .int .i64 0, .string ⟨#[]⟩, .slice none 0 0] 34))
  have hzA : (w.alloc (.cells #[.int .i64 0, .int .i64 0, .string ⟨#[]⟩, .slice none 0 0] 34)).heap.size = w.heap.size + 1 := by simp
  have HZA := toHid hzA
  clear h hv hzA
  go_enter Tryd.func53, Tryd.ntmps53
  go_upto_region 1 with fail
  generalize w.alloc (.cells #[.int .i64 0, .int .i64 0, .string ⟨#[]⟩, .slice none 0 0] 34) = WA at kA HC HA HZA ⊢
  go_wp2_with fail
  refine HC.out.mono ?_
  rintro e u1 ⟨⟨g0, off, c, rfl, hc, hgb, hbt, hR1, hs1⟩, hb1, hf1⟩
  have y0 := hbt 0 2 rfl
  rw [Nat.add_zero] at y0
  have hg1 : g0 < u1.heap.size := by have := HZA.out; omega
  have HA1 := toHid ((hf1 w.heap.size (by rw [HZA.out]; omega) hne).trans HA.out)
  have hz1 : w.heap.size < u1.heap.size := (Array.getElem?_eq_some_iff.1 HA1.out).1
  have HB1 := toHid ((kA.mono (Nat.le_of_lt hlt)).trans hb1)
  have HF1 := toHid ((Rf.of (b := b) kA).trans kA.size hf1)
  have HR1 := toHid hR1
  clear hbt hR1 hb1 hf1 HC hs1
  go_upto_region 5 with fail
  have hb1s : b < u1.heap.size := by omega
  have kB : Below u1.heap.size u1 (u1.alloc (.cells #[.int .i64 2, .int .i64 0, .string ⟨#[]⟩, .slice none 0 0] 34)) := (Below.refl _ _).alloc (Nat.le_refl _) _
  have HN := toHid (rnumber_any b _ n r d h0 h1 (HR1.out.below kB))
  have HV := toHid (alloc_new u1 (.cells #[.int .i64 2, .int .i64 0, .string ⟨#[]⟩, .slice none 0 0] 34))
  have HA2 := toHid ((kB.block w.heap.size hz1).trans HA1.out)
  have HB2 := toHid (HB1.out.trans (kB.mono (Nat.le_of_lt hb1s)))
  have HF2 := toHid (HF1.out.trans (by omega) (Rf.of (b := b) kB))
  have hzB : (u1.alloc (.cells #[.int .i64 2, .int .i64 0, .string ⟨#[]⟩, .slice none 0 0] 34)).heap.size = u1.heap.size + 1 := by simp
  have HZB := toHid hzB
  clear hzB
  generalize u1.alloc (.cells #[.int .i64 2, .int .i64 0, .string ⟨#[]⟩, .slice none 0 0] 34) = WB at kB HN HV HA2 HB2 HF2 HZB ⊢
  go_wp2_with fail
  refine HN.out.mono ?_
  rintro e u2 ⟨rfl, hR2, hb2, hf2⟩
  have HV3 := toHid ((hf2 u1.heap.size (by rw [HZB.out]; omega) (by omega)).trans HV.out)
  have HA3 := toHid ((hf2 w.heap.size (by rw [HZB.out]; omega) hne).trans HA2.out)
  have HB3 := toHid (HB2.out.trans hb2)
  have HF3 := toHid (HF2.out.trans (by rw [HZB.out]; omega) hf2)
  have HR3 := toHid hR2
  have z1 : u1.heap.size < u2.heap.size := (Array.getElem?_eq_some_iff.1 HV3.out).1
  have z2 : w.heap.size < u2.heap.size := by omega
  have v0 := cell_of HV3.out 0
  have v1 := cell_of HV3.out 1
  have v2 := cell_of HV3.out 2
  have v3 := cell_of HV3.out 3
  have q1 := free_of HV3.out 1
  simp at v0 v1 v2 v3
  have a0 := cell_of HA3.out 0
  have a1 := cell_of HA3.out 1
  have a2 := cell_of HA3.out 2
  have a3 := cell_of HA3.out 3
  have f0 := free_of HA3.out 0
  have f1 := free_of HA3.out 1
  have f2 := free_of HA3.out 2
  have f3 := free_of HA3.out 3
  simp at a0 a1 a2 a3
  have hnn : u1.heap.size ≠ w.heap.size := by omega
  clear hR2 hb2 hf2 HN
  go_wp2_with fail
  obtain ⟨X, hX⟩ : ∃ X, X = u2.setCell ⟨u1.heap.size, 1, none⟩ (.int .i64 n) := ⟨_, rfl⟩
  rw [← hX]
  have hXo : ∀ j, j ≠ u1.heap.size → X.heap[j]? = u2.heap[j]? := fun j hj => by
    rw [hX]
    simp only [World.setCell, Array.getElem?_modify]
    rw [if_neg (by show ¬ u1.heap.size = j; omega)]
  have hXb : Below u1.heap.size u2 X := by rw [hX]; exact (Below.refl _ _).setCell (p := ⟨u1.heap.size, 1, none⟩) (Nat.le_refl _) _
  have eP : (((X.setCell ⟨w.heap.size, 0, none⟩ (.int .i64 2)).setCell ⟨w.heap.size, 1, none⟩ (.int .i64 n)).setCell ⟨w.heap.size, 2, none⟩ (.string ⟨#[]⟩)).setCell ⟨w.heap.size, 3, none⟩ (.slice none 0 0) = putL X w.heap.size 0 [.int .i64 2, .int .i64 n, .string ⟨#[]⟩, .slice none 0 0] := rfl
  rw [eP]
  have E := box4 ((hXo w.heap.size (by omega)).trans HA3.out) rfl (.int .i64 2) (.int .i64 n) (.string ⟨#[]⟩) (.slice none 0 0)
  have hbY : Below w.heap.size u2 (putL X w.heap.size 0 [.int .i64 2, .int .i64 n, .string ⟨#[]⟩, .slice none 0 0]) := (hXb.mono (Nat.le_of_lt hz1)).trans (putL_bel w.heap.size _ _ X)
  generalize putL X w.heap.size 0 [.int .i64 2, .int .i64 n, .string ⟨#[]⟩, .slice none 0 0] = Y at E hbY ⊢
  have t0 := cell_of E 0
  have t1 := cell_of E 1
  have t2 := cell_of E 2
  have t3 := cell_of E 3
  simp at t0 t1 t2 t3
  exact bodyPost_ret (v := .agg #[.int .i64 2, .int .i64 n, .string ⟨#[]⟩, .slice none 0 0]) (by simp [results, Tryd.results53, go_sem, t0, t1, t2, t3]) rfl ⟨rfl, HR3.out.keep (hbY.mono hlt), HB3.out.trans (hbY.mono (Nat.le_of_lt hlt)), fun j hj hn => (hbY.block j hj).trans (HF3.out j hj hn)⟩
end Go.Proofs.YtldpionmmplncaaDoor
