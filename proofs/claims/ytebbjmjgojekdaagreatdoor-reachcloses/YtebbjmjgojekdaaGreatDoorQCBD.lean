/-
  What is proved here: what the texts HPutE, KWorkL, KWorkP, KWorkE, HDelta prove, in one text.
-/
import Derived.Test.YtebbjmjgojekdaaGreatDoorQCBB
import Derived.Test.YtebbjmjgojekdaaGreatDoorQCBC
import Derived.Test.YtebbjmjgojekdaaGreatDoorQCAV
import Derived.Deep.RegionHeld3
namespace Go.Proofs.YtebbjmjgojekdaaGreatDoor
open Go.RowKit
set_option linter.unusedVariables false

theorem WorkAt.putE {O : Nat → Prop} {w u w5 : World} {b : Nat} {S : WS} {na : Option Addr} {nc : Nat} {ea : Option Addr} {ec : Nat} {ma : Option Addr} {mc : Nat} {PN PE PM : Nat → Prop} (h : WorkAt O w b S na nc ea ec ma mc PN PE PM) (k : Below w.heap.size w u) {y : Ed} {X : AE} (hy : EdOwn (fun i => w.heap.size ≤ i) u y X) (o : Obj)
    {L : List Ed} (hrow : w.ownsRow 0 47 5 (.slice ea S.E.length ec) S.E.length (rowX L)) (hpair : PairD (fun B => EdOwn B w) (fun i => PE i ∧ (Value.slice ea S.E.length ec).ownBlock ≠ some i) L S.E) {gg cap : Nat}
    (hgrow : (u.alloc o).grownBy w5 (Value.slice ea S.E.length ec).ownBlock) (hown : w5.ownsRow 0 47 5 (.slice (some ⟨gg, 0, none⟩) (S.E.length + 1) cap) (S.E.length + 1) (rowX L ++ y.cells))
    (hat : (Value.slice ea S.E.length ec).ownBlock = some gg ∨ gg = u.heap.size + 1) (hlt : gg < w5.heap.size) :
    StepEnd O w (w5.setCell ⟨b, 1, none⟩ (.slice (some ⟨gg, 0, none⟩) (S.E.length + 1) cap)) b ⟨S.N, S.E ++ [X], S.next, S.made⟩ := by
  obtain ⟨Y, hY⟩ : ∃ Y, Y = w5.setCell ⟨b, 1, none⟩ (.slice (some ⟨gg, 0, none⟩) (S.E.length + 1) cap) := ⟨_, rfl⟩
  rw [← hY]
  have hbw : b < w.heap.size := h.lt b h.ob
  have hwu := k.size
  have hu5 : u.heap.size + 1 ≤ w5.heap.size := by have := hgrow.size; simpa using this
  have hob : ∀ g, (Value.slice ea S.E.length ec).ownBlock = some g → PE g := h.es.1
  have hol : ∀ g, (Value.slice ea S.E.length ec).ownBlock = some g → g < w.heap.size := fun g hg => row_lt hrow hg
  have h5 : ∀ j, j < u.heap.size → (Value.slice ea S.E.length ec).ownBlock ≠ some j → w5.heap[j]? = u.heap[j]? := fun j hj hn => (hgrow.block j (by simp; omega) (fun e => hn e.symm)).trans (Below.heap_alloc u o j hj)
  have hb5 : w5.heap[b]? = some (.cells #[.slice na S.N.length nc, .slice ea S.E.length ec, .int .i64 S.next, .slice ma S.made.length mc] 95 (0, 0)) := by
    rw [h5 b (by omega) (fun e => absurd rfl (h.pe b (hob b e)).2.1), k.block b hbw]
    exact h.blk
  have hYb : Y.heap[b]? = some (.cells #[.slice na S.N.length nc, .slice (some ⟨gg, 0, none⟩) (S.E.length + 1) cap, .int .i64 S.next, .slice ma S.made.length mc] 95 (0, 0)) := by rw [hY, set_here hb5]; rfl
  have hYo : ∀ j, j ≠ b → Y.heap[j]? = w5.heap[j]? := fun j hj => by rw [hY]; exact Below.heap_setCell w5 ⟨b, 1, none⟩ _ j hj
  have hYs : Y.heap.size = w5.heap.size := by rw [hY]; simp [World.setCell]
  have hYf : Y.os = w5.os ∧ Y.tape = w5.tape ∧ Y.output = w5.output := by rw [hY]; exact ⟨rfl, rfl, rfl⟩
  have old : ∀ j, j < w.heap.size → j ≠ b → (Value.slice ea S.E.length ec).ownBlock ≠ some j → Y.heap[j]? = w.heap[j]? := fun j h1 h2 h3 => (hYo j h2).trans ((h5 j (by omega) h3).trans (k.block j h1))
  have ggN : ∀ j, j < u.heap.size → (Value.slice ea S.E.length ec).ownBlock ≠ some j → j ≠ gg := fun j h1 h2 e => by
    subst e
    rcases hat with h3 | h3
    · exact h2 h3
    · omega
  have nv : (Value.slice (some ⟨gg, 0, none⟩) (S.E.length + 1) cap).ownBlock = some gg := rfl
  have e1 : (⟨S.N, S.E ++ [X], S.next, S.made⟩ : WS).E.length = S.E.length + 1 := by simp
  have ggB : gg ≠ b := by
    rcases hat with h3 | h3
    · exact (h.pe gg (hob gg h3)).2.1
    · omega
  have ggO : Now O w Y gg := by
    rcases hat with h3 | h3
    · exact .inl (h.pe gg (hob gg h3)).1
    · exact .inr ⟨by omega, by rw [hYs]; exact hlt⟩
  have lts : ∀ i, Now O w Y i → i < Y.heap.size := fun i hi => by
    rcases hi with hi | hi
    · have := h.lt i hi; omega
    · exact hi.2
  have hns : EsOwn (fun i => (PE i ∧ (Value.slice ea S.E.length ec).ownBlock ≠ some i) ∨ i = gg ∨ (w.heap.size ≤ i ∧ i < u.heap.size)) Y (S.E ++ [X]) (.slice (some ⟨gg, 0, none⟩) (S.E.length + 1) cap) := by
    refine ⟨fun g hg => .inr (.inl (by rw [nv] at hg; exact (Option.some.inj hg).symm)), L ++ [y], ?_, ?_⟩
    · rw [rowX_snoc, show (L ++ [y]).length = S.E.length + 1 by simp [hpair.1]]
      exact row_keep hown fun g hg _ => by
        rw [nv] at hg
        obtain rfl := Option.some.inj hg
        exact hYo gg ggB
    · refine (hpair.carry (R' := fun B => EdOwn B Y) (A' := fun i => (((PE i ∧ (Value.slice ea S.E.length ec).ownBlock ≠ some i) ∨ i = gg ∨ (w.heap.size ≤ i ∧ i < u.heap.size)) ∧ (Value.slice (some ⟨gg, 0, none⟩) (S.E.length + 1) cap).ownBlock ≠ some i) ∧ i < w.heap.size) (fun i => i < w.heap.size) (fun B p x hB hp => hp.kept ⟨by omega, fun j hj hjl => ⟨⟨hj, hjl⟩, old j hjl (h.pe j (hB j hj).1).2.1 (hB j hj).2⟩⟩) (fun b hb hz => ⟨⟨.inl hb, ?_⟩, hz⟩)).snoc (B := fun i => (((PE i ∧ (Value.slice ea S.E.length ec).ownBlock ≠ some i) ∨ i = gg ∨ (w.heap.size ≤ i ∧ i < u.heap.size)) ∧ (Value.slice (some ⟨gg, 0, none⟩) (S.E.length + 1) cap).ownBlock ≠ some i) ∧ w.heap.size ≤ i) (hy.kept ⟨by omega, fun j hj hjl => ⟨⟨⟨.inr (.inr ⟨hj, hjl⟩), ?_⟩, hj⟩, ?_⟩⟩) (fun b hb => hb.1) (fun b hb => hb.1) (fun b hb hb' => by have h1 := hb.2; have h2 := hb'.2; omega)
      · rw [nv]
        exact fun e => ggN b (by omega) hb.2 (Option.some.inj e).symm
      · rw [nv]
        exact fun e => ggN j hjl (fun e => by have := hol j e; have : w.heap.size ≤ j := hj; omega) (Option.some.inj e).symm
      · have hj' : w.heap.size ≤ j := hj
        exact (hYo j (by omega)).trans (h5 j hjl (fun e => by have := hol j e; omega))
  have own : ∀ i, (PE i ∧ (Value.slice ea S.E.length ec).ownBlock ≠ some i) ∨ i = gg ∨ (w.heap.size ≤ i ∧ i < u.heap.size) → Now O w Y i ∧ i ≠ b := fun i hi => by
    rcases hi with hi | rfl | hi
    · exact ⟨.inl (h.pe i hi.1).1, (h.pe i hi.1).2.1⟩
    · exact ⟨ggO, ggB⟩
    · exact ⟨.inr ⟨hi.1, by omega⟩, by omega⟩
  have apart : ∀ i, O i → ¬ PE i → ¬ ((PE i ∧ (Value.slice ea S.E.length ec).ownBlock ≠ some i) ∨ i = gg ∨ (w.heap.size ≤ i ∧ i < u.heap.size)) := fun i hi hn q => by
    have hil := h.lt i hi
    rcases q with q | rfl | q
    · exact hn q.1
    · rcases hat with h3 | h3
      · exact hn (hob _ h3)
      · omega
    · omega
  have rest : Rest O w Y := ⟨hYf.1.trans (hgrow.os.trans k.os), hYf.2.1.trans (hgrow.tape.trans k.tape), hYf.2.2.trans (hgrow.output.trans k.output), by omega, fun i hi hn => old i hi (fun e => hn (e ▸ h.ob)) (fun e => hn (h.pe i (hob i e)).1)⟩
  refine ⟨⟨na, nc, some ⟨gg, 0, none⟩, cap, ma, mc, PN, _, PM, ?_, .inl h.ob, lts, fun i hi => ⟨.inl (h.pn i hi).1, (h.pn i hi).2⟩, fun i hi => ⟨(own i hi).1, (own i hi).2, fun q => ?_⟩, fun i hi => ⟨.inl (h.pm i hi).1, (h.pm i hi).2.1, (h.pm i hi).2.2.1, apart i (h.pm i hi).1 (h.pm i hi).2.2.2⟩, ?_, ?_, h.ms, ?_⟩, rest⟩
  · rw [hYb, e1]
  · exact apart i (h.pn i q).1 (fun r => (h.pe i r).2.2 q) hi
  · exact h.ns.kept ⟨by omega, fun i hi hl => ⟨hi, old i hl (h.pn i hi).2 (fun e => (h.pe i (hob i e)).2.2 hi)⟩⟩
  · rw [e1]
    exact hns
  · exact row_keep h.mr fun g hg hl => old g hl (h.pm g (h.ms g hg)).2.1 (fun e => (h.pm g (h.ms g hg)).2.2.2 (hob g e))

/-- A row of elements of three cells, one cell of one of them set. -/
theorem set_mid3 {cur : Array Value} {o : Nat} {a b c v : Value} (ha : cur[o]? = some a) (hc : cur[o + 2]? = some c) : setL cur o [a, v, c] = cur.setIfInBounds (o + 1) v := by
  simp only [setL]
  have e1 : cur.setIfInBounds o a = cur := set_same ha
  rw [e1]
  refine set_same ?_
  rw [Array.getElem?_setIfInBounds, if_neg (by omega)]
  exact hc

theorem set_last3 {cur : Array Value} {o : Nat} {a b v : Value} (ha : cur[o]? = some a) (hb : cur[o + 1]? = some b) : setL cur o [a, b, v] = cur.setIfInBounds (o + 2) v := by
  simp only [setL]
  have e1 : cur.setIfInBounds o a = cur := set_same ha
  rw [e1]
  have e2 : cur.setIfInBounds (o + 1) b = cur := set_same hb
  rw [e2]

theorem set_last5 {cur : Array Value} {o : Nat} {a b c d v : Value} (ha : cur[o]? = some a) (hb : cur[o + 1]? = some b) (hc : cur[o + 2]? = some c) (hd : cur[o + 3]? = some d) : setL cur o [a, b, c, d, v] = cur.setIfInBounds (o + 4) v := by
  simp only [setL]
  have e1 : cur.setIfInBounds o a = cur := set_same ha
  rw [e1]
  have e2 : cur.setIfInBounds (o + 1) b = cur := set_same hb
  rw [e2]
  have e3 : cur.setIfInBounds (o + 1 + 1) c = cur := set_same hc
  rw [e3]
  have e4 : cur.setIfInBounds (o + 1 + 1 + 1) d = cur := set_same hd
  rw [e4]

theorem row_cells {α : Type} (f : α → List Value) (k : Nat) (hk : ∀ x, (f x).length = k) {w : World} {e : TypeId} {g n cap : Nat} {L : List α} (h : w.ownsRow 0 e k (.slice (some ⟨g, 0, none⟩) n cap) n ((L.map f).flatten)) {cur : Array Value} (hc : w.heap[g]? = some (.cells cur e (0, 0))) {i : Nat} {x : α} (hx : L[i]? = some x) : ∀ j u, (f x)[j]? = some u → cur[i * k + j]? = some u := by
  intro j u hu
  rcases h.2 with ⟨h0, _⟩ | ⟨g', cap', cur', h0, h1, h2, h3, h4, h5, h6⟩
  · cases h0
  · injection h0 with e1 _ e3
    injection e1 with e1
    injection e1 with e1
    subst e1
    rw [hc] at h2
    injection h2 with h2
    injection h2 with h2
    subst h2
    have := flat_get f k hk L i j x u hx hu
    rw [← h6, List.getElem?_take] at this
    split at this
    · simpa using this
    · cases this

theorem WorkAt.setL {O : Nat → Prop} {w w1 : World} {b : Nat} {S : WS} {na : Option Addr} {nc : Nat} {ea : Option Addr} {ec : Nat} {ma : Option Addr} {mc : Nat} {PN PE PM : Nat → Prop} (h : WorkAt O w b S na nc ea ec ma mc PN PE PM) {g i : Nat} (hg : na = some ⟨g, 0, none⟩)
    {L : List Nd} (hrow : w.ownsRow 0 72 3 (.slice na S.N.length nc) L.length (rowN L)) (hpair : PairD (fun B => NdOwn B w) (fun j => PN j ∧ (Value.slice na S.N.length nc).ownBlock ≠ some j) L S.N) {y : Nd} {X : AN} (hy : L[i]? = some y) (hX : S.N[i]? = some X)
    {cur : Array Value} (hcur : w.heap[g]? = some (.cells cur 72 (0, 0))) {a' : Option Addr} {c' : Nat} {labs : List ByteArray} (hsz : ∀ s ∈ labs, s.size ≤ 9223372036854775807)
    (hb1 : w1.heap[g]? = some (.cells (cur.setIfInBounds (i * 3 + 1) (.slice a' labs.length c')) 72 (0, 0))) (hown : w1.ownsRow 0 9 1 (.slice a' labs.length c') labs.length (strs labs))
    (hat : ∀ j, (Value.slice a' labs.length c').ownBlock = some j → (Value.slice y.la y.ll y.lc).ownBlock = some j ∨ w.heap.size ≤ j) (hr : Rest (fun j => j = g ∨ (Value.slice y.la y.ll y.lc).ownBlock = some j) w w1) :
    StepEnd O w w1 b ⟨S.N.set i ⟨X.id, labs, X.props⟩, S.E, S.next, S.made⟩ := by
  subst hg
  have hgP : PN g := h.ns.1 g rfl
  have hgb : g ≠ b := (h.pn g hgP).2
  have hbw : b < w.heap.size := h.lt b h.ob
  have hws := hr.size
  have hyP := (hpair.pair NdOwn.wide).2 i y X hy hX
  have hlab : ∀ j, (Value.slice y.la y.ll y.lc).ownBlock = some j → PN j ∧ (Value.slice (some ⟨g, 0, none⟩) S.N.length nc).ownBlock ≠ some j := fun j hj => hyP.inL j hj
  have hsame : ∀ j, j < w.heap.size → j ≠ g → (Value.slice y.la y.ll y.lc).ownBlock ≠ some j → w1.heap[j]? = w.heap[j]? := fun j h1 h2 h3 => hr.block j h1 (fun q => q.elim h2 h3)
  have far : ∀ j, j < w.heap.size → ¬ PN j → w1.heap[j]? = w.heap[j]? := fun j h1 h2 => hsame j h1 (fun e => h2 (e ▸ hgP)) (fun e => h2 (hlab j e).1)
  have hlen : (S.N.set i ⟨X.id, labs, X.props⟩).length = S.N.length := by simp
  have lts : ∀ j, Now O w w1 j → j < w1.heap.size := fun j hj => by
    rcases hj with hj | hj
    · have := h.lt j hj; omega
    · exact hj.2
  have hLl : L.length = S.N.length := hpair.1
  obtain ⟨y', hy'⟩ : ∃ z : Nd, z = ⟨y.id, labs, a', labs.length, c', y.props, y.pa, y.pl, y.pc⟩ := ⟨_, rfl⟩
  have hns : NsOwn (fun j => PN j ∨ (w.heap.size ≤ j ∧ j < w1.heap.size)) w1 (S.N.set i ⟨X.id, labs, X.props⟩) (.slice (some ⟨g, 0, none⟩) S.N.length nc) := by
    refine ⟨fun j hj => ?_, L.set i y', ?_, ?_⟩
    · have : g = j := Option.some.inj hj
      exact .inl (this ▸ hgP)
    · rw [List.length_set]
      rw [hLl] at hrow ⊢
      have hrow' : w.ownsRow 0 72 3 (.slice (some ⟨g, 0, none⟩) L.length nc) L.length ((L.map Nd.cells).flatten) := by rw [hLl]; exact hrow
      have := own_set Nd.cells 3 (fun _ => rfl) (w' := w1) L i y' (List.getElem?_eq_some_iff.1 hy).1 hrow' (fun cu hcu => by
        rw [hcur] at hcu
        injection hcu with hcu
        injection hcu with hcu
        subst hcu
        have c0 := row_cells Nd.cells 3 (fun _ => rfl) hrow' hcur hy 0 _ rfl
        have c2 := row_cells Nd.cells 3 (fun _ => rfl) hrow' hcur hy 2 _ rfl
        rw [hb1, hy']
        congr 2
        exact (set_mid3 (b := .int .i64 0) c0 c2).symm)
      rw [hLl] at this
      exact this
    · refine hpair.set (R' := fun B => NdOwn B w1) hy hX (fun j => w.heap.size ≤ j ∧ j < w1.heap.size) (fun j hj hn => by have := h.lt j (h.pn j hj.1).1; have := hn.1; omega) (fun j hj => ⟨.inl hj.1, hj.2⟩) (fun j hj => ⟨.inr hj, fun e => by have e1 : g = j := Option.some.inj e; have := h.lt g (h.pn g hgP).1; have := hj.1; omega⟩) y' ⟨X.id, labs, X.props⟩ (fun B hB k => ?_) (fun B C q x hB hC hBC k1 k2 => ?_)
      · have hlt : ∀ j, B j → j < w.heap.size := fun j hj => h.lt j (h.pn j (hB j hj).1).1
        have hBg : ∀ j, B j → j ≠ g := fun j hj e => (hB j hj).2 (by rw [e]; rfl)
        have hnl : ∀ j, B j → (Value.slice y.la y.ll y.lc).ownBlock ≠ some j → (Value.slice a' labs.length c').ownBlock ≠ some j := fun j hj hn e => by
          rcases hat j e with q | q
          · exact hn q
          · have := hlt j hj; omega
        rw [hy']
        refine ⟨k.id, rfl, hown, fun j hj => ?_, hsz, ?_, fun j hj => ?_, ?_⟩
        · rcases hat j hj with q | q
          · exact .inl (k.inL j q)
          · exact .inr ⟨q, (hown.lt j hj).2⟩
        · exact row_keep k.rowP fun j hj hl => hsame j hl (hBg j (k.inP j hj).1) (k.inP j hj).2
        · exact ⟨.inl (k.inP j hj).1, hnl j (k.inP j hj).1 (k.inP j hj).2⟩
        · exact k.props.mono fun p x _ _ hp => hp.kept ⟨hws, fun j hj hl => ⟨⟨.inl hj.1, hnl j hj.1 hj.2.1, hj.2.2⟩, hsame j hl (hBg j hj.1) hj.2.1⟩⟩
      · exact k2.kept ⟨hws, fun j hj hl => ⟨hj, hsame j hl (fun e => (hB j hj).2 (by rw [e]; rfl)) (fun e => hBC j hj (k1.inL j e))⟩⟩
  have nN : ∀ j, O j → ¬ PN j → ¬ (PN j ∨ (w.heap.size ≤ j ∧ j < w1.heap.size)) := fun j hj hn q => q.elim hn (fun q => by have := h.lt j hj; omega)
  refine ⟨⟨some ⟨g, 0, none⟩, nc, ea, ec, ma, mc, _, PE, PM, ?_, .inl h.ob, lts, fun j hj => ?_, fun j hj => ⟨.inl (h.pe j hj).1, (h.pe j hj).2.1, nN j (h.pe j hj).1 (h.pe j hj).2.2⟩, fun j hj => ⟨.inl (h.pm j hj).1, (h.pm j hj).2.1, nN j (h.pm j hj).1 (h.pm j hj).2.2.1, (h.pm j hj).2.2.2⟩, by rw [hlen]; exact hns, ?_, h.ms, ?_⟩, ?_⟩
  · rw [hlen]
    exact (hsame b hbw (fun e => hgb e.symm) (fun e => (h.pn b (hlab b e).1).2 rfl)).trans h.blk
  · rcases hj with hj | hj
    · exact ⟨.inl (h.pn j hj).1, (h.pn j hj).2⟩
    · exact ⟨.inr hj, by omega⟩
  · exact h.es.kept ⟨hws, fun j hj hl => ⟨hj, far j hl (h.pe j hj).2.2⟩⟩
  · exact row_keep h.mr fun j hj hl => far j hl (h.pm j (h.ms j hj)).2.2.1
  · exact ⟨hr.os, hr.tape, hr.output, hr.size, fun j hj hn => far j hj (fun e => hn (h.pn j e).1)⟩

theorem pair_nil_left {α β : Type} {R : α → β → Prop} {L : List β} (h : Pair2 R [] L) : L = [] := List.length_eq_zero_iff.1 h.1.symm

theorem pair_filter {α β : Type} {R : α → β → Prop} (f : α → ByteArray) (g : β → ByteArray) (hfg : ∀ p x, R p x → f p = g x) (q : ByteArray → Bool) : ∀ (P : List α) (L : List β), Pair2 R P L → Pair2 R (P.filter (fun p => q (f p))) (L.filter (fun x => q (g x)))
  | [], L, h => by
    rw [pair_nil_left h]
    exact Pair2.nil
  | p :: P, [], h => by cases h.1
  | p :: P, x :: L, h => by
    have h0 : R p x := h.2 0 p x rfl rfl
    have ht : Pair2 R P L := ⟨by simpa using h.1, fun i a b ha hb => h.2 (i + 1) a b ha hb⟩
    have ih := pair_filter f g hfg q P L ht
    rw [List.filter_cons, List.filter_cons, hfg p x h0]
    split
    · refine ⟨by simp [ih.1], fun i a b ha hb => ?_⟩
      cases i with
      | zero =>
        simp at ha hb
        subst ha hb
        exact h0
      | succ i => exact ih.2 i a b ha hb
    · exact ih

theorem pair_append {α β : Type} {R : α → β → Prop} {P P' : List α} {L L' : List β} (h : Pair2 R P L) (h' : Pair2 R P' L') : Pair2 R (P ++ P') (L ++ L') := by
  refine ⟨by simp [h.1, h'.1], fun i a b ha hb => ?_⟩
  rcases Nat.lt_or_ge i P.length with hi | hi
  · rw [List.getElem?_append_left hi] at ha
    rw [List.getElem?_append_left (by rw [← h.1]; exact hi)] at hb
    exact h.2 i a b ha hb
  · rw [List.getElem?_append_right hi] at ha
    rw [List.getElem?_append_right (by rw [← h.1]; exact hi), ← h.1] at hb
    exact h'.2 _ a b ha hb

theorem pair_chg {R : Pr → AP → Prop} (hfg : ∀ p x, R p x → p.name = x.name) {P : List Pr} {L : List AP} (h : Pair2 R P L) {p : Pr} {x : AP} (hR : R p x) (stays : Bool) : Pair2 R (chgL Pr.name P p stays) (chgL AP.name L x stays) := by
  unfold chgL loS hiS
  have e := hfg p x hR
  rw [← e]
  refine pair_append (pair_append (pair_filter Pr.name AP.name hfg (fun s => decide (cmpS s p.name < 0)) P L h) ?_) (pair_filter Pr.name AP.name hfg (fun s => decide (cmpS p.name s < 0)) P L h)
  cases stays with
  | false => exact Pair2.nil
  | true => exact ⟨rfl, fun i a b ha hb => by
      cases i with
      | zero =>
        simp at ha hb
        subst ha hb
        exact hR
      | succ i => simp at ha⟩

theorem WorkAt.setP {O : Nat → Prop} {w0 w w1 : World} {b : Nat} {S : WS} {na : Option Addr} {nc : Nat} {ea : Option Addr} {ec : Nat} {ma : Option Addr} {mc : Nat} {PN PE PM : Nat → Prop} (h : WorkAt O w b S na nc ea ec ma mc PN PE PM) (hO : ∀ j, O j → j < w0.heap.size) (k0 : Below w0.heap.size w0 w) {g i : Nat} (hg : na = some ⟨g, 0, none⟩)
    {L : List Nd} (hrow : w.ownsRow 0 72 3 (.slice na S.N.length nc) L.length (rowN L)) (hpair : PairD (fun B => NdOwn B w) (fun j => PN j ∧ (Value.slice na S.N.length nc).ownBlock ≠ some j) L S.N) {y : Nd} {X : AN} (hy : L[i]? = some y) (hX : S.N[i]? = some X)
    {cur : Array Value} (hcur : w.heap[g]? = some (.cells cur 72 (0, 0))) {a' : Option Addr} {c' : Nat} {p : Pr} {x : AP} {stays : Bool} {P' : List Pr} (hP' : P' = chgL Pr.name y.props p stays) (hp : PrIn (fun j => w0.heap.size ≤ j ∧ j < w.heap.size) w p x)
    (hb1 : w1.heap[g]? = some (.cells (cur.setIfInBounds (i * 3 + 2) (.slice a' P'.length c')) 72 (0, 0))) (hown : w1.ownsRow 0 102 5 (.slice a' P'.length c') P'.length (rowP P'))
    (hat : ∀ j, (Value.slice a' P'.length c').ownBlock = some j → (Value.slice y.pa y.pl y.pc).ownBlock = some j ∨ w.heap.size ≤ j) (hr : Rest (fun j => j = g ∨ (Value.slice y.pa y.pl y.pc).ownBlock = some j) w w1) :
    StepEnd O w0 w1 b ⟨S.N.set i ⟨X.id, X.labs, chgL AP.name X.props x stays⟩, S.E, S.next, S.made⟩ := by
  subst hg
  have hgP : PN g := h.ns.1 g rfl
  have hgb : g ≠ b := (h.pn g hgP).2
  have hbw : b < w.heap.size := h.lt b h.ob
  have hws := hr.size
  have h0s := k0.size
  have hyP := (hpair.pair NdOwn.wide).2 i y X hy hX
  have hprs : ∀ j, (Value.slice y.pa y.pl y.pc).ownBlock = some j → PN j ∧ (Value.slice (some ⟨g, 0, none⟩) S.N.length nc).ownBlock ≠ some j := fun j hj => (hyP.inP j hj).1
  have hsame : ∀ j, j < w.heap.size → j ≠ g → (Value.slice y.pa y.pl y.pc).ownBlock ≠ some j → w1.heap[j]? = w.heap[j]? := fun j h1 h2 h3 => hr.block j h1 (fun q => q.elim h2 h3)
  have far : ∀ j, j < w.heap.size → ¬ PN j → w1.heap[j]? = w.heap[j]? := fun j h1 h2 => hsame j h1 (fun e => h2 (e ▸ hgP)) (fun e => h2 (hprs j e).1)
  have hlen : (S.N.set i ⟨X.id, X.labs, chgL AP.name X.props x stays⟩).length = S.N.length := by simp
  have lts : ∀ j, Now O w0 w1 j → j < w1.heap.size := fun j hj => by
    rcases hj with hj | hj
    · have := h.lt j hj; omega
    · exact hj.2
  have hLl : L.length = S.N.length := hpair.1
  obtain ⟨y', hy'⟩ : ∃ z : Nd, z = ⟨y.id, y.labs, y.la, y.ll, y.lc, P', a', P'.length, c'⟩ := ⟨_, rfl⟩
  have hns : NsOwn (fun j => PN j ∨ (w0.heap.size ≤ j ∧ j < w1.heap.size)) w1 (S.N.set i ⟨X.id, X.labs, chgL AP.name X.props x stays⟩) (.slice (some ⟨g, 0, none⟩) S.N.length nc) := by
    refine ⟨fun j hj => ?_, L.set i y', ?_, ?_⟩
    · have : g = j := Option.some.inj hj
      exact .inl (this ▸ hgP)
    · rw [List.length_set]
      rw [hLl] at hrow ⊢
      have hrow' : w.ownsRow 0 72 3 (.slice (some ⟨g, 0, none⟩) L.length nc) L.length ((L.map Nd.cells).flatten) := by rw [hLl]; exact hrow
      have := own_set Nd.cells 3 (fun _ => rfl) (w' := w1) L i y' (List.getElem?_eq_some_iff.1 hy).1 hrow' (fun cu hcu => by
        rw [hcur] at hcu
        injection hcu with hcu
        injection hcu with hcu
        subst hcu
        have c0 := row_cells Nd.cells 3 (fun _ => rfl) hrow' hcur hy 0 _ rfl
        have c1 := row_cells Nd.cells 3 (fun _ => rfl) hrow' hcur hy 1 _ rfl
        rw [hb1, hy']
        congr 2
        exact (set_last3 c0 c1).symm)
      rw [hLl] at this
      exact this
    · refine hpair.set (R' := fun B => NdOwn B w1) hy hX (fun j => w0.heap.size ≤ j ∧ j < w1.heap.size) (fun j hj hn => by have := hO j (h.pn j hj.1).1; have := hn.1; omega) (fun j hj => ⟨.inl hj.1, hj.2⟩) (fun j hj => ⟨.inr hj, fun e => by have e1 : g = j := Option.some.inj e; have := hO g (h.pn g hgP).1; have := hj.1; omega⟩) y' ⟨X.id, X.labs, chgL AP.name X.props x stays⟩ (fun B hB k => ?_) (fun B C q z hB hC hBC k1 k2 => ?_)
      · have hlt : ∀ j, B j → j < w0.heap.size := fun j hj => hO j (h.pn j (hB j hj).1).1
        have hBg : ∀ j, B j → j ≠ g := fun j hj e => (hB j hj).2 (by rw [e]; rfl)
        have hnl : ∀ j, j < w.heap.size → (Value.slice y.pa y.pl y.pc).ownBlock ≠ some j → (Value.slice a' P'.length c').ownBlock ≠ some j := fun j hj hn e => by
          rcases hat j e with q | q
          · exact hn q
          · omega
        have hgl : g < w0.heap.size := hO g (h.pn g hgP).1
        rw [hy']
        refine ⟨k.id, k.labs, ?_, fun j hj => .inl (k.inL j hj), k.szL, hown, fun j hj => ?_, ?_⟩
        · exact row_keep k.rowL fun j hj hl => hsame j hl (hBg j (k.inL j hj)) (fun e => (k.inP j e).2 hj)
        · rcases hat j hj with q | q
          · exact ⟨.inl (k.inP j q).1, (k.inP j q).2⟩
          · refine ⟨.inr ⟨by omega, (hown.lt j hj).2⟩, fun e => ?_⟩
            have := hlt j (k.inL j e)
            omega
        · rw [hP']
          have hprops : Pair2 (fun a b => PrIn (fun j => B j ∧ (Value.slice y.la y.ll y.lc).ownBlock ≠ some j ∧ (Value.slice y.pa y.pl y.pc).ownBlock ≠ some j) w a b ∨ PrIn (fun j => w0.heap.size ≤ j ∧ j < w.heap.size) w a b) (chgL Pr.name y.props p stays) (chgL AP.name X.props x stays) :=
            pair_chg (fun a b h => h.elim (fun q => q.1) (fun q => q.1)) (k.props.mono fun _ _ _ _ q => .inl q) (.inr hp) stays
          refine hprops.mono fun a z _ _ q => ?_
          rcases q with q | q
          · exact q.kept ⟨hws, fun j hj hl => ⟨⟨.inl hj.1, hj.2.1, by rw [← hP']; exact hnl j hl hj.2.2⟩, hsame j hl (hBg j hj.1) hj.2.2⟩⟩
          · refine q.kept ⟨hws, fun j hj hl => ?_⟩
            have hnp : (Value.slice y.pa y.pl y.pc).ownBlock ≠ some j := fun e => by have := hlt j (k.inP j e).1; omega
            exact ⟨⟨.inr ⟨hj.1, by omega⟩, fun e => by have := hlt j (k.inL j e); omega, by rw [← hP']; exact hnl j hl hnp⟩, hsame j hl (by omega) hnp⟩
      · exact k2.kept ⟨hws, fun j hj hl => ⟨hj, hsame j hl (fun e => (hB j hj).2 (by rw [e]; rfl)) (fun e => hBC j hj (k1.inP j e).1)⟩⟩
  have nN : ∀ j, O j → ¬ PN j → ¬ (PN j ∨ (w0.heap.size ≤ j ∧ j < w1.heap.size)) := fun j hj hn q => q.elim hn (fun q => by have := hO j hj; omega)
  refine ⟨⟨some ⟨g, 0, none⟩, nc, ea, ec, ma, mc, _, PE, PM, ?_, .inl h.ob, lts, fun j hj => ?_, fun j hj => ⟨.inl (h.pe j hj).1, (h.pe j hj).2.1, nN j (h.pe j hj).1 (h.pe j hj).2.2⟩, fun j hj => ⟨.inl (h.pm j hj).1, (h.pm j hj).2.1, nN j (h.pm j hj).1 (h.pm j hj).2.2.1, (h.pm j hj).2.2.2⟩, by rw [hlen]; exact hns, ?_, h.ms, ?_⟩, ?_⟩
  · rw [hlen]
    exact (hsame b hbw (fun e => hgb e.symm) (fun e => (h.pn b (hprs b e).1).2 rfl)).trans h.blk
  · rcases hj with hj | hj
    · exact ⟨.inl (h.pn j hj).1, (h.pn j hj).2⟩
    · exact ⟨.inr hj, fun e => by have := hO b h.ob; omega⟩
  · exact h.es.kept ⟨hws, fun j hj hl => ⟨hj, far j hl (h.pe j hj).2.2⟩⟩
  · exact row_keep h.mr fun j hj hl => far j hl (h.pm j (h.ms j hj)).2.2.1
  · exact ⟨hr.os.trans k0.os, hr.tape.trans k0.tape, hr.output.trans k0.output, Nat.le_trans h0s hr.size, fun j hj hn => (far j (by omega) (fun e => hn (h.pn j e).1)).trans (k0.block j hj)⟩

set_option maxHeartbeats 4000000 in
theorem WorkAt.setPE {O : Nat → Prop} {w0 w w1 : World} {b : Nat} {S : WS} {na : Option Addr} {nc : Nat} {ea : Option Addr} {ec : Nat} {ma : Option Addr} {mc : Nat} {PN PE PM : Nat → Prop} (h : WorkAt O w b S na nc ea ec ma mc PN PE PM) (hO : ∀ j, O j → j < w0.heap.size) (k0 : Below w0.heap.size w0 w) {g i : Nat} (hg : ea = some ⟨g, 0, none⟩)
    {L : List Ed} (hrow : w.ownsRow 0 47 5 (.slice ea S.E.length ec) L.length (rowX L)) (hpair : PairD (fun B => EdOwn B w) (fun j => PE j ∧ (Value.slice ea S.E.length ec).ownBlock ≠ some j) L S.E) {y : Ed} {X : AE} (hy : L[i]? = some y) (hX : S.E[i]? = some X)
    {cur : Array Value} (hcur : w.heap[g]? = some (.cells cur 47 (0, 0))) {a' : Option Addr} {c' : Nat} {p : Pr} {x : AP} {stays : Bool} {P' : List Pr} (hP' : P' = chgL Pr.name y.props p stays) (hp : PrIn (fun j => w0.heap.size ≤ j ∧ j < w.heap.size) w p x)
    (hb1 : w1.heap[g]? = some (.cells (cur.setIfInBounds (i * 5 + 4) (.slice a' P'.length c')) 47 (0, 0))) (hown : w1.ownsRow 0 102 5 (.slice a' P'.length c') P'.length (rowP P'))
    (hat : ∀ j, (Value.slice a' P'.length c').ownBlock = some j → (Value.slice y.pa y.pl y.pc).ownBlock = some j ∨ w.heap.size ≤ j) (hr : Rest (fun j => j = g ∨ (Value.slice y.pa y.pl y.pc).ownBlock = some j) w w1) :
    StepEnd O w0 w1 b ⟨S.N, S.E.set i ⟨X.id, X.frm, X.dst, X.typ, chgL AP.name X.props x stays⟩, S.next, S.made⟩ := by
  subst hg
  have hgP : PE g := h.es.1 g rfl
  have hgb : g ≠ b := (h.pe g hgP).2.1
  have hbw : b < w.heap.size := h.lt b h.ob
  have hws := hr.size
  have h0s := k0.size
  have hyP := (hpair.pair EdOwn.wide).2 i y X hy hX
  have hprs : ∀ j, (Value.slice y.pa y.pl y.pc).ownBlock = some j → PE j ∧ (Value.slice (some ⟨g, 0, none⟩) S.E.length ec).ownBlock ≠ some j := fun j hj => hyP.inP j hj
  have hsame : ∀ j, j < w.heap.size → j ≠ g → (Value.slice y.pa y.pl y.pc).ownBlock ≠ some j → w1.heap[j]? = w.heap[j]? := fun j h1 h2 h3 => hr.block j h1 (fun q => q.elim h2 h3)
  have far : ∀ j, j < w.heap.size → ¬ PE j → w1.heap[j]? = w.heap[j]? := fun j h1 h2 => hsame j h1 (fun e => h2 (e ▸ hgP)) (fun e => h2 (hprs j e).1)
  have hlen : (S.E.set i ⟨X.id, X.frm, X.dst, X.typ, chgL AP.name X.props x stays⟩).length = S.E.length := by simp
  have lts : ∀ j, Now O w0 w1 j → j < w1.heap.size := fun j hj => by
    rcases hj with hj | hj
    · have := h.lt j hj; omega
    · exact hj.2
  have hLl : L.length = S.E.length := hpair.1
  obtain ⟨y', hy'⟩ : ∃ z : Ed, z = ⟨y.id, y.frm, y.dst, y.typ, P', a', P'.length, c'⟩ := ⟨_, rfl⟩
  have hns : EsOwn (fun j => PE j ∨ (w0.heap.size ≤ j ∧ j < w1.heap.size)) w1 (S.E.set i ⟨X.id, X.frm, X.dst, X.typ, chgL AP.name X.props x stays⟩) (.slice (some ⟨g, 0, none⟩) S.E.length ec) := by
    refine ⟨fun j hj => ?_, L.set i y', ?_, ?_⟩
    · have : g = j := Option.some.inj hj
      exact .inl (this ▸ hgP)
    · rw [List.length_set]
      rw [hLl] at hrow ⊢
      have hrow' : w.ownsRow 0 47 5 (.slice (some ⟨g, 0, none⟩) L.length ec) L.length ((L.map Ed.cells).flatten) := by rw [hLl]; exact hrow
      have := own_set Ed.cells 5 (fun _ => rfl) (w' := w1) L i y' (List.getElem?_eq_some_iff.1 hy).1 hrow' (fun cu hcu => by
        rw [hcur] at hcu
        injection hcu with hcu
        injection hcu with hcu
        subst hcu
        have c0 := row_cells Ed.cells 5 (fun _ => rfl) hrow' hcur hy 0 _ rfl
        have c1 := row_cells Ed.cells 5 (fun _ => rfl) hrow' hcur hy 1 _ rfl
        have c2 := row_cells Ed.cells 5 (fun _ => rfl) hrow' hcur hy 2 _ rfl
        have c3 := row_cells Ed.cells 5 (fun _ => rfl) hrow' hcur hy 3 _ rfl
        rw [hb1, hy']
        congr 2
        exact (set_last5 c0 c1 c2 c3).symm)
      rw [hLl] at this
      exact this
    · refine hpair.set (R' := fun B => EdOwn B w1) hy hX (fun j => w0.heap.size ≤ j ∧ j < w1.heap.size) (fun j hj hn => by have := hO j (h.pe j hj.1).1; have := hn.1; omega) (fun j hj => ⟨.inl hj.1, hj.2⟩) (fun j hj => ⟨.inr hj, fun e => by have e1 : g = j := Option.some.inj e; have := hO g (h.pe g hgP).1; have := hj.1; omega⟩) y' ⟨X.id, X.frm, X.dst, X.typ, chgL AP.name X.props x stays⟩ (fun B hB k => ?_) (fun B C q z hB hC hBC k1 k2 => ?_)
      · have hlt : ∀ j, B j → j < w0.heap.size := fun j hj => hO j (h.pe j (hB j hj).1).1
        have hBg : ∀ j, B j → j ≠ g := fun j hj e => (hB j hj).2 (by rw [e]; rfl)
        have hnl : ∀ j, j < w.heap.size → (Value.slice y.pa y.pl y.pc).ownBlock ≠ some j → (Value.slice a' P'.length c').ownBlock ≠ some j := fun j hj hn e => by
          rcases hat j e with q | q
          · exact hn q
          · omega
        have hgl : g < w0.heap.size := hO g (h.pe g hgP).1
        rw [hy']
        refine ⟨k.id, k.frm, k.dst, k.typ, k.szT, hown, fun j hj => ?_, ?_⟩
        · rcases hat j hj with q | q
          · exact .inl (k.inP j q)
          · exact .inr ⟨by omega, (hown.lt j hj).2⟩
        · rw [hP']
          have hprops : Pair2 (fun a b => PrIn (fun j => B j ∧ (Value.slice y.pa y.pl y.pc).ownBlock ≠ some j) w a b ∨ PrIn (fun j => w0.heap.size ≤ j ∧ j < w.heap.size) w a b) (chgL Pr.name y.props p stays) (chgL AP.name X.props x stays) :=
            pair_chg (fun a b h => h.elim (fun q => q.1) (fun q => q.1)) (k.props.mono fun _ _ _ _ q => .inl q) (.inr hp) stays
          refine hprops.mono fun a z _ _ q => ?_
          rcases q with q | q
          · exact q.kept ⟨hws, fun j hj hl => ⟨⟨.inl hj.1, by rw [← hP']; exact hnl j hl hj.2⟩, hsame j hl (hBg j hj.1) hj.2⟩⟩
          · refine q.kept ⟨hws, fun j hj hl => ?_⟩
            have hnp : (Value.slice y.pa y.pl y.pc).ownBlock ≠ some j := fun e => by have := hlt j (k.inP j e); omega
            exact ⟨⟨.inr ⟨hj.1, by omega⟩, by rw [← hP']; exact hnl j hl hnp⟩, hsame j hl (by omega) hnp⟩
      · exact k2.kept ⟨hws, fun j hj hl => ⟨hj, hsame j hl (fun e => (hB j hj).2 (by rw [e]; rfl)) (fun e => hBC j hj (k1.inP j e))⟩⟩
  have nN : ∀ j, PN j → ¬ PE j := fun j hj q => (h.pe j q).2.2 hj
  refine ⟨⟨na, nc, some ⟨g, 0, none⟩, ec, ma, mc, PN, (fun j => PE j ∨ (w0.heap.size ≤ j ∧ j < w1.heap.size)), PM, ?_, .inl h.ob, lts, fun j hj => ⟨.inl (h.pn j hj).1, (h.pn j hj).2⟩, fun j hj => ?_, fun j hj => ⟨.inl (h.pm j hj).1, (h.pm j hj).2.1, (h.pm j hj).2.2.1, fun q => q.elim (h.pm j hj).2.2.2 (fun q => by have := hO j (h.pm j hj).1; omega)⟩, ?_, by rw [hlen]; exact hns, h.ms, ?_⟩, ?_⟩
  · rw [hlen]
    exact (hsame b hbw (fun e => hgb e.symm) (fun e => (h.pe b (hprs b e).1).2.1 rfl)).trans h.blk
  · rcases hj with hj | hj
    · exact ⟨.inl (h.pe j hj).1, (h.pe j hj).2⟩
    · exact ⟨.inr hj, fun e => by have := hO b h.ob; omega, fun q => by have := hO j (h.pn j q).1; omega⟩
  · exact h.ns.kept ⟨hws, fun j hj hl => ⟨hj, far j hl (nN j hj)⟩⟩
  · exact row_keep h.mr fun j hj hl => far j hl (h.pm j (h.ms j hj)).2.2.2
  · exact ⟨hr.os.trans k0.os, hr.tape.trans k0.tape, hr.output.trans k0.output, Nat.le_trans h0s hr.size, fun j hj hn => (far j (by omega) (fun e => hn (h.pe j e).1)).trans (k0.block j hj)⟩

/-- What a difference's block holds. -/
def dl (g n h e : Value) (f t : Int) : Array Value := #[g, n, h, e, .int .i64 f, .int .i64 t]

def NsOwn2 (W w' : World) (X : List AN) (n : Nat) (e : Ending) : Prop := ∃ a c, e = .returned (.slice a n c) ∧ NsOwn (fun i => W.heap.size ≤ i) w' X (.slice a n c)
def EsOwn2 (W w' : World) (X : List AE) (n : Nat) (e : Ending) : Prop := ∃ a c, e = .returned (.slice a n c) ∧ EsOwn (fun i => W.heap.size ≤ i) w' X (.slice a n c)

def DeltaEnd (W w' : World) (G N : List AN) (H E : List AE) (f t : Int) (e : Ending) : Prop :=
  ∃ ga gc na nc ha hc ea ec, e = .returned (.agg #[.slice ga G.length gc, .slice na N.length nc, .slice ha H.length hc, .slice ea E.length ec, .int .i64 f, .int .i64 t]) ∧ NsOwn (fun i => W.heap.size ≤ i) w' G (.slice ga G.length gc) ∧ NsOwn (fun i => W.heap.size ≤ i) w' N (.slice na N.length nc) ∧ EsOwn (fun i => W.heap.size ≤ i) w' H (.slice ha H.length hc) ∧ EsOwn (fun i => W.heap.size ≤ i) w' E (.slice ea E.length ec)

theorem NsOwn.reads2 {A : Nat → Prop} {w : World} {X : List AN} {a : Option Addr} {c : Nat} (h : NsOwn A w X (.slice a X.length c)) : X.length ≤ c ∧ NsAt w X a X.length := by
  obtain ⟨a', c', he, h1, h2⟩ := h.reads
  injection he with e1 _ e3
  subst e1 e3
  exact ⟨h1, h2⟩

theorem EsOwn.reads2 {A : Nat → Prop} {w : World} {X : List AE} {a : Option Addr} {c : Nat} (h : EsOwn A w X (.slice a X.length c)) : X.length ≤ c ∧ EsAt w X a X.length := by
  obtain ⟨a', c', he, h1, h2⟩ := h.reads
  injection he with e1 _ e3
  subst e1 e3
  exact ⟨h1, h2⟩

theorem set2_other (w : World) (b o o' : Nat) (v v' : Value) (j : Nat) (hj : j ≠ b) : ((w.setCell ⟨b, o, none⟩ v).setCell ⟨b, o', none⟩ v').heap[j]? = w.heap[j]? :=
  (Below.heap_setCell _ ⟨b, o', none⟩ v' j hj).trans (Below.heap_setCell w ⟨b, o, none⟩ v j hj)

theorem set2_size (w : World) (b o o' : Nat) (v v' : Value) : ((w.setCell ⟨b, o, none⟩ v).setCell ⟨b, o', none⟩ v').heap.size = w.heap.size := by simp [World.setCell]
end Go.Proofs.YtebbjmjgojekdaaGreatDoor
