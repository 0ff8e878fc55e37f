/-
  What is proved here: what the texts HPutE, HAddE, HChanged prove, in one text.
-/
import Derived.Test.YtdlmlpddkfnfmaaGreatDoorQMAY
import Derived.Test.YtdlmlpddkfnfmaaGreatDoorQMAX
import Derived.Test.YtdlmlpddkfnfmaaGreatDoorQMAZ
import Derived.Test.YtdlmlpddkfnfmaaGreatDoorHDo
import Derived.Test.YtdlmlpddkfnfmaaGreatDoorQMAI
namespace Go.Proofs.YtdlmlpddkfnfmaaGreatDoor
open Go.RowKit
set_option linter.unusedVariables false

theorem WorkAt.putE {O : Nat → Prop} {w u w5 : World} {b : Nat} {S : WS} {na : Option Addr} {nc : Nat} {ea : Option Addr} {ec : Nat} {ma : Option Addr} {mc : Nat} {PN PE PM : Nat → Prop} (h : WorkAt O w b S na nc ea ec ma mc PN PE PM) (k : Below w.heap.size w u) {y : Ed} {X : AE} (hy : EdOwn (fun i => w.heap.size ≤ i) u y X) (o : Obj)
    {L : List Ed} (hrow : w.ownsRow 0 53 5 (.slice ea S.E.length ec) S.E.length (rowX L)) (hpair : PairD (fun B => EdOwn B w) (fun i => PE i ∧ (Value.slice ea S.E.length ec).ownBlock ≠ some i) L S.E) {gg cap : Nat}
    (hgrow : (u.alloc o).grownBy w5 (Value.slice ea S.E.length ec).ownBlock) (hown : w5.ownsRow 0 53 5 (.slice (some ⟨gg, 0, none⟩) (S.E.length + 1) cap) (S.E.length + 1) (rowX L ++ y.cells))
    (hat : (Value.slice ea S.E.length ec).ownBlock = some gg ∨ gg = u.heap.size + 1) (hlt : gg < w5.heap.size) :
    StepEnd O w (w5.setCell ⟨b, 1, none⟩ (.slice (some ⟨gg, 0, none⟩) (S.E.length + 1) cap)) b ⟨S.N, S.E ++ [X], S.next, S.made⟩ := by
  obtain ⟨Y, hY⟩ : ∃ Y, Y = w5.setCell ⟨b, 1, none⟩ (.slice (some ⟨gg, 0, none⟩) (S.E.length + 1) cap) := ⟨_, rfl⟩
  rw [← hY]
  have hbw : b < w.heap.size := h.lt b h.ob
  have hwu := k.size
  have hu5 : u.heap.size + 1 ≤ w5.heap.size := by have := hgrow.size; simpa using this
  have hob : ∀ g, (Value.slice ea S.E.length ec).ownBlock = some g → PE g := h.es.1
  have hol : ∀ g, (Value.slice ea S.E.length ec).ownBlock = some g → g < w.heap.size := fun g hg => row_lt hrow hg
  have h5 : ∀ j, j < u.heap.size → (Value.slice ea S.E.length ec).ownBlock ≠ some j → w5.heap[j]? = u.heap[j]? := fun j hj hn => (hgrow.block j (by simp; omega) (fun e => hn e.symm)).trans (Below.heap_alloc u o j hj)
  have hb5 : w5.heap[b]? = some (.cells #[.slice na S.N.length nc, .slice ea S.E.length ec, .int .i64 S.next, .slice ma S.made.length mc] 69 (0, 0)) := by
    rw [h5 b (by omega) (fun e => absurd rfl (h.pe b (hob b e)).2.1), k.block b hbw]
    exact h.blk
  have hYb : Y.heap[b]? = some (.cells #[.slice na S.N.length nc, .slice (some ⟨gg, 0, none⟩) (S.E.length + 1) cap, .int .i64 S.next, .slice ma S.made.length mc] 69 (0, 0)) := by rw [hY, set_here hb5]; rfl
  have hYo : ∀ j, j ≠ b → Y.heap[j]? = w5.heap[j]? := fun j hj => by rw [hY]; exact Below.heap_setCell w5 ⟨b, 1, none⟩ _ j hj
  have hYs : Y.heap.size = w5.heap.size := by rw [hY]; simp [World.setCell]
  have hYf : Y.os = w5.os ∧ Y.tape = w5.tape ∧ Y.output = w5.output := by rw [hY]; exact ⟨rfl, rfl, rfl⟩
  have old : ∀ j, j < w.heap.size → j ≠ b → (Value.slice ea S.E.length ec).ownBlock ≠ some j → Y.heap[j]? = w.heap[j]? := fun j h1 h2 h3 => (hYo j h2).trans ((h5 j (by omega) h3).trans (k.block j h1))
  have ggN : ∀ j, j < u.heap.size → (Value.slice ea S.E.length ec).ownBlock ≠ some j → j ≠ gg := fun j h1 h2 e => by
    subst e
    rcases hat with h3 | h3
    · exact h2 h3
    · omega
  have nv : (Value.slice (some ⟨gg, 0, none⟩) (S.E.length + 1) cap).ownBlock = some gg := rfl
  have e1 : (⟨S.N, S.E ++ [X], S.next, S.made⟩ : WS).E.length = S.E.length + 1 := by simp
  have ggB : gg ≠ b := by
    rcases hat with h3 | h3
    · exact (h.pe gg (hob gg h3)).2.1
    · omega
  have ggO : Now O w Y gg := by
    rcases hat with h3 | h3
    · exact .inl (h.pe gg (hob gg h3)).1
    · exact .inr ⟨by omega, by rw [hYs]; exact hlt⟩
  have lts : ∀ i, Now O w Y i → i < Y.heap.size := fun i hi => by
    rcases hi with hi | hi
    · have := h.lt i hi; omega
    · exact hi.2
  have hns : EsOwn (fun i => (PE i ∧ (Value.slice ea S.E.length ec).ownBlock ≠ some i) ∨ i = gg ∨ (w.heap.size ≤ i ∧ i < u.heap.size)) Y (S.E ++ [X]) (.slice (some ⟨gg, 0, none⟩) (S.E.length + 1) cap) := by
    refine ⟨fun g hg => .inr (.inl (by rw [nv] at hg; exact (Option.some.inj hg).symm)), L ++ [y], ?_, ?_⟩
    · rw [rowX_snoc, show (L ++ [y]).length = S.E.length + 1 by simp [hpair.1]]
      exact row_keep hown fun g hg _ => by
        rw [nv] at hg
        obtain rfl := Option.some.inj hg
        exact hYo gg ggB
    · refine (hpair.carry (R' := fun B => EdOwn B Y) (A' := fun i => (((PE i ∧ (Value.slice ea S.E.length ec).ownBlock ≠ some i) ∨ i = gg ∨ (w.heap.size ≤ i ∧ i < u.heap.size)) ∧ (Value.slice (some ⟨gg, 0, none⟩) (S.E.length + 1) cap).ownBlock ≠ some i) ∧ i < w.heap.size) (fun i => i < w.heap.size) (fun B p x hB hp => hp.kept ⟨by omega, fun j hj hjl => ⟨⟨hj, hjl⟩, old j hjl (h.pe j (hB j hj).1).2.1 (hB j hj).2⟩⟩) (fun b hb hz => ⟨⟨.inl hb, ?_⟩, hz⟩)).snoc (B := fun i => (((PE i ∧ (Value.slice ea S.E.length ec).ownBlock ≠ some i) ∨ i = gg ∨ (w.heap.size ≤ i ∧ i < u.heap.size)) ∧ (Value.slice (some ⟨gg, 0, none⟩) (S.E.length + 1) cap).ownBlock ≠ some i) ∧ w.heap.size ≤ i) (hy.kept ⟨by omega, fun j hj hjl => ⟨⟨⟨.inr (.inr ⟨hj, hjl⟩), ?_⟩, hj⟩, ?_⟩⟩) (fun b hb => hb.1) (fun b hb => hb.1) (fun b hb hb' => by have h1 := hb.2; have h2 := hb'.2; omega)
      · rw [nv]
        exact fun e => ggN b (by omega) hb.2 (Option.some.inj e).symm
      · rw [nv]
        exact fun e => ggN j hjl (fun e => by have := hol j e; have : w.heap.size ≤ j := hj; omega) (Option.some.inj e).symm
      · have hj' : w.heap.size ≤ j := hj
        exact (hYo j (by omega)).trans (h5 j hjl (fun e => by have := hol j e; omega))
  have own : ∀ i, (PE i ∧ (Value.slice ea S.E.length ec).ownBlock ≠ some i) ∨ i = gg ∨ (w.heap.size ≤ i ∧ i < u.heap.size) → Now O w Y i ∧ i ≠ b := fun i hi => by
    rcases hi with hi | rfl | hi
    · exact ⟨.inl (h.pe i hi.1).1, (h.pe i hi.1).2.1⟩
    · exact ⟨ggO, ggB⟩
    · exact ⟨.inr ⟨hi.1, by omega⟩, by omega⟩
  have apart : ∀ i, O i → ¬ PE i → ¬ ((PE i ∧ (Value.slice ea S.E.length ec).ownBlock ≠ some i) ∨ i = gg ∨ (w.heap.size ≤ i ∧ i < u.heap.size)) := fun i hi hn q => by
    have hil := h.lt i hi
    rcases q with q | rfl | q
    · exact hn q.1
    · rcases hat with h3 | h3
      · exact hn (hob _ h3)
      · omega
    · omega
  have rest : Rest O w Y := ⟨hYf.1.trans (hgrow.os.trans k.os), hYf.2.1.trans (hgrow.tape.trans k.tape), hYf.2.2.trans (hgrow.output.trans k.output), by omega, fun i hi hn => old i hi (fun e => hn (e ▸ h.ob)) (fun e => hn (h.pe i (hob i e)).1)⟩
  refine ⟨⟨na, nc, some ⟨gg, 0, none⟩, cap, ma, mc, PN, _, PM, ?_, .inl h.ob, lts, fun i hi => ⟨.inl (h.pn i hi).1, (h.pn i hi).2⟩, fun i hi => ⟨(own i hi).1, (own i hi).2, fun q => ?_⟩, fun i hi => ⟨.inl (h.pm i hi).1, (h.pm i hi).2.1, (h.pm i hi).2.2.1, apart i (h.pm i hi).1 (h.pm i hi).2.2.2⟩, ?_, ?_, h.ms, ?_⟩, rest⟩
  · rw [hYb, e1]
  · exact apart i (h.pn i q).1 (fun r => (h.pe i r).2.2 q) hi
  · exact h.ns.kept ⟨by omega, fun i hi hl => ⟨hi, old i hl (h.pn i hi).2 (fun e => (h.pe i (hob i e)).2.2 hi)⟩⟩
  · rw [e1]
    exact hns
  · exact row_keep h.mr fun g hg hl => old g hl (h.pm g (h.ms g hg)).2.1 (fun e => (h.pm g (h.ms g hg)).2.2.2 (hob g e))

def hasA (N : List AN) (t : Int) : Bool := decide (t ∈ N.map AN.id)

theorem pair_ids {w : World} {L : List Nd} {N : List AN} (h : Pair2 (NdIn w) L N) : L.map Nd.id = N.map AN.id := by
  apply List.ext_getElem?
  intro i
  rw [List.getElem?_map, List.getElem?_map]
  cases hx : L[i]? with
  | none =>
    have : N[i]? = none := by
      rw [List.getElem?_eq_none_iff] at hx ⊢
      rw [← h.1]
      exact hx
    rw [this]
    rfl
  | some x =>
    obtain ⟨y, hy, hxy⟩ := h.left hx
    rw [hy]
    show some x.id = some y.id
    rw [hxy.1]

/-- Somewhere, or nowhere. -/
def PtrEnd (has : Bool) (e : Ending) : Prop := (has = false ∧ e = .returned (.pointer none)) ∨ (has = true ∧ ∃ g o, e = .returned (.pointer (some ⟨g, o, none⟩)))

theorem wnode_in (O : Nat → Prop) (b : Nat) (S : WS) (t : Int) (w : World) (h : WorkIn O w b S) (h60 : S.N.length ≤ 60) (hr : Rise (S.N.map AN.id)) :
    Calls Tryz.prog 117 #[.pointer (some ⟨b, 0, none⟩), .int .i64 t] w fun e w' => PtrEnd (hasA S.N t) e ∧ Below w.heap.size w w' := by
  obtain ⟨na, nc, ea, ec, ma, mc, PN, PE, PM, hw⟩ := h
  obtain ⟨_, L, hl, hp⟩ := hw.ns.reads2
  have hids := pair_ids hp
  refine (wnode_any L b na S.N.length nc _ _ S.next t w hw.blk hl h60 (by rw [hids]; exact hr)).mono ?_
  rintro e w' ⟨hA, k⟩
  refine ⟨?_, k⟩
  have he : hasA S.N t = hasN L t := by unfold hasA hasN; rw [hids]
  rw [he]
  rcases hA with ⟨h1, h2⟩ | ⟨h1, i, g, o, x, _, h2, _⟩
  · exact .inl ⟨h1, h2⟩
  · exact .inr ⟨h1, g, _, h2⟩

def addEE (S : WS) (o : Om) (eP : Int) : Int := if hasA S.N o.frm = false ∨ hasA S.N o.dst = false then 5 else if nm o.name = false then 6 else if eP ≠ 0 then eP else if 60 ≤ S.E.length ∨ 1099511627776 ≤ S.next then 10 else 0

set_option maxHeartbeats 16000000 in
set_option maxRecDepth 100000 in
theorem addEdge_any (O : Nat → Prop) (b : Nat) (S : WS) (o : Om) (P : List Pr) (X : List AP) (eP : Int) (B : Nat) (w : World)
    (hW : WorkIn O w b S) (hB : B ≤ w.heap.size) (hO : ∀ i, O i → B ≤ i) (hm : S.made.length ≤ 1000) (hn0 : 0 ≤ S.next) (h60 : S.N.length ≤ 60) (hri : Rise (S.N.map AN.id)) (hns : o.name.size ≤ 9223372036854775807)
    (hP : ∀ W, Below B w W → Calls Tryz.prog 110 #[.slice o.pa o.pl o.pc] W fun e w' => e = .returned (.int .i64 eP) ∧ Below W.heap.size W w')
    (hX : eP = 0 → AE.ok ⟨S.next, o.frm, o.dst, o.name, X⟩ ∧ ∀ W, Below B w W → EdIn W ⟨S.next, o.frm, o.dst, o.name, P, o.pa, o.pl, o.pc⟩ ⟨S.next, o.frm, o.dst, o.name, X⟩) :
    Calls Tryz.prog 67 #[.pointer (some ⟨b, 0, none⟩), o.val] w fun e w' => ActEnd O w w' b ⟨S.N, S.E ++ [⟨S.next, o.frm, o.dst, o.name, X⟩], S.next + 1, S.made ++ [S.next]⟩ (addEE S o eP) e := by
  obtain ⟨k, id, frm, dst, name, vk, vn, vs, va, vl, vc, la, ll, lc, pa, pl, pc⟩ := o
  simp only [Om.val] at hP hX hns ⊢
  have HP := toHid hP
  have HX := toHid hX
  have HW := toHid hW
  have HO := toHid hO
  have HRI := toHid hri
  clear hP hX hW hO hri
  obtain ⟨er, hER⟩ : ∃ z, z = addEE S ⟨k, id, frm, dst, name, vk, vn, vs, va, vl, vc, la, ll, lc, pa, pl, pc⟩ eP := ⟨_, rfl⟩
  rw [← hER]
  have HER := toHid hER
  clear hER
  have b0 : Below w.heap.size w (w.alloc (.cells #[.int .i64 k, .int .i64 id, .int .i64 frm, .int .i64 dst, .string name, .int .i64 vk, .int .i64 vn, .string vs, .slice va vl vc, .slice la ll lc, .slice pa pl pc] 65)) := (Below.refl _ _).alloc (Nat.le_refl _) _
  have q0 := alloc_new w (.cells #[.int .i64 k, .int .i64 id, .int .i64 frm, .int .i64 dst, .string name, .int .i64 vk, .int .i64 vn, .string vs, .slice va vl vc, .slice la ll lc, .slice pa pl pc] 65)
  have z0 : (w.alloc (.cells #[.int .i64 k, .int .i64 id, .int .i64 frm, .int .i64 dst, .string name, .int .i64 vk, .int .i64 vn, .string vs, .slice va vl vc, .slice la ll lc, .slice pa pl pc] 65)).heap.size = w.heap.size + 1 := by simp
  have HB0 := toHid b0
  have HQ := toHid q0
  have HZ := toHid z0
  clear b0 q0 z0
  have HS : Hid (∀ (W W' : World), W.heap[w.heap.size]? = some (.cells #[.int .i64 k, .int .i64 id, .int .i64 frm, .int .i64 dst, .string name, .int .i64 vk, .int .i64 vn, .string vs, .slice va vl vc, .slice la ll lc, .slice pa pl pc] 65 (0, 0)) → Below W.heap.size W W' → W'.cell? ⟨w.heap.size, 2, none⟩ = some (.int .i64 frm) ∧ W'.cell? ⟨w.heap.size, 3, none⟩ = some (.int .i64 dst) ∧ W'.cell? ⟨w.heap.size, 4, none⟩ = some (.string name) ∧ W'.cell? ⟨w.heap.size, 10, none⟩ = some (.slice pa pl pc)) := by
    intro W W' hq kk
    have hlt : w.heap.size < W.heap.size := (Array.getElem?_eq_some_iff.1 hq).1
    have q : ∀ o, W'.cell? ⟨w.heap.size, o, none⟩ = _ := fun o => (kk.cell (p := ⟨w.heap.size, o, none⟩) hlt).trans (cell_of hq o)
    exact ⟨q 2, q 3, q 4, q 10⟩
  have HNODE : Hid (∀ t W, Below w.heap.size w W → Calls Tryz.prog 117 #[.pointer (some ⟨b, 0, none⟩), .int .i64 t] W fun e w' => PtrEnd (hasA S.N t) e ∧ Below W.heap.size W w') := fun t W kW => wnode_in O b S t W (HW.out.below kW) h60 HRI.out
  have HYtdlmlpddkfnfmaaGreatDoor : Hid (∀ W, Calls Tryz.prog 112 #[.string name] W fun e w' => e = .returned (.bool (nm name)) ∧ Below W.heap.size W w') := fun W => name_any name W hns
  go_enter Tryz.func67, Tryz.ntmps67
  go_wp2_with fail
  refine (HNODE.out _ _ HB0.out).mono ?_
  generalize w.alloc (.cells #[.int .i64 k, .int .i64 id, .int .i64 frm, .int .i64 dst, .string name, .int .i64 vk, .int .i64 vn, .string vs, .slice va vl vc, .slice la ll lc, .slice pa pl pc] 65) = W at HB0 HQ HZ ⊢
  rintro e w1 ⟨hA, k1⟩
  have HK1 := toHid (HB0.out.trans (k1.mono HB0.out.size))
  have HQ1 := toHid ((k1.block w.heap.size (by rw [HZ.out]; omega)).trans HQ.out)
  have s1 : w.heap.size + 1 ≤ w1.heap.size := by have := k1.size; rw [HZ.out] at this; exact this
  obtain ⟨v2, v3, v4, v10⟩ := HS.out w1 w1 HQ1.out (Below.refl _ _)
  clear k1 HB0 HQ HZ
  rcases hA with ⟨h1, rfl⟩ | ⟨h1, g, go, rfl⟩
  · have H1 := toHid h1
    clear h1
    go_wp2_with fail
    go_ret
    have hE : er = 5 := by rw [HER.out, addEE, if_pos (.inl H1.out)]
    exact ⟨by rw [hE]; rfl, Rest.of_below HK1.out, fun h => by rw [hE] at h; cases h⟩
  have H1 := toHid h1
  clear h1
  go_wp2_with fail
  refine (HNODE.out _ _ HK1.out).mono ?_
  rintro e w2 ⟨hA, k2⟩
  have HK2 := toHid (HK1.out.trans (k2.mono HK1.out.size))
  have HQ2 := toHid ((k2.block w.heap.size (by omega)).trans HQ1.out)
  have s2 : w.heap.size + 1 ≤ w2.heap.size := Nat.le_trans s1 k2.size
  clear v2 v3 v4 v10 k2 HK1 HQ1 s1
  obtain ⟨v2, v3, v4, v10⟩ := HS.out w2 w2 HQ2.out (Below.refl _ _)
  rcases hA with ⟨h1, rfl⟩ | ⟨h1, g, go, rfl⟩
  · have H2 := toHid h1
    clear h1
    go_wp2_with fail
    go_ret
    have hE : er = 5 := by rw [HER.out, addEE, if_pos (.inr H2.out)]
    exact ⟨by rw [hE]; rfl, Rest.of_below HK2.out, fun h => by rw [hE] at h; cases h⟩
  have H2 := toHid h1
  clear h1
  go_wp2_with fail
  refine (HYtdlmlpddkfnfmaaGreatDoor.out _).mono ?_
  rintro e w3 ⟨rfl, k3⟩
  have HK3 := toHid (HK2.out.trans (k3.mono HK2.out.size))
  have HQ3 := toHid ((k3.block w.heap.size (by omega)).trans HQ2.out)
  have s3 : w.heap.size + 1 ≤ w3.heap.size := Nat.le_trans s2 k3.size
  clear v2 v3 v4 v10 k3 HK2 HQ2 s2
  obtain ⟨v2, v3, v4, v10⟩ := HS.out w3 w3 HQ3.out (Below.refl _ _)
  have hno : ¬ (hasA S.N frm = false ∨ hasA S.N dst = false) := by
    rintro (h | h)
    · rw [H1.out] at h; cases h
    · rw [H2.out] at h; cases h
  have HNO := toHid hno
  clear hno
  cases hnm : nm name with
  | false =>
    go_wp2_with fail
    go_ret
    have hE : er = 6 := by rw [HER.out, addEE, if_neg HNO.out, if_pos hnm]
    exact ⟨by rw [hE]; rfl, Rest.of_below HK3.out, fun h => by rw [hE] at h; cases h⟩
  | true =>
  have HNM := toHid hnm
  go_wp2_with fail
  refine (HP.out _ (HK3.out.mono hB)).mono ?_
  rintro e w4 ⟨rfl, k4⟩
  have HK4 := toHid (HK3.out.trans (k4.mono HK3.out.size))
  have HQ4 := toHid ((k4.block w.heap.size (by omega)).trans HQ3.out)
  have s4 : w.heap.size + 1 ≤ w4.heap.size := Nat.le_trans s3 k4.size
  clear v2 v3 v4 v10 k4 HK3 HQ3 s3
  obtain ⟨v2, v3, v4, v10⟩ := HS.out w4 w4 HQ4.out (Below.refl _ _)
  have HWC := toHid (HW.out.below HK4.out)
  by_cases hz : eP = 0
  · subst hz
    have HX0 := toHid (HX.out rfl)
    obtain ⟨na, nc, ea, ec, ma, mc, PN, PE, PM, hw⟩ := HWC.out
    obtain ⟨el, hel⟩ : ∃ z, z = S.E.length := ⟨_, rfl⟩
    obtain ⟨nx, hnx⟩ : ∃ z, z = S.next := ⟨_, rfl⟩
    have hblk := hw.blk
    rw [← hel, ← hnx] at hblk
    have c0 := cell_of hblk 1
    simp at c0
    have HNL := toHid hel
    have HNX := toHid hnx
    rw [← hnx] at hn0
    have HFULL : Hid (Calls Tryz.prog 115 #[.pointer (some ⟨b, 0, none⟩)] w4 fun e w' => e = .returned (.bool (decide (1099511627776 ≤ nx))) ∧ w' = w4) := full_any b _ _ _ nx w4 hblk
    clear hblk hel hnx hw
    by_cases h40 : 60 ≤ el
    · have h40i : (60 : Int) ≤ el := by omega
      go_wp2_with fail
      go_ret
      have hE : er = 10 := by rw [HER.out, addEE, if_neg HNO.out, if_neg (by simp only; rw [HNM.out]; decide), if_neg (by simp), if_pos (.inl (by rw [← HNL.out]; exact h40))]
      exact ⟨by rw [hE]; rfl, Rest.of_below HK4.out, fun h => by rw [hE] at h; cases h⟩
    · have h40i : ¬ ((60 : Int) ≤ el) := by omega
      go_wp2_with fail
      refine HFULL.out.mono ?_
      rintro e w4 ⟨rfl, rfl⟩
      by_cases hfl : 1099511627776 ≤ nx
      · have hd : decide (1099511627776 ≤ nx) = true := by simp [hfl]
        go_wp2_with fail
        go_ret
        have hE : er = 10 := by rw [HER.out, addEE, if_neg HNO.out, if_neg (by simp only; rw [HNM.out]; decide), if_neg (by simp), if_pos (.inr (by rw [← HNX.out]; exact hfl))]
        exact ⟨by rw [hE]; rfl, Rest.of_below HK4.out, fun h => by rw [hE] at h; cases h⟩
      · have hd : decide (1099511627776 ≤ nx) = false := by simp [hfl]
        have hE : er = 0 := by
          rw [HER.out, addEE, if_neg HNO.out, if_neg (by simp only; rw [HNM.out]; decide), if_neg (by simp), if_neg]
          rintro (h | h)
          · rw [← HNL.out] at h; exact h40 h
          · rw [← HNX.out] at h; exact hfl h
        have HE0 := toHid hE
        clear hE
        have HNUM : Hid (∀ W, Below w4.heap.size w4 W → Calls Tryz.prog 116 #[.pointer (some ⟨b, 0, none⟩)] W fun e w' => e = .returned (.int .i64 nx) ∧ StepEnd O W w' b S.numbered) := fun W kW => by
          rw [HNX.out]
          exact number_any O b S W (HWC.out.below kW) hm (by rw [← HNX.out]; exact hn0) (by rw [← HNX.out]; omega)
        go_upto_region 10 with fail
        have D6 : Below w4.heap.size w4 w4.drew := (Below.refl _ _).drew
        have R0 : Rest O w4 w4.drew := Rest.of_below D6
        have nO : ¬ O w4.heap.size := fun q => Nat.lt_irrefl _ (HWC.out.lts _ q)
        have HSR : Hid (∀ W', Rest O w4 W' → W'.cell? ⟨w.heap.size, 2, none⟩ = some (.int .i64 frm) ∧ W'.cell? ⟨w.heap.size, 3, none⟩ = some (.int .i64 dst) ∧ W'.cell? ⟨w.heap.size, 4, none⟩ = some (.string name) ∧ W'.cell? ⟨w.heap.size, 10, none⟩ = some (.slice pa pl pc)) := fun W' r => by
          have hq : W'.heap[w.heap.size]? = w4.heap[w.heap.size]? := r.block _ (by omega) (fun q => Nat.lt_irrefl _ (HW.out.lts _ q))
          exact ⟨(cell_same hq 2).trans v2, (cell_same hq 3).trans v3, (cell_same hq 4).trans v4, (cell_same hq 10).trans v10⟩
        go_cut [6] (fun s6 wx => BoxCut O w4 b S.numbered #[.int .i64 nx, .int .i64 frm, .int .i64 dst, .string name, .slice pa pl pc] 53 s6 wx)
        case first =>
          go_region_held3 (fun w' => w'.cell? ⟨w.heap.size, 2, none⟩ = some (.int .i64 frm) ∧ w'.cell? ⟨w.heap.size, 3, none⟩ = some (.int .i64 dst) ∧ w'.cell? ⟨w.heap.size, 4, none⟩ = some (.string name) ∧ w'.cell? ⟨w.heap.size, 10, none⟩ = some (.slice pa pl pc))
            (first
              | with_reducible exact HSR.out _ R1
              | with_reducible exact HSR.out _ R0
              | with_reducible exact HSR.out _ (R0.alloc _)
              | with_reducible exact HSR.out _ (R1.alloc _)
              | exact HSR.out _ (((((R1.set ⟨w4.heap.size, 0, none⟩ (Nat.le_refl _) _).set ⟨w4.heap.size, 1, none⟩ (Nat.le_refl _) _).set ⟨w4.heap.size, 2, none⟩ (Nat.le_refl _) _).set ⟨w4.heap.size, 3, none⟩ (Nat.le_refl _) _).set ⟨w4.heap.size, 4, none⟩ (Nat.le_refl _) _)
              | go_keep)
            (first
              | (go_at_call 116; refine (HNUM.out _ (by first | exact D6 | exact D6.alloc (Nat.le_refl _) _)).mono ?_; rintro e u1 ⟨rfl, h1⟩; have R1 : Rest O w4 u1 := (by first | exact R0.trans h1.2 (fun _ _ q => q) | exact (R0.alloc _).trans h1.2 (fun _ _ q => q)); try (have hp := (h1.far (i := w4.heap.size) (by simp) nO).trans (alloc_new w4.drew _); have p0 := cell_of hp 0; have p1 := cell_of hp 1; have p2 := cell_of hp 2; have p3 := cell_of hp 3; have p4 := cell_of hp 4; have f0 := free_of hp 0; have f1 := free_of hp 1; have f2 := free_of hp 2; have f3 := free_of hp 3; have f4 := free_of hp 4; simp at p0 p1 p2 p3 p4)))
          all_goals
            go_wp2_with fail
            go_meet
            first
              | exact boxA h1 _ _
              | exact boxB HWC.out.lts h1 [.int .i64 nx, .int .i64 frm, .int .i64 dst, .string name, .slice pa pl pc] _ rfl
        case rest =>
          obtain ⟨p, O1, rfl, hp, hnp, hw1, hr1, ho1⟩ := hcut
          have HW1 := toHid hw1
          have HR1 := toHid hr1
          have HO1 := toHid ho1
          obtain ⟨na1, nc1, ea1, ec1, ma1, mc1, PN1, PE1, PM1, hwa⟩ := hw1
          obtain ⟨hob, L, hrow, hpair⟩ := hwa.es
          have hll : L.length = S.E.length := hpair.1
          have hblk1 : wc.heap[b]? = some (.cells #[.slice na1 S.N.length nc1, .slice ea1 S.E.length ec1, .int .i64 (S.next + 1), .slice ma1 (S.made ++ [S.next]).length mc1] 69 (0, 0)) := hwa.blk
          have hrow' : wc.ownsRow 0 53 5 (.slice ea1 S.E.length ec1) S.E.length (rowX L) := by
            have := hrow
            rw [hll] at this
            exact this
          have hbl : b < wc.heap.size := hwa.lt b hwa.ob
          have hgb : ∀ g, (Value.slice ea1 S.E.length ec1).ownBlock = some g → g ≠ b := fun g hg => (hwa.pe g (hob g hg)).2.1
          rw [← HNL.out] at hblk1 hrow' hgb
          have HBLK1 := toHid hblk1
          have HROW := toHid hrow'
          have HGB := toHid hgb
          have HPAIR := toHid hpair
          have HWA := toHid hwa
          have p0 := cell_of hp 0
          have p1 := cell_of hp 1
          have p2 := cell_of hp 2
          have p3 := cell_of hp 3
          have p4 := cell_of hp 4
          simp at p0 p1 p2 p3 p4
          have HND : Hid (∀ W, Below wc.heap.size wc W → Calls Tryz.prog 65 #[.agg #[.int .i64 nx, .int .i64 frm, .int .i64 dst, .string name, .slice pa pl pc]] W fun e w' => (∃ y : Ed, e = .returned (.agg #[.int .i64 y.id, .int .i64 y.frm, .int .i64 y.dst, .string y.typ, .slice y.pa y.pl y.pc]) ∧ EdOwn (fun i => W.heap.size ≤ i) w' y ⟨nx, frm, dst, name, X⟩) ∧ Below W.heap.size W w') := fun W kW => by
            have hx := HX0.out
            rw [HNX.out]
            have k1 : Below B w W := ((HK4.out.mono hB).trans (HR1.out.below (Nat.le_trans hB HK4.out.size) HO.out)).trans (kW.mono (Nat.le_trans hB (Nat.le_trans HK4.out.size HR1.out.size)))
            exact (edge_any ⟨S.next, frm, dst, name, P, pa, pl, pc⟩ ⟨S.next, frm, dst, name, X⟩ W (hx.2 W k1) hx.1).mono fun e w' ⟨⟨y, he, hy⟩, kk⟩ => ⟨⟨y, he, hy⟩, kk⟩
          obtain ⟨i0, hi0, hiz, his, hib⟩ := info_Edge
          have HI0 := toHid hi0
          have HIZ := toHid hiz
          have HIS := toHid his
          have HIB := toHid hib
          have HBy : (el + 1) * 64 ≤ 140737488355328 := by omega
          have HBm : el + 1 ≤ maxLen := by unfold maxLen; omega
          clear hi0 hiz his hib hp hnp hr1 ho1 hob hrow hpair hll hblk1 hrow' hgb hwa HSR nO R0 D6 v2 v3 v4 v10 c0 HNUM HFULL
          have c0 := cell_of HBLK1.out 1
          simp at c0
          have D7 : Below wc.heap.size wc wc.drew := (Below.refl _ _).drew
          go_upto_region 11 with fail
          go_region_law (first
            | (refine step_append_lies _ (by rfl) _ _ _ (by rfl) 0 53 i0 _ 5 64 Tryz.underlying23 HI0.out HIZ.out HIS.out HIB.out rfl (by omega) (.slice ea1 el ec1) el (rowX L) (by rfl) (hown2.alloc _) ⟨u2.heap.size, 0, none⟩ 1 1 [.int .i64 y.id, .int .i64 y.frm, .int .i64 y.dst, .string y.typ, .slice y.pa y.pl y.pc] (by rfl) (by rfl) (World.news_of_block (cs := #[.int .i64 y.id, .int .i64 y.frm, .int .i64 y.dst, .string y.typ, .slice y.pa y.pl y.pc]) (t := 53) (fr := (0, 0)) (alloc_new u2 _)) (by simp [Value.oneCell']) (by omega) HBm HBy (Nat.zero_le _) (u2.heap.size + 1) (by simp) ?_; intro gg cap w5 hown5 hgrow hat5 hlt5
               have hb5 : w5.heap[b]? = some (.cells #[.slice na1 S.N.length nc1, .slice ea1 el ec1, .int .i64 (S.next + 1), .slice ma1 (S.made ++ [S.next]).length mc1] 69 (0, 0)) := by
                 rw [hgrow.block b (by simp; omega) (fun e => HGB.out b e.symm rfl), Below.heap_alloc u2 _ b (by omega), k2.block b hbl]
                 exact HBLK1.out
               have d0 := cell_of hb5 1
               have f5 := free_of hb5 1
               simp at d0
               clear hb5)
            | (go_simp
               go_at_call 65
               refine (HND.out _ D7).mono ?_
               rintro e u2 ⟨⟨y, rfl, hy⟩, h2⟩
               have k2 : Below wc.heap.size wc u2 := D7.trans h2
               have hs2 : wc.heap.size ≤ u2.heap.size := k2.size
               have c0' : u2.cell? ⟨b, 1, none⟩ = some (.slice ea1 el ec1) := (k2.cell (p := ⟨b, 1, none⟩) hbl).trans c0
               have c0'' : ∀ o, (u2.alloc o).cell? ⟨b, 1, none⟩ = some (.slice ea1 el ec1) := fun o => by rw [cell_past _ _ _ _ (by omega)]; exact c0'
               have hown2 : u2.ownsRow 0 53 5 (.slice ea1 el ec1) el (rowX L) := row_keep HROW.out fun g _ hl => k2.block g hl))
          all_goals
            go_wp2_with fail
            go_ret
            have hnl := HNL.out
            have hnx := HNX.out
            subst hnl hnx
            have hst := BoxCut.step HW.out HK4.out HW.out.lts HR1.out HW1.out HO1.out (HWA.out.putE k2 hy _ HROW.out HPAIR.out hgrow hown5 hat5 hlt5)
            exact ⟨by rw [HE0.out]; rfl, hst.2, fun _ => hst⟩
  · have hz' : (eP != 0) = true := by simp [hz]
    go_wp2_with fail
    go_ret
    have hE : er = eP := by rw [HER.out, addEE, if_neg HNO.out, if_neg (by simp only; rw [HNM.out]; decide), if_pos hz]
    exact ⟨by rw [hE]; rfl, Rest.of_below HK4.out, fun h => absurd (hE ▸ h) hz⟩

def anK : List AN := [⟨1, [⟨#[65]⟩], [⟨⟨#[110]⟩, .node 2 5 ⟨#[]⟩ []⟩]⟩, ⟨2, [], []⟩]
def aeK : List AE := [⟨3, 1, 2, ⟨#[75]⟩, []⟩]

theorem prK_in (w : World) : PrIn AnyB w prK ⟨⟨#[110]⟩, .node 2 5 ⟨#[]⟩ []⟩ := ⟨rfl, by decide, by decide, Nat.le_refl _, [], rfl, by unfold LieA; rfl⟩

theorem pair_one {α β : Type} {R : α → β → Prop} {p : α} {x : β} (h : R p x) : Pair2 R [p] [x] := Pair2.snoc (P := []) (L := []) Pair2.nil h

theorem KnowsAt.ns {w : World} {lb pb nb eb : Nat} (h : KnowsAt w lb pb nb eb) : NsAt w anK (some ⟨nb, 0, none⟩) 2 := by
  refine ⟨ndsK lb pb, h.nodes, ?_⟩
  exact Pair2.snoc (pair_one ⟨rfl, rfl, h.strs, h.props, pair_one (prK_in w)⟩) ⟨rfl, rfl, strs_none _ _, props_none _ _, Pair2.nil⟩

theorem KnowsAt.es {w : World} {lb pb nb eb : Nat} (h : KnowsAt w lb pb nb eb) : EsAt w aeK (some ⟨eb, 0, none⟩) 1 :=
  ⟨edsK, h.edges, pair_one ⟨rfl, rfl, rfl, rfl, by decide, props_none _ _, Pair2.nil⟩⟩

theorem anK_ok : ∀ x ∈ anK, x.ok := by
  intro x hx
  rcases List.mem_cons.1 hx with rfl | hx
  · refine ⟨by decide, by decide, fun p hp => ?_⟩
    obtain rfl := List.mem_singleton.1 hp
    show wtT _ ≤ _
    decide
  · obtain rfl := List.mem_singleton.1 hx
    exact ⟨by decide, by decide, fun p hp => by cases hp⟩

theorem aeK_ok : ∀ x ∈ aeK, x.ok := by
  intro x hx
  obtain rfl := List.mem_singleton.1 hx
  exact ⟨by decide, fun p hp => by cases hp⟩

/-- What the work is, operation by operation. -/
def SfK : Nat → WS
  | 0 => ⟨anK, aeK, 4, []⟩
  | 1 => ⟨anK ++ [⟨4, [⟨#[66]⟩], []⟩], aeK, 5, [4]⟩
  | _ => ⟨anK ++ [⟨4, [⟨#[66]⟩], []⟩], aeK ++ [⟨5, 1, 4, ⟨#[75]⟩, []⟩], 6, [4, 5]⟩

def opsK (lb : Nat) : List Om := [⟨1, 0, 0, 0, ⟨#[]⟩, 0, 0, ⟨#[]⟩, none, 0, 0, some ⟨lb, 0, none⟩, 1, 1, none, 0, 0⟩, ⟨2, 0, 1, -1, ⟨#[75]⟩, 0, 0, ⟨#[]⟩, none, 0, 0, none, 0, 0, none, 0, 0⟩]

theorem strs_B {w : World} {lb : Nat} (h : w.heap[lb]? = some (.cells #[.string ⟨#[66]⟩] 9 (0, 0))) : StrsAt w [⟨#[66]⟩] (some ⟨lb, 0, none⟩) 1 := by
  refine ⟨rfl, by omega, fun _ => ⟨lb, 0, rfl, lt_of_some h, fun i s hs => ?_⟩⟩
  cases i with
  | zero =>
    simp at hs
    subst hs
    exact ⟨by decide, cell_of h 0⟩
  | succ i => simp at hs

theorem labs_B : labsE [⟨#[66]⟩] = 0 := by
  have h1 : nm ⟨#[66]⟩ = true := by decide
  have h2 : leS ⟨#[66]⟩ ⟨#[]⟩ = false := by rw [leS_lit]; decide
  simp [labsE, labE, h1, h2]

theorem prs_0 : prsE [] = 0 := by simp [prsE, prE]

theorem ops_at {w : World} {lb ob : Nat} (h : w.heap[ob]? = some (.cells #[.int .i64 1, .int .i64 0, .int .i64 0, .int .i64 0, .string ⟨#[]⟩, .int .i64 0, .int .i64 0, .string ⟨#[]⟩, .slice none 0 0, .slice (some ⟨lb, 0, none⟩) 1 1, .slice none 0 0, .int .i64 2, .int .i64 0, .int .i64 1, .int .i64 (-1), .string ⟨#[75]⟩, .int .i64 0, .int .i64 0, .string ⟨#[]⟩, .slice none 0 0, .slice none 0 0, .slice none 0 0] 65 (0, 0))) : OpsAt w (opsK lb) (some ⟨ob, 0, none⟩) 2 := by
  refine ⟨rfl, by omega, fun _ => ⟨ob, 0, rfl, lt_of_some h, fun i o ho => ?_⟩⟩
  match i, ho with
  | 0, ho =>
    simp [opsK] at ho
    subst ho
    exact ⟨cell_of h 0, cell_of h 1, cell_of h 2, cell_of h 3, cell_of h 4, cell_of h 5, cell_of h 6, cell_of h 7, cell_of h 8, cell_of h 9, cell_of h 10⟩
  | 1, ho =>
    simp [opsK] at ho
    subst ho
    exact ⟨cell_of h 11, cell_of h 12, cell_of h 13, cell_of h 14, cell_of h 15, cell_of h 16, cell_of h 17, cell_of h 18, cell_of h 19, cell_of h 20, cell_of h 21⟩
  | i + 2, ho => simp [opsK] at ho

theorem rise_K : Rise ((SfK 1).N.map AN.id) := by
  intro i j x y hij hx hy
  have e : (SfK 1).N.map AN.id = [1, 2, 4] := rfl
  rw [e] at hx hy
  match i, j, hij, hx, hy with
  | 0, 1, _, hx, hy => simp at hx hy; omega
  | 0, 2, _, hx, hy => simp at hx hy; omega
  | 1, 2, _, hx, hy => simp at hx hy; omega
  | i, j + 3, _, hx, hy => simp at hy
  | i + 2, 2, h, hx, hy => omega
  | i + 1, 1, h, hx, hy => omega
  | i, 0, h, hx, hy => omega

theorem step_K (w : World) {lb : Nat} (hl : w.heap[lb]? = some (.cells #[.string ⟨#[66]⟩] 9 (0, 0))) (i : Nat) (o : Om) (ho : (opsK lb)[i]? = some o) (O : Nat → Prop) (b : Nat) (W : World) (hW : WorkIn O W b (SfK i)) (hO : ∀ j, O j → w.heap.size ≤ j) (k : Below w.heap.size w W) :
    Calls Tryz.prog 32 #[.pointer (some ⟨b, 0, none⟩), .agg #[.int .i64 o.k, .int .i64 o.id, .int .i64 o.frm, .int .i64 o.dst, .string o.name, .int .i64 o.vk, .int .i64 o.vn, .string o.vs, .slice o.va o.vl o.vc, .slice o.la o.ll o.lc, .slice o.pa o.pl o.pc]] W fun e w' => ActEnd O W w' b (SfK (i + 1)) 0 e := by
  match i, ho, hW with
  | 0, ho, hW =>
    simp [opsK] at ho
    subst ho
    refine do_of 1 66 (.inl ⟨rfl, rfl⟩) O b (SfK 0) (SfK 1) 0 0 0 ⟨#[]⟩ 0 0 ⟨#[]⟩ none 0 0 (some ⟨lb, 0, none⟩) 1 1 none 0 0 0 W hW (by decide) (by omega) (by omega) (by omega) (fun V kV => ?_)
    have k0 : ∀ U, Below w.heap.size V U → Below w.heap.size w U := fun U kU => (k.trans (kV.mono k.size)).trans kU
    have := addNode_any O b (SfK 0) ⟨1, 0, 0, 0, ⟨#[]⟩, 0, 0, ⟨#[]⟩, none, 0, 0, some ⟨lb, 0, none⟩, 1, 1, none, 0, 0⟩ [⟨#[66]⟩] [] [] 0 0 0 w.heap.size V (hW.below kV) (Nat.le_trans k.size kV.size) hO (by decide) (by decide)
      (fun U kU => by have := labels_of name_any [⟨#[66]⟩] (some ⟨lb, 0, none⟩) 1 1 U ((strs_B hl).below (k0 U kU)); rw [labs_B] at this; exact this)
      (fun U kU => by have := props_E U none 0; rw [prs_0] at this; exact this) rfl
      (fun _ => ⟨⟨by decide, by decide, fun p hp => by cases hp⟩, fun U kU => ⟨rfl, rfl, (strs_B hl).below (k0 U kU), props_none _ _, Pair2.nil⟩⟩)
    have e : addNE (SfK 0) 0 = 0 := by decide
    rw [e] at this
    exact this
  | 1, ho, hW =>
    simp [opsK] at ho
    subst ho
    refine do_of 2 67 (.inr (.inl ⟨rfl, rfl⟩)) O b (SfK 1) (SfK 2) 0 1 (-1) ⟨#[75]⟩ 0 0 ⟨#[]⟩ none 0 0 none 0 0 none 0 0 0 W hW (by decide) (by omega) (by omega) (by omega) (fun V kV => ?_)
    have := addEdge_any O b (SfK 1) ⟨2, 0, 1, 4, ⟨#[75]⟩, 0, 0, ⟨#[]⟩, none, 0, 0, none, 0, 0, none, 0, 0⟩ [] [] 0 w.heap.size V (hW.below kV) (Nat.le_trans k.size kV.size) hO (by decide) (by decide) (by decide) rise_K (by decide)
      (fun U kU => by have := props_E U none 0; rw [prs_0] at this; exact this)
      (fun _ => ⟨⟨by decide, fun p hp => by cases hp⟩, fun U kU => ⟨rfl, rfl, rfl, rfl, by decide, props_none _ _, Pair2.nil⟩⟩)
    have e : addEE (SfK 1) ⟨2, 0, 1, 4, ⟨#[75]⟩, 0, 0, ⟨#[]⟩, none, 0, 0, none, 0, 0, none, 0, 0⟩ 0 = 0 := by decide
    rw [e] at this
    exact this
  | i + 2, ho, hW => simp [opsK] at ho

theorem ints45 (w : World) : IntsAt (w.alloc (.cells #[.int .i64 4, .int .i64 5] 3)) [4, 5] (some ⟨w.heap.size, 0, none⟩) 2 := by
  refine ⟨rfl, by omega, fun _ => ⟨w.heap.size, 0, rfl, by simp, fun i s hs => ?_⟩⟩
  match i, hs with
  | 0, hs =>
    simp at hs
    subst hs
    exact cell_of (alloc_new w _) 0
  | 1, hs =>
    simp at hs
    subst hs
    exact cell_of (alloc_new w _) 1
  | i + 2, hs => simp at hs

theorem apply_K {w : World} {lb pb nb eb lb2 ob : Nat} (h : KnowsAt w lb pb nb eb) (hl : w.heap[lb2]? = some (.cells #[.string ⟨#[66]⟩] 9 (0, 0))) (ho : OpsAt w (opsK lb2) (some ⟨ob, 0, none⟩) 2) :
    Calls Tryz.prog 10 #[.agg #[.slice (some ⟨nb, 0, none⟩) 2 2, .slice (some ⟨eb, 0, none⟩) 1 1, .int .i64 4], .slice (some ⟨ob, 0, none⟩) 2 2] w fun e w' => (∃ na nc eb off ec ma mc, e = .returned (.tuple #[.agg #[.slice na 3 nc, .slice (some ⟨eb, off, none⟩) 2 ec, .int .i64 6], .slice ma 2 mc, .int .i64 0, .int .i64 0]) ∧ eb < w'.heap.size ∧ w'.cell? ⟨eb, off + 5 + 1 + 1, none⟩ = some (.int .i64 4) ∧ IntsAt w' [4, 5] ma 2) ∧ Below w.heap.size w w' := by
  refine (apply_of anK aeK 4 (some ⟨nb, 0, none⟩) 2 2 (some ⟨eb, 0, none⟩) 1 1 (opsK lb2) (some ⟨ob, 0, none⟩) 2 2 (fun _ => 0) SfK w (fun W k => check_K (h.below k)) h.ns h.es (by omega) (by omega) anK_ok aeK_ok ho (by omega) rfl (fun i => ?_) (fun i o hi _ O b W hW hO k => step_K w hl i o hi O b W hW hO k)).mono ?_
  · match i with
    | 0 => decide
    | 1 => decide
    | i + 2 => show ([4, 5] : List Int).length ≤ _; decide
  rintro e w' ⟨hA, k⟩
  refine ⟨?_, k⟩
  rcases hA with ⟨i, _, _, h0, _⟩ | ⟨_, na, nc, ea, ec, ma, mc, rfl, _, _, _, ⟨E, hE, hp⟩, hi⟩
  · exact absurd rfl h0
  · obtain ⟨eb, off, rfl, hb, hc⟩ := hE.2.2 (by decide)
    obtain ⟨x, hx, hxe⟩ := hp.right (i := 1) (x := ⟨5, 1, 4, ⟨#[75]⟩, []⟩) rfl
    have c := (hc 1 x hx).2.2.2.1
    rw [hxe.2.2.1] at c
    exact ⟨na, nc, eb, off, ec, ma, mc, rfl, hb, by simpa using c, hi⟩

theorem equal45 (a : Option Addr) (c b : Nat) (w : World) (h : IntsAt w [4, 5] a 2) (h' : IntsAt w [4, 5] (some ⟨b, 0, none⟩) 2) : Calls Tryz.prog 17 #[.slice a 2 c, .slice (some ⟨b, 0, none⟩) 2 2] w fun e w' => e = .returned (.bool true) ∧ Below w.heap.size w w' :=
  equal_ints [4, 5] [4, 5] a 2 c (some ⟨b, 0, none⟩) 2 2 w h h'

set_option maxHeartbeats 8000000 in
set_option maxRecDepth 100000 in
theorem changed_true (w : World) : Calls Tryz.prog 11 #[] w fun e w' => e = .returned (.bool true) ∧ Below w.heap.size w w' := by
  go_enter Tryz.func11, Tryz.ntmps11
  go_wp2_with fail
  refine (knows_any w).mono ?_
  rintro e w1 ⟨⟨lb, pb, nb, eb, rfl, hk⟩, k1⟩
  have b1 : Below w1.heap.size w1 ((w1.alloc (.cells #[.string ⟨#[66]⟩] 9)).alloc (.cells #[.int .i64 1, .int .i64 0, .int .i64 0, .int .i64 0, .string ⟨#[]⟩, .int .i64 0, .int .i64 0, .string ⟨#[]⟩, .slice none 0 0, .slice (some ⟨w1.heap.size, 0, none⟩) 1 1, .slice none 0 0, .int .i64 2, .int .i64 0, .int .i64 1, .int .i64 (-1), .string ⟨#[75]⟩, .int .i64 0, .int .i64 0, .string ⟨#[]⟩, .slice none 0 0, .slice none 0 0, .slice none 0 0] 65)) := ((Below.refl _ _).alloc (Nat.le_refl _) _).alloc (by simp) _
  have hl := (Below.heap_alloc (w1.alloc (.cells #[.string ⟨#[66]⟩] 9)) (.cells #[.int .i64 1, .int .i64 0, .int .i64 0, .int .i64 0, .string ⟨#[]⟩, .int .i64 0, .int .i64 0, .string ⟨#[]⟩, .slice none 0 0, .slice (some ⟨w1.heap.size, 0, none⟩) 1 1, .slice none 0 0, .int .i64 2, .int .i64 0, .int .i64 1, .int .i64 (-1), .string ⟨#[75]⟩, .int .i64 0, .int .i64 0, .string ⟨#[]⟩, .slice none 0 0, .slice none 0 0, .slice none 0 0] 65) w1.heap.size (by simp)).trans (alloc_new w1 (.cells #[.string ⟨#[66]⟩] 9))
  have ho := ops_at (alloc_two w1 (.cells #[.string ⟨#[66]⟩] 9) (.cells #[.int .i64 1, .int .i64 0, .int .i64 0, .int .i64 0, .string ⟨#[]⟩, .int .i64 0, .int .i64 0, .string ⟨#[]⟩, .slice none 0 0, .slice (some ⟨w1.heap.size, 0, none⟩) 1 1, .slice none 0 0, .int .i64 2, .int .i64 0, .int .i64 1, .int .i64 (-1), .string ⟨#[75]⟩, .int .i64 0, .int .i64 0, .string ⟨#[]⟩, .slice none 0 0, .slice none 0 0, .slice none 0 0] 65))
  have HAP := toHid (apply_K (hk.below b1) hl ho)
  have HB1 := toHid (below3 k1 k1.size b1)
  clear hk k1 b1 hl ho
  go_wp2_with fail
  refine HAP.out.mono ?_
  clear HAP
  generalize ((w1.alloc (.cells #[.string ⟨#[66]⟩] 9)).alloc (.cells #[.int .i64 1, .int .i64 0, .int .i64 0, .int .i64 0, .string ⟨#[]⟩, .int .i64 0, .int .i64 0, .string ⟨#[]⟩, .slice none 0 0, .slice (some ⟨w1.heap.size, 0, none⟩) 1 1, .slice none 0 0, .int .i64 2, .int .i64 0, .int .i64 1, .int .i64 (-1), .string ⟨#[75]⟩, .int .i64 0, .int .i64 0, .string ⟨#[]⟩, .slice none 0 0, .slice none 0 0, .slice none 0 0] 65)) = W1 at HB1 ⊢
  generalize w1.heap.size = m1 at ⊢
  rintro e w3 ⟨⟨na, nc, eb2, off, ec, ma, mc, rfl, heb, hc, hi⟩, k3⟩
  have HB3 := toHid (below3 HB1.out HB1.out.size k3)
  have b4 : Below w3.heap.size w3 ((w3.alloc (.cells #[.slice na 3 nc, .slice (some ⟨eb2, off, none⟩) 2 ec, .int .i64 6] 25)).alloc (.cells #[.int .i64 4, .int .i64 5] 3)) := ((Below.refl _ _).alloc (Nat.le_refl _) _).alloc (by simp) _
  have HE := toHid (equal45 ma mc (w3.heap.size + 1) ((w3.alloc (.cells #[.slice na 3 nc, .slice (some ⟨eb2, off, none⟩) 2 ec, .int .i64 6] 25)).alloc (.cells #[.int .i64 4, .int .i64 5] 3)) (hi.below b4) (by have := ints45 (w3.alloc (.cells #[.slice na 3 nc, .slice (some ⟨eb2, off, none⟩) 2 ec, .int .i64 6] 25)); simpa using this))
  have hg := (Below.heap_alloc (w3.alloc (.cells #[.slice na 3 nc, .slice (some ⟨eb2, off, none⟩) 2 ec, .int .i64 6] 25)) (.cells #[.int .i64 4, .int .i64 5] 3) w3.heap.size (by simp)).trans (alloc_new w3 (.cells #[.slice na 3 nc, .slice (some ⟨eb2, off, none⟩) 2 ec, .int .i64 6] 25))
  have hz : ((w3.alloc (.cells #[.slice na 3 nc, .slice (some ⟨eb2, off, none⟩) 2 ec, .int .i64 6] 25)).alloc (.cells #[.int .i64 4, .int .i64 5] 3)).heap.size = w3.heap.size + 2 := by simp
  have hc4 := (b4.cell (p := ⟨eb2, off + 5 + 1 + 1, none⟩) heb).trans hc
  have HB4 := toHid (below3 HB3.out HB3.out.size b4)
  have HG := toHid hg
  have HZ := toHid hz
  have HC4 := toHid hc4
  clear hi hc k3 b4 hg hz hc4 HB1 HB3
  go_wp2_with fail
  refine HE.out.mono ?_
  clear HE
  generalize ((w3.alloc (.cells #[.slice na 3 nc, .slice (some ⟨eb2, off, none⟩) 2 ec, .int .i64 6] 25)).alloc (.cells #[.int .i64 4, .int .i64 5] 3)) = W3 at HB4 HG HZ HC4 ⊢
  rintro e w4 ⟨rfl, k4⟩
  have h4 := (k4.block w3.heap.size (by rw [HZ.out]; omega)).trans HG.out
  have x1 := cell_of h4 1
  have x2 := cell_of h4 2
  have y4 := (k4.cell (p := ⟨eb2, off + 5 + 1 + 1, none⟩) (by rw [HZ.out]; show eb2 < _; omega)).trans HC4.out
  simp at x1 x2
  have HB5 := toHid (below3 HB4.out HB4.out.size k4)
  clear h4 k4 HG HC4 HB4
  go_wp2_with fail
  go_ret
  exact ⟨rfl, HB5.out⟩
end Go.Proofs.YtdlmlpddkfnfmaaGreatDoor
