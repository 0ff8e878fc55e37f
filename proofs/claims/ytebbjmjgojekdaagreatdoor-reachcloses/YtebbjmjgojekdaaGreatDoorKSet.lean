/-
  What is proved here: what txn's set answers, and what it does to the work.
-/
import Derived.Test.YtebbjmjgojekdaaGreatDoorQCBE
namespace Go.Proofs.YtebbjmjgojekdaaGreatDoor
open Go.RowKit
set_option linter.unusedVariables false

def setN (N : List AN) (id : Int) (x : AP) (stays : Bool) : List AN := N.map fun X => if X.id = id then ⟨X.id, X.labs, chgL AP.name X.props x stays⟩ else X
def setE (E : List AE) (id : Int) (x : AP) (stays : Bool) : List AE := E.map fun X => if X.id = id then ⟨X.id, X.frm, X.dst, X.typ, chgL AP.name X.props x stays⟩ else X

/-- The work with the property. -/
def setS (S : WS) (id : Int) (x : AP) (stays : Bool) : WS := if id ∈ S.N.map AN.id then ⟨setN S.N id x stays, S.E, S.next, S.made⟩ else ⟨S.N, setE S.E id x stays, S.next, S.made⟩

open Classical in
/-- What is wrong. -/
noncomputable def setEr (S : WS) (id : Int) (x : AP) (stays : Bool) (eC : Int) : Int :=
  match S.N.find? (fun X => X.id = id), S.E.find? (fun X => X.id = id) with
  | some X, _ => if nm x.name = false then 6 else if eC ≠ 0 then eC else chgE AP.name X.props x.name stays 6
  | none, some X => if nm x.name = false then 6 else if eC ≠ 0 then eC else chgE AP.name X.props x.name stays 6
  | none, none => 5

theorem chgE_names {P : List Pr} {L : List AP} (h : P.map Pr.name = L.map AP.name) (t : ByteArray) (stays : Bool) (most : Nat) : chgE Pr.name P t stays most = chgE AP.name L t stays most := by
  unfold chgE
  have hl : P.length = L.length := by have := congrArg List.length h; simpa using this
  rw [h, hl]

theorem pair_names {A : Nat → Prop} {w : World} {P : List Pr} {L : List AP} (h : Pair2 (PrIn A w) P L) : P.map Pr.name = L.map AP.name := by
  apply List.ext_getElem?
  intro i
  rw [List.getElem?_map, List.getElem?_map]
  cases hx : P[i]? with
  | none =>
    have : L[i]? = none := by
      rw [List.getElem?_eq_none_iff] at hx ⊢
      rw [← h.1]
      exact hx
    rw [this]
    rfl
  | some x =>
    obtain ⟨y, hy, hxy⟩ := h.left hx
    rw [hy]
    show some x.name = some y.name
    rw [hxy.1]

theorem edges_below {w w' : World} {A : Nat → Prop} {L : List Ed} {N : List AE} (h : PairD (fun B => EdOwn B w) A L N) (k : Below w.heap.size w w') : PairD (fun B => EdOwn B w') A L N :=
  h.carry (fun b => b < w.heap.size) (fun B p x hB hp => hp.kept ⟨k.size, fun j hj hl => ⟨⟨hj, hl⟩, k.block j hl⟩⟩) (fun b hb _ => hb)

set_option maxHeartbeats 8000000 in
set_option maxRecDepth 100000 in
theorem set_any (O : Nat → Prop) (b : Nat) (S : WS) (o : Om) (Lv : List T) (eC : Int) (w : World) (hW : WorkIn O w b S) (h60 : S.N.length ≤ 60) (hri : Rise (S.N.map AN.id)) (h61 : S.E.length ≤ 60) (hriE : Rise (S.E.map AE.id)) (hls : ∀ X ∈ S.N, RiseS (X.props.map AP.name) ∧ X.props.length ≤ 60) (hlE : ∀ X ∈ S.E, RiseS (X.props.map AP.name) ∧ X.props.length ≤ 60) (hos : o.name.size ≤ 9223372036854775807 ∧ o.vs.size ≤ 9223372036854775807)
    (hNm : ∀ V, Calls Tryz.prog 82 #[.string o.name] V fun e w' => e = .returned (.bool (nm o.name)) ∧ Below V.heap.size V w')
    (hC : ∀ V, Below w.heap.size w V → Calls Tryz.prog 127 #[.agg #[.int .i64 o.vk, .int .i64 o.vn, .string o.vs, .slice o.va o.vl o.vc]] V fun e w' => e = .returned (.int .i64 eC) ∧ Below V.heap.size V w')
    (hV : eC = 0 → ∀ V, Below w.heap.size w V → Calls Tryz.prog 128 #[.agg #[.int .i64 o.vk, .int .i64 o.vn, .string o.vs, .slice o.va o.vl o.vc]] V fun e w' => ValEnd V w' o.vk o.vn o.vs Lv o.vl e ∧ Below V.heap.size V w') :
    Calls Tryz.prog 75 #[.pointer (some ⟨b, 0, none⟩), o.val] w fun e w' => ActEnd O w w' b (setS S o.id ⟨o.name, .node o.vk o.vn o.vs Lv⟩ (o.vk != 0)) (setEr S o.id ⟨o.name, .node o.vk o.vn o.vs Lv⟩ (o.vk != 0) eC) e := by
  obtain ⟨k, id, frm, dst, name, vk, vn, vs, va, vl, vc, la, ll, lc, pa, pl, pc⟩ := o
  simp only [Om.val]
  have HW := toHid hW
  have HRI := toHid hri
  have HRE := toHid hriE
  have HLS := toHid hls
  have HLE := toHid hlE
  have HNM := toHid hNm
  have HC := toHid hC
  have HV := toHid hV
  have HOS := toHid hos
  clear hW hri hriE hls hlE hNm hC hV hos
  obtain ⟨x, hx⟩ : ∃ z : AP, z = ⟨name, .node vk vn vs Lv⟩ := ⟨_, rfl⟩
  rw [← hx]
  have HXD := toHid hx
  clear hx
  obtain ⟨ez, hEZ⟩ : ∃ z, z = setEr S id x (vk != 0) eC := ⟨_, rfl⟩
  rw [← hEZ]
  have HEZ := toHid hEZ
  clear hEZ
  have b0 : Below w.heap.size w (w.alloc (.cells #[.int .i64 k, .int .i64 id, .int .i64 frm, .int .i64 dst, .string name, .int .i64 vk, .int .i64 vn, .string vs, .slice va vl vc, .slice la ll lc, .slice pa pl pc] 68)) := (Below.refl _ _).alloc (Nat.le_refl _) _
  have q0 := alloc_new w (.cells #[.int .i64 k, .int .i64 id, .int .i64 frm, .int .i64 dst, .string name, .int .i64 vk, .int .i64 vn, .string vs, .slice va vl vc, .slice la ll lc, .slice pa pl pc] 68)
  have z0 : (w.alloc (.cells #[.int .i64 k, .int .i64 id, .int .i64 frm, .int .i64 dst, .string name, .int .i64 vk, .int .i64 vn, .string vs, .slice va vl vc, .slice la ll lc, .slice pa pl pc] 68)).heap.size = w.heap.size + 1 := by simp
  have HB0 := toHid b0
  have HQ := toHid q0
  have HZ := toHid z0
  clear b0 q0 z0
  go_enter Tryz.func75, Tryz.ntmps75
  go_upto_region 1 with fail
  generalize w.alloc (.cells #[.int .i64 k, .int .i64 id, .int .i64 frm, .int .i64 dst, .string name, .int .i64 vk, .int .i64 vn, .string vs, .slice va vl vc, .slice la ll lc, .slice pa pl pc] 68) = W at HB0 HQ HZ ⊢
  obtain ⟨na, nc, ea, ec, ma, mc, PN, PE, PM, hw⟩ := HW.out.below HB0.out
  obtain ⟨hob, L, hrow, hpair⟩ := hw.ns
  obtain ⟨hobE, M, hrowE, hpairE⟩ := hw.es
  have hpr := hpair.pair NdOwn.wide
  have hprE := hpairE.pair EdOwn.wide
  have hids : L.map Nd.id = S.N.map AN.id := pair_idsN2 (hpr.mono fun p x _ _ hp => hp.reads)
  have hidsE : M.map Ed.id = S.E.map AE.id := pair_idsE (hprE.mono fun p x _ _ hp => hp.reads)
  obtain ⟨nl, hnl⟩ : ∃ z, z = S.N.length := ⟨_, rfl⟩
  obtain ⟨el, hel⟩ : ∃ z, z = S.E.length := ⟨_, rfl⟩
  have hblk := hw.blk
  have hrow2 : W.ownsRow 0 72 3 (.slice na nl nc) L.length (rowN L) := by rw [hnl]; exact hrow
  have hrowE2 : W.ownsRow 0 47 5 (.slice ea el ec) M.length (rowX M) := by rw [hel]; exact hrowE
  have hnat : NodesAt W L na nl := row_nodes (c := nc) (a := na) (l := nl) hrow2
  have heat : EdgesAt W M ea el := row_edges (c := ec) (a := ea) (l := el) hrowE2 (fun p hp => by
    obtain ⟨i, hi⟩ := List.getElem?_of_mem hp
    obtain ⟨x, _, hx⟩ := hprE.left hi
    exact hx.szT)
  rw [← hnl, ← hel] at hblk
  rw [← hnl] at h60
  rw [← hel] at h61
  have HWP : Hid (Calls Tryz.prog 126 #[.pointer (some ⟨b, 0, none⟩), .int .i64 id] W fun e w' => PropsEnd L M na ea id e ∧ Below W.heap.size W w') := props_any L M b na nl nc ea el ec (.slice ma S.made.length mc) S.next id W hblk hnat h60 (by rw [hids]; exact HRI.out) heat h61 (by rw [hidsE]; exact HRE.out)
  have y1 := cell_of HQ.out 1
  simp at y1
  have HWA := toHid hw
  have HROW := toHid hrow2
  have HROWE := toHid hrowE2
  have HPAIR := toHid hpair
  have HPAIRE := toHid hpairE
  have HNL := toHid hnl
  have HEL := toHid hel
  have HIDS := toHid hids
  have HIDSE := toHid hidsE
  clear hw hob hobE hrow hrow2 hrowE hrowE2 hpair hpairE hpr hprE hids hidsE hblk hnat heat hnl hel
  go_wp2_with fail
  refine HWP.out.mono ?_
  rintro e w1 ⟨hwn, k1⟩
  have K1 := toHid k1
  have B1 := toHid (below2 HB0.out k1)
  have z1 : w.heap.size + 1 ≤ w1.heap.size := by have := k1.size; rw [HZ.out] at this; exact this
  have HQ1 : Hid (w1.heap[w.heap.size]? = _) := toHid ((k1.block w.heap.size (by rw [HZ.out]; omega)).trans HQ.out)
  clear k1 y1 HWP
  rcases hwn with ⟨i, g, oo, y, rfl, rfl, hy, hyid⟩ | ⟨hnn, i, g, oo, y, rfl, rfl, hy, hyid⟩ | ⟨hnn, hne, rfl⟩
  · obtain ⟨X, hX, hyX⟩ := (HPAIR.out.pair NdOwn.wide).left hy
    have hXid : X.id = id := by rw [← hyX.id]; exact hyid
    have hnd : (S.N.map AN.id).Nodup := rise_nodup HRI.out
    have hXm := List.mem_of_getElem? hX
    have hpos : 0 < L.length := by have := (List.getElem?_eq_some_iff.1 hy).1; omega
    obtain ⟨g2, cap2, hv, _, hgl⟩ := HROW.out.form hpos
    injection hv with hv1 hv2 hv3
    injection hv1 with hv1
    injection hv1 with hv1 hv4
    subst hv1
    subst hv4
    subst hv3
    obtain ⟨cur, hcur⟩ : ∃ cur, W.heap[g]? = some (.cells cur 72 (0, 0)) := by
      rcases HROW.out.2 with ⟨h0, _⟩ | ⟨g', cp, cur, h0, _, h2, _⟩
      · cases h0
      · injection h0 with e1 _ e3
        injection e1 with e1
        injection e1 with e1
        subst e1
        exact ⟨cur, h2⟩
    have hrow3 : W.ownsRow 0 72 3 (.slice (some ⟨g, 0, none⟩) L.length nc) L.length ((L.map Nd.cells).flatten) := by
      have := HROW.out
      rw [hv2] at this
      exact this
    have hpo : cur[i * 3 + 2]? = some (.slice y.pa y.pl y.pc) := row_cells Nd.cells 3 (fun _ => rfl) hrow3 hcur hy 2 _ rfl
    have hll : y.pl = y.props.length := (row_len hyX.rowP).1
    have hlr := HLS.out X hXm
    have hnms := pair_names hyX.props
    have hxl : y.props.length = X.props.length := hyX.props.1
    have hrl : W.ownsRow 0 102 5 (.slice y.pa y.pl y.pc) y.pl (rowP y.props) := by have := hyX.rowP; rw [← hll] at this; exact this
    have HCHG : Hid (∀ V (p : Pr), Below W.heap.size W V → Calls Tryz.prog 129 #[.pointer (some ⟨g, i * 3 + 2, none⟩), .agg #[.string p.name, .int .i64 p.k, .int .i64 p.n, .string p.s, .slice p.a p.l p.c], .func (.func 130) #[] #[], .bool (vk != 0), .int .i64 6] V fun e w' => ChgEnd Pr.cells 5 102 Pr.name y.props p (vk != 0) 6 g (i * 3 + 2) cur 72 (.slice y.pa y.pl y.pc) V w' e) := fun V p kV =>
      changeP_any g (i * 3 + 2) cur 72 y.props y.pa y.pl y.pc p (vk != 0) V ((kV.block g hgl).trans hcur) hpo (row_keep hrl fun j _ hl => kV.block j hl) hll (by rw [hll, hxl]; exact hlr.2) (fun q hq => by
        obtain ⟨j, hj⟩ := List.getElem?_of_mem hq
        obtain ⟨z, _, hz⟩ := hyX.props.left hj
        exact hz.2.1) (by rw [hnms]; exact hlr.1) (fun j hj e => (hyX.inP j hj).1.2 (by rw [e]; rfl))
    have HY : Hid (L[i]? = some y ∧ S.N[i]? = some X ∧ X.id = id ∧ (S.N.map AN.id).Nodup ∧ y.props.map Pr.name = X.props.map AP.name) := toHid ⟨hy, hX, hXid, hnd, hnms⟩
    have HPN : Hid (∀ j, (j = g ∨ (Value.slice y.pa y.pl y.pc).ownBlock = some j) → O j) := fun j hj => by
      rcases hj with rfl | hj
      · exact (HWA.out.pn _ (HWA.out.ns.1 _ rfl)).1
      · exact (HWA.out.pn j (hyX.inP j hj).1.1).1
    have HCUR := toHid hcur
    have HGL := toHid hgl
    clear hy hX hyX hXid hnd hXm hpos hgl hv2 hcur hrow3 hpo hll hlr hrl hyid hnms hxl
    have hEX : ez = if nm name = false then 6 else if eC ≠ 0 then eC else chgE AP.name X.props name (vk != 0) 6 := by
      rw [HEZ.out, setEr, find_one AN.id id S.N i X HY.out.2.1 HY.out.2.2.1 HY.out.2.2.2.1, HXD.out]
    have HEX := toHid hEX
    clear hEX
    have y4 := cell_of HQ1.out 4
    have y5 := cell_of HQ1.out 5
    have y6 := cell_of HQ1.out 6
    have y7 := cell_of HQ1.out 7
    have y8 := cell_of HQ1.out 8
    simp at y4 y5 y6 y7 y8
    have hql : w.heap.size < w1.heap.size := by omega
    go_wp2_with fail
    refine (HNM.out _).mono ?_
    rintro e w2 ⟨rfl, k2⟩
    have K2 := toHid (below2 K1.out k2)
    have B2 := toHid (below2 B1.out k2)
    have z2 : w.heap.size + 1 ≤ w2.heap.size := Nat.le_trans z1 k2.size
    have hq2 := (k2.block w.heap.size hql).trans HQ1.out
    have HQ2 := toHid hq2
    have x4 := cell_of hq2 4
    have x5 := cell_of hq2 5
    have x6 := cell_of hq2 6
    have x7 := cell_of hq2 7
    have x8 := cell_of hq2 8
    simp at x4 x5 x6 x7 x8
    clear k2 y4 y5 y6 y7 y8 hq2
    cases hnmv : nm name with
    | false =>
      have hE : ez = 6 := by rw [HEX.out, if_pos hnmv]
      have HE := toHid hE
      clear hE
      go_wp2_with fail
      go_ret
      exact ⟨by rw [HE.out]; rfl, Rest.of_below B2.out, fun h => by rw [HE.out] at h; cases h⟩
    | true =>
      have hE0 : ez = if eC ≠ 0 then eC else chgE AP.name X.props name (vk != 0) 6 := by rw [HEX.out, if_neg (by simp [hnmv])]
      have HE0 := toHid hE0
      clear hE0
      go_wp2_with fail
      refine (HC.out _ B2.out).mono ?_
      rintro e w3 ⟨rfl, k3⟩
      have K3 := toHid (below2 K2.out k3)
      have B3 := toHid (below2 B2.out k3)
      have z3 : w.heap.size + 1 ≤ w3.heap.size := Nat.le_trans z2 k3.size
      have hq3 := (k3.block w.heap.size (by omega)).trans HQ2.out
      have HQ3 := toHid hq3
      have v4 := cell_of hq3 4
      have v5 := cell_of hq3 5
      have v6 := cell_of hq3 6
      have v7 := cell_of hq3 7
      have v8 := cell_of hq3 8
      simp at v4 v5 v6 v7 v8
      clear k3 x4 x5 x6 x7 x8 hq3
      by_cases hc0 : eC = 0
      · have hE1 : ez = chgE AP.name X.props name (vk != 0) 6 := by rw [HE0.out, if_neg (by simp [hc0])]
        have HE1 := toHid hE1
        clear hE1
        have hcc : (eC != 0) = false := by simp [hc0]
        have HFV : Hid (∀ V, Below w3.heap.size w3 V → Calls Tryz.prog 128 #[.agg #[.int .i64 vk, .int .i64 vn, .string vs, .slice va vl vc]] V fun e w' => ValEnd V w' vk vn vs Lv vl e ∧ Below V.heap.size V w') := fun V kV => HV.out hc0 V (below2 B3.out kV)
        have D0 : Below w3.heap.size w3 w3.drew := (Below.refl _ _).drew
        have D1 : Below w3.heap.size w3 (w3.alloc (.cells #[.string ⟨#[]⟩, .int .i64 0, .int .i64 0, .string ⟨#[]⟩, .slice none 0 0] 102)).drew := ((Below.refl _ _).alloc (Nat.le_refl _) _).drew
        have HDN : Hid ((w3.alloc (.cells #[.string ⟨#[]⟩, .int .i64 0, .int .i64 0, .string ⟨#[]⟩, .slice none 0 0] 102)).drew.heap[w3.heap.size]? = _) := toHid (alloc_new w3 (.cells #[.string ⟨#[]⟩, .int .i64 0, .int .i64 0, .string ⟨#[]⟩, .slice none 0 0] 102))
        have HZA : (w3.alloc (.cells #[.string ⟨#[]⟩, .int .i64 0, .int .i64 0, .string ⟨#[]⟩, .slice none 0 0] 102)).drew.heap.size = w3.heap.size + 1 := by show (w3.alloc (.cells #[.string ⟨#[]⟩, .int .i64 0, .int .i64 0, .string ⟨#[]⟩, .slice none 0 0] 102)).heap.size = _; simp
        have hq3l : w.heap.size < w3.heap.size := by omega
        have hqn : w.heap.size ≠ w3.heap.size := by omega
        have HAL : Hid ((w3.alloc (.cells #[.string ⟨#[]⟩, .int .i64 0, .int .i64 0, .string ⟨#[]⟩, .slice none 0 0] 102)).drew.heap[w.heap.size]? = w3.heap[w.heap.size]?) := toHid (Below.heap_alloc w3 _ _ hq3l)
        have HAL2 : Hid ((w3.drew.alloc (.cells #[.string ⟨#[]⟩, .int .i64 0, .int .i64 0, .string ⟨#[]⟩, .slice none 0 0] 102)).heap[w.heap.size]? = w3.heap[w.heap.size]?) := toHid (Below.heap_alloc w3.drew _ _ hq3l)
        have HDD : Hid (w3.drew.heap[w.heap.size]? = w3.heap[w.heap.size]?) := toHid rfl
        have HSX : Hid (∀ W' : World, W'.heap[w.heap.size]? = w3.heap[w.heap.size]? → W'.cell? ⟨w.heap.size, 4, none⟩ = some (.string name) ∧ W'.cell? ⟨w.heap.size, 5, none⟩ = some (.int .i64 vk) ∧ W'.cell? ⟨w.heap.size, 6, none⟩ = some (.int .i64 vn) ∧ W'.cell? ⟨w.heap.size, 7, none⟩ = some (.string vs) ∧ W'.cell? ⟨w.heap.size, 8, none⟩ = some (.slice va vl vc)) := fun W' e => by
          have h3 := e.trans HQ3.out
          exact ⟨cell_of h3 4, cell_of h3 5, cell_of h3 6, cell_of h3 7, cell_of h3 8⟩
        go_upto_region 9 with fail
        go_cut [7] (fun s7 wx => ∃ (q7 : Nat) (a' : Option Addr) (c' : Nat), s7 = .pointer (some ⟨q7, 0, none⟩) ∧ wx.heap[q7]? = some (.cells #[.string name, .int .i64 vk, .int .i64 vn, .string vs, .slice a' vl c'] 102 (0, 0)) ∧ w3.heap.size ≤ q7 ∧ vl ≤ c' ∧ LieA (fun j => w3.heap.size ≤ j) wx Lv a' vl ∧ Below w3.heap.size w3 wx)
        case first =>
          go_region_held3 (fun W' => W'.cell? ⟨w.heap.size, 4, none⟩ = some (.string name) ∧ W'.cell? ⟨w.heap.size, 5, none⟩ = some (.int .i64 vk) ∧ W'.cell? ⟨w.heap.size, 6, none⟩ = some (.int .i64 vn) ∧ W'.cell? ⟨w.heap.size, 7, none⟩ = some (.string vs) ∧ W'.cell? ⟨w.heap.size, 8, none⟩ = some (.slice va vl vc))
            (first
              | with_reducible exact HSX.out _ HDD.out
              | with_reducible exact HSX.out _ HAL.out
              | with_reducible exact HSX.out _ HAL2.out
              | with_reducible exact HSX.out _ eu
              | with_reducible exact HSX.out _ ((Below.heap_alloc u _ _ hqu).trans eu)
              | with_reducible exact HSX.out _ ((Below.heap_setCell _ _ _ _ hqn).trans ((Below.heap_setCell _ _ _ _ hqn).trans ((Below.heap_setCell _ _ _ _ hqn).trans ((Below.heap_setCell _ _ _ _ hqn).trans ((Below.heap_setCell _ _ _ _ hqn).trans eu)))))
              | with_reducible exact HSX.out _ ((Below.heap_setCell _ _ _ _ hqn2).trans ((Below.heap_setCell _ _ _ _ hqn2).trans ((Below.heap_setCell _ _ _ _ hqn2).trans ((Below.heap_setCell _ _ _ _ hqn2).trans ((Below.heap_setCell _ _ _ _ hqn2).trans ((Below.heap_alloc u _ _ hqu).trans eu))))))
              | go_keep)
            (first
              | (go_at_call 128; refine (HFV.out _ D1).mono ?_; rintro e u ⟨⟨a', c', rfl, hlc, hLA⟩, ku⟩; have hu := (ku.block w3.heap.size (by rw [HZA]; omega)).trans HDN.out; have eu : u.heap[w.heap.size]? = w3.heap[w.heap.size]? := (ku.block w.heap.size (by rw [HZA]; omega)).trans (Below.heap_alloc w3 _ _ hq3l); have c0 := cell_of hu 0; have f0 := free_of hu 0; have c1 := cell_of hu 1; have f1 := free_of hu 1; have c2 := cell_of hu 2; have f2 := free_of hu 2; have c3 := cell_of hu 3; have f3 := free_of hu 3; have c4 := cell_of hu 4; have f4 := free_of hu 4; simp only [List.getElem?_toArray, List.getElem?_cons_zero, List.getElem?_cons_succ] at c0 c1 c2 c3 c4; have hul : w3.heap.size < u.heap.size := (Array.getElem?_eq_some_iff.1 hu).1; have hqu : w.heap.size < u.heap.size := (by omega); have HHU := toHid hu; have HLA := toHid hLA; have HKU := toHid ku; clear hLA ku hu)
              | (go_at_call 128; refine (HFV.out _ D0).mono ?_; rintro e u ⟨⟨a', c', rfl, hlc, hLA⟩, ku⟩; have eu : u.heap[w.heap.size]? = w3.heap[w.heap.size]? := ku.block w.heap.size hq3l; have hqu : w.heap.size < u.heap.size := Nat.lt_of_lt_of_le hq3l ku.size; have hqn2 : w.heap.size ≠ u.heap.size := (by omega); have HLA := toHid hLA; have HKU := toHid ku; clear hLA ku))
          · go_wp2_with fail
            go_meet
            refine ⟨u.heap.size, a', c', rfl, alloc_new u _, HKU.out.size, hlc, LieA.kept (by simp) (fun j hj hl => ⟨hj, Below.heap_alloc u _ j hl⟩) _ _ _ HLA.out, (D0.trans HKU.out).alloc HKU.out.size _⟩
          · go_wp2_with fail
            go_meet
            have hY : (((((u.setCell ⟨w3.heap.size, 0, none⟩ (.string name)).setCell ⟨w3.heap.size, 1, none⟩ (.int .i64 vk)).setCell ⟨w3.heap.size, 2, none⟩ (.int .i64 vn)).setCell ⟨w3.heap.size, 3, none⟩ (.string vs)).setCell ⟨w3.heap.size, 4, none⟩ (.slice a' vl c')) = putL u w3.heap.size 0 [.string name, .int .i64 vk, .int .i64 vn, .string vs, .slice a' vl c'] := rfl
            rw [hY]
            refine ⟨w3.heap.size, a', c', rfl, (putL_here [.string name, .int .i64 vk, .int .i64 vn, .string vs, .slice a' vl c'] 0 u _ HHU.out).trans rfl, Nat.le_refl _, hlc, LieA.kept (by rw [putL_size]; exact Nat.le_refl _) (fun j hj hl => ⟨?_, putL_other _ _ _ _ j ?_⟩) _ _ _ HLA.out, (D1.trans (HKU.out.mono (by rw [HZA]; omega))).trans (putL_bel w3.heap.size _ _ u)⟩
            · have hj' : (w3.alloc (.cells #[.string ⟨#[]⟩, .int .i64 0, .int .i64 0, .string ⟨#[]⟩, .slice none 0 0] 102)).drew.heap.size ≤ j := hj
              rw [HZA] at hj'
              omega
            · have hj' : (w3.alloc (.cells #[.string ⟨#[]⟩, .int .i64 0, .int .i64 0, .string ⟨#[]⟩, .slice none 0 0] 102)).drew.heap.size ≤ j := hj
              rw [HZA] at hj'
              omega
        case rest =>
          obtain ⟨q7, a', c', rfl, hq7, hq7l, hlc, hLA, kx⟩ := hcut
          have KX := toHid (below2 K3.out kx)
          have BX := toHid (below2 B3.out kx)
          have HLA := toHid hLA
          have HKX := toHid kx
          have m0 := cell_of hq7 0
          have m1 := cell_of hq7 1
          have m2 := cell_of hq7 2
          have m3 := cell_of hq7 3
          have m4 := cell_of hq7 4
          simp at m0 m1 m2 m3 m4
          have hq7s : q7 < wc.heap.size := (Array.getElem?_eq_some_iff.1 hq7).1
          have HCC := toHid (HCHG.out wc ⟨name, vk, vn, vs, a', vl, c', 0⟩ KX.out)
          clear hq7 hLA kx v4 v5 v6 v7 v8 D0 D1 HDN HZA HAL HAL2 HDD HSX HFV HCHG
          go_wp2_with fail
          refine HCC.out.mono ?_
          rintro e w4 ⟨rfl, hrest, hend⟩
          have HREST := toHid hrest
          have HEND := toHid hend
          clear hrest hend
          go_wp2_with fail
          go_ret
          have hw := HWA.out
          have hE : ez = chgE Pr.name y.props name (vk != 0) 6 := by rw [HE1.out]; exact (chgE_names HY.out.2.2.2.2 name _ 6).symm
          refine ⟨by rw [hE]; rfl, (Rest.of_below BX.out).trans HREST.out (fun j _ q => HPN.out j q), fun h0 => ?_⟩
          obtain ⟨v', hb1, hown, hat⟩ := HEND.out (by rw [← hE]; exact h0)
          obtain ⟨a2, c2, hv, _⟩ := slice_of_row hown
          subst hv
          have kW := KX.out
          have hrow4 : wc.ownsRow 0 72 3 (.slice (some ⟨g, 0, none⟩) S.N.length nc) L.length (rowN L) := by
            have := HROW.out
            rw [HNL.out] at this
            exact row_keep this fun j _ hl => kW.block j hl
          have hp : PrIn (fun j => w.heap.size ≤ j ∧ j < wc.heap.size) wc ⟨name, vk, vn, vs, a', vl, c', 0⟩ x := ⟨by rw [HXD.out], HOS.out.1, HOS.out.2, hlc, Lv, by rw [HXD.out], LieA.kept (Nat.le_refl _) (fun j hj hl => ⟨⟨by have hj' : w3.heap.size ≤ j := hj; omega, hl⟩, rfl⟩) _ _ _ HLA.out⟩
          have st := WorkAt.setP (hw.below kW) HW.out.lts BX.out rfl hrow4 (nodes_below HPAIR.out kW) HY.out.1 HY.out.2.1 ((kW.block g HGL.out).trans HCUR.out) (P' := chgL Pr.name y.props ⟨name, vk, vn, vs, a', vl, c', 0⟩ (vk != 0)) rfl hp hb1 hown hat HREST.out
          have e1 : setS S id x (vk != 0) = ⟨S.N.set i ⟨X.id, X.labs, chgL AP.name X.props x (vk != 0)⟩, S.E, S.next, S.made⟩ := by
            rw [setS, if_pos (by rw [← HY.out.2.2.1]; exact List.mem_map_of_mem (List.mem_of_getElem? HY.out.2.1))]
            have := map_one AN.id (fun X => ⟨X.id, X.labs, chgL AP.name X.props x (vk != 0)⟩) id S.N i X HY.out.2.1 HY.out.2.2.1 HY.out.2.2.2.1
            rw [← this]
            rfl
          rw [e1]
          exact st
      · have hE1 : ez = eC := by rw [HE0.out, if_pos hc0]
        have HE1 := toHid hE1
        have hcc : (eC != 0) = true := by simp [hc0]
        have HC0 := toHid hc0
        clear hE1 hc0
        go_wp2_with fail
        go_ret
        exact ⟨by rw [HE1.out]; rfl, Rest.of_below B3.out, fun h => absurd (HE1.out.symm.trans h) HC0.out⟩
  · obtain ⟨X, hX, hyX⟩ := (HPAIRE.out.pair EdOwn.wide).left hy
    have hNF : S.N.find? (fun X => X.id = id) = none := by
      rw [List.find?_eq_none]
      intro X hX
      have hq : id ∉ L.map Nd.id := by simpa [hasN] using hnn
      rw [HIDS.out] at hq
      simp
      exact fun e => hq (by rw [← e]; exact List.mem_map_of_mem hX)
    have HNF := toHid hNF
    have HNI : Hid (id ∉ S.N.map AN.id) := toHid (by have hq : id ∉ L.map Nd.id := by simpa [hasN] using hnn
                                                     rw [HIDS.out] at hq
                                                     exact hq)
    clear hNF hnn
    have hXid : X.id = id := by rw [← hyX.id]; exact hyid
    have hnd : (S.E.map AE.id).Nodup := rise_nodup HRE.out
    have hXm := List.mem_of_getElem? hX
    have hpos : 0 < M.length := by have := (List.getElem?_eq_some_iff.1 hy).1; omega
    obtain ⟨g2, cap2, hv, _, hgl⟩ := HROWE.out.form hpos
    injection hv with hv1 hv2 hv3
    injection hv1 with hv1
    injection hv1 with hv1 hv4
    subst hv1
    subst hv4
    subst hv3
    obtain ⟨cur, hcur⟩ : ∃ cur, W.heap[g]? = some (.cells cur 47 (0, 0)) := by
      rcases HROWE.out.2 with ⟨h0, _⟩ | ⟨g', cp, cur, h0, _, h2, _⟩
      · cases h0
      · injection h0 with e1 _ e3
        injection e1 with e1
        injection e1 with e1
        subst e1
        exact ⟨cur, h2⟩
    have hrow3 : W.ownsRow 0 47 5 (.slice (some ⟨g, 0, none⟩) M.length ec) M.length ((M.map Ed.cells).flatten) := by
      have := HROWE.out
      rw [hv2] at this
      exact this
    have hpo : cur[i * 5 + 4]? = some (.slice y.pa y.pl y.pc) := row_cells Ed.cells 5 (fun _ => rfl) hrow3 hcur hy 4 _ rfl
    have hll : y.pl = y.props.length := (row_len hyX.rowP).1
    have hlr := HLE.out X hXm
    have hnms := pair_names hyX.props
    have hxl : y.props.length = X.props.length := hyX.props.1
    have hrl : W.ownsRow 0 102 5 (.slice y.pa y.pl y.pc) y.pl (rowP y.props) := by have := hyX.rowP; rw [← hll] at this; exact this
    have HCHG : Hid (∀ V (p : Pr), Below W.heap.size W V → Calls Tryz.prog 129 #[.pointer (some ⟨g, i * 5 + 4, none⟩), .agg #[.string p.name, .int .i64 p.k, .int .i64 p.n, .string p.s, .slice p.a p.l p.c], .func (.func 130) #[] #[], .bool (vk != 0), .int .i64 6] V fun e w' => ChgEnd Pr.cells 5 102 Pr.name y.props p (vk != 0) 6 g (i * 5 + 4) cur 47 (.slice y.pa y.pl y.pc) V w' e) := fun V p kV =>
      changeP_any g (i * 5 + 4) cur 47 y.props y.pa y.pl y.pc p (vk != 0) V ((kV.block g hgl).trans hcur) hpo (row_keep hrl fun j _ hl => kV.block j hl) hll (by rw [hll, hxl]; exact hlr.2) (fun q hq => by
        obtain ⟨j, hj⟩ := List.getElem?_of_mem hq
        obtain ⟨z, _, hz⟩ := hyX.props.left hj
        exact hz.2.1) (by rw [hnms]; exact hlr.1) (fun j hj e => (hyX.inP j hj).2 (by rw [e]; rfl))
    have HY : Hid (M[i]? = some y ∧ S.E[i]? = some X ∧ X.id = id ∧ (S.E.map AE.id).Nodup ∧ y.props.map Pr.name = X.props.map AP.name) := toHid ⟨hy, hX, hXid, hnd, hnms⟩
    have HPN : Hid (∀ j, (j = g ∨ (Value.slice y.pa y.pl y.pc).ownBlock = some j) → O j) := fun j hj => by
      rcases hj with rfl | hj
      · exact (HWA.out.pe _ (HWA.out.es.1 _ rfl)).1
      · exact (HWA.out.pe j (hyX.inP j hj).1).1
    have HCUR := toHid hcur
    have HGL := toHid hgl
    clear hy hX hyX hXid hnd hXm hpos hgl hv2 hcur hrow3 hpo hll hlr hrl hyid hnms hxl
    have hEX : ez = if nm name = false then 6 else if eC ≠ 0 then eC else chgE AP.name X.props name (vk != 0) 6 := by
      rw [HEZ.out, setEr, HNF.out, find_one AE.id id S.E i X HY.out.2.1 HY.out.2.2.1 HY.out.2.2.2.1, HXD.out]
    have HEX := toHid hEX
    clear hEX
    have y4 := cell_of HQ1.out 4
    have y5 := cell_of HQ1.out 5
    have y6 := cell_of HQ1.out 6
    have y7 := cell_of HQ1.out 7
    have y8 := cell_of HQ1.out 8
    simp at y4 y5 y6 y7 y8
    have hql : w.heap.size < w1.heap.size := by omega
    go_wp2_with fail
    refine (HNM.out _).mono ?_
    rintro e w2 ⟨rfl, k2⟩
    have K2 := toHid (below2 K1.out k2)
    have B2 := toHid (below2 B1.out k2)
    have z2 : w.heap.size + 1 ≤ w2.heap.size := Nat.le_trans z1 k2.size
    have hq2 := (k2.block w.heap.size hql).trans HQ1.out
    have HQ2 := toHid hq2
    have x4 := cell_of hq2 4
    have x5 := cell_of hq2 5
    have x6 := cell_of hq2 6
    have x7 := cell_of hq2 7
    have x8 := cell_of hq2 8
    simp at x4 x5 x6 x7 x8
    clear k2 y4 y5 y6 y7 y8 hq2
    cases hnmv : nm name with
    | false =>
      have hE : ez = 6 := by rw [HEX.out, if_pos hnmv]
      have HE := toHid hE
      clear hE
      go_wp2_with fail
      go_ret
      exact ⟨by rw [HE.out]; rfl, Rest.of_below B2.out, fun h => by rw [HE.out] at h; cases h⟩
    | true =>
      have hE0 : ez = if eC ≠ 0 then eC else chgE AP.name X.props name (vk != 0) 6 := by rw [HEX.out, if_neg (by simp [hnmv])]
      have HE0 := toHid hE0
      clear hE0
      go_wp2_with fail
      refine (HC.out _ B2.out).mono ?_
      rintro e w3 ⟨rfl, k3⟩
      have K3 := toHid (below2 K2.out k3)
      have B3 := toHid (below2 B2.out k3)
      have z3 : w.heap.size + 1 ≤ w3.heap.size := Nat.le_trans z2 k3.size
      have hq3 := (k3.block w.heap.size (by omega)).trans HQ2.out
      have HQ3 := toHid hq3
      have v4 := cell_of hq3 4
      have v5 := cell_of hq3 5
      have v6 := cell_of hq3 6
      have v7 := cell_of hq3 7
      have v8 := cell_of hq3 8
      simp at v4 v5 v6 v7 v8
      clear k3 x4 x5 x6 x7 x8 hq3
      by_cases hc0 : eC = 0
      · have hE1 : ez = chgE AP.name X.props name (vk != 0) 6 := by rw [HE0.out, if_neg (by simp [hc0])]
        have HE1 := toHid hE1
        clear hE1
        have hcc : (eC != 0) = false := by simp [hc0]
        have HFV : Hid (∀ V, Below w3.heap.size w3 V → Calls Tryz.prog 128 #[.agg #[.int .i64 vk, .int .i64 vn, .string vs, .slice va vl vc]] V fun e w' => ValEnd V w' vk vn vs Lv vl e ∧ Below V.heap.size V w') := fun V kV => HV.out hc0 V (below2 B3.out kV)
        have D0 : Below w3.heap.size w3 w3.drew := (Below.refl _ _).drew
        have D1 : Below w3.heap.size w3 (w3.alloc (.cells #[.string ⟨#[]⟩, .int .i64 0, .int .i64 0, .string ⟨#[]⟩, .slice none 0 0] 102)).drew := ((Below.refl _ _).alloc (Nat.le_refl _) _).drew
        have HDN : Hid ((w3.alloc (.cells #[.string ⟨#[]⟩, .int .i64 0, .int .i64 0, .string ⟨#[]⟩, .slice none 0 0] 102)).drew.heap[w3.heap.size]? = _) := toHid (alloc_new w3 (.cells #[.string ⟨#[]⟩, .int .i64 0, .int .i64 0, .string ⟨#[]⟩, .slice none 0 0] 102))
        have HZA : (w3.alloc (.cells #[.string ⟨#[]⟩, .int .i64 0, .int .i64 0, .string ⟨#[]⟩, .slice none 0 0] 102)).drew.heap.size = w3.heap.size + 1 := by show (w3.alloc (.cells #[.string ⟨#[]⟩, .int .i64 0, .int .i64 0, .string ⟨#[]⟩, .slice none 0 0] 102)).heap.size = _; simp
        have hq3l : w.heap.size < w3.heap.size := by omega
        have hqn : w.heap.size ≠ w3.heap.size := by omega
        have HAL : Hid ((w3.alloc (.cells #[.string ⟨#[]⟩, .int .i64 0, .int .i64 0, .string ⟨#[]⟩, .slice none 0 0] 102)).drew.heap[w.heap.size]? = w3.heap[w.heap.size]?) := toHid (Below.heap_alloc w3 _ _ hq3l)
        have HAL2 : Hid ((w3.drew.alloc (.cells #[.string ⟨#[]⟩, .int .i64 0, .int .i64 0, .string ⟨#[]⟩, .slice none 0 0] 102)).heap[w.heap.size]? = w3.heap[w.heap.size]?) := toHid (Below.heap_alloc w3.drew _ _ hq3l)
        have HDD : Hid (w3.drew.heap[w.heap.size]? = w3.heap[w.heap.size]?) := toHid rfl
        have HSX : Hid (∀ W' : World, W'.heap[w.heap.size]? = w3.heap[w.heap.size]? → W'.cell? ⟨w.heap.size, 4, none⟩ = some (.string name) ∧ W'.cell? ⟨w.heap.size, 5, none⟩ = some (.int .i64 vk) ∧ W'.cell? ⟨w.heap.size, 6, none⟩ = some (.int .i64 vn) ∧ W'.cell? ⟨w.heap.size, 7, none⟩ = some (.string vs) ∧ W'.cell? ⟨w.heap.size, 8, none⟩ = some (.slice va vl vc)) := fun W' e => by
          have h3 := e.trans HQ3.out
          exact ⟨cell_of h3 4, cell_of h3 5, cell_of h3 6, cell_of h3 7, cell_of h3 8⟩
        go_upto_region 9 with fail
        go_cut [7] (fun s7 wx => ∃ (q7 : Nat) (a' : Option Addr) (c' : Nat), s7 = .pointer (some ⟨q7, 0, none⟩) ∧ wx.heap[q7]? = some (.cells #[.string name, .int .i64 vk, .int .i64 vn, .string vs, .slice a' vl c'] 102 (0, 0)) ∧ w3.heap.size ≤ q7 ∧ vl ≤ c' ∧ LieA (fun j => w3.heap.size ≤ j) wx Lv a' vl ∧ Below w3.heap.size w3 wx)
        case first =>
          go_region_held3 (fun W' => W'.cell? ⟨w.heap.size, 4, none⟩ = some (.string name) ∧ W'.cell? ⟨w.heap.size, 5, none⟩ = some (.int .i64 vk) ∧ W'.cell? ⟨w.heap.size, 6, none⟩ = some (.int .i64 vn) ∧ W'.cell? ⟨w.heap.size, 7, none⟩ = some (.string vs) ∧ W'.cell? ⟨w.heap.size, 8, none⟩ = some (.slice va vl vc))
            (first
              | with_reducible exact HSX.out _ HDD.out
              | with_reducible exact HSX.out _ HAL.out
              | with_reducible exact HSX.out _ HAL2.out
              | with_reducible exact HSX.out _ eu
              | with_reducible exact HSX.out _ ((Below.heap_alloc u _ _ hqu).trans eu)
              | with_reducible exact HSX.out _ ((Below.heap_setCell _ _ _ _ hqn).trans ((Below.heap_setCell _ _ _ _ hqn).trans ((Below.heap_setCell _ _ _ _ hqn).trans ((Below.heap_setCell _ _ _ _ hqn).trans ((Below.heap_setCell _ _ _ _ hqn).trans eu)))))
              | with_reducible exact HSX.out _ ((Below.heap_setCell _ _ _ _ hqn2).trans ((Below.heap_setCell _ _ _ _ hqn2).trans ((Below.heap_setCell _ _ _ _ hqn2).trans ((Below.heap_setCell _ _ _ _ hqn2).trans ((Below.heap_setCell _ _ _ _ hqn2).trans ((Below.heap_alloc u _ _ hqu).trans eu))))))
              | go_keep)
            (first
              | (go_at_call 128; refine (HFV.out _ D1).mono ?_; rintro e u ⟨⟨a', c', rfl, hlc, hLA⟩, ku⟩; have hu := (ku.block w3.heap.size (by rw [HZA]; omega)).trans HDN.out; have eu : u.heap[w.heap.size]? = w3.heap[w.heap.size]? := (ku.block w.heap.size (by rw [HZA]; omega)).trans (Below.heap_alloc w3 _ _ hq3l); have c0 := cell_of hu 0; have f0 := free_of hu 0; have c1 := cell_of hu 1; have f1 := free_of hu 1; have c2 := cell_of hu 2; have f2 := free_of hu 2; have c3 := cell_of hu 3; have f3 := free_of hu 3; have c4 := cell_of hu 4; have f4 := free_of hu 4; simp only [List.getElem?_toArray, List.getElem?_cons_zero, List.getElem?_cons_succ] at c0 c1 c2 c3 c4; have hul : w3.heap.size < u.heap.size := (Array.getElem?_eq_some_iff.1 hu).1; have hqu : w.heap.size < u.heap.size := (by omega); have HHU := toHid hu; have HLA := toHid hLA; have HKU := toHid ku; clear hLA ku hu)
              | (go_at_call 128; refine (HFV.out _ D0).mono ?_; rintro e u ⟨⟨a', c', rfl, hlc, hLA⟩, ku⟩; have eu : u.heap[w.heap.size]? = w3.heap[w.heap.size]? := ku.block w.heap.size hq3l; have hqu : w.heap.size < u.heap.size := Nat.lt_of_lt_of_le hq3l ku.size; have hqn2 : w.heap.size ≠ u.heap.size := (by omega); have HLA := toHid hLA; have HKU := toHid ku; clear hLA ku))
          · go_wp2_with fail
            go_meet
            refine ⟨u.heap.size, a', c', rfl, alloc_new u _, HKU.out.size, hlc, LieA.kept (by simp) (fun j hj hl => ⟨hj, Below.heap_alloc u _ j hl⟩) _ _ _ HLA.out, (D0.trans HKU.out).alloc HKU.out.size _⟩
          · go_wp2_with fail
            go_meet
            have hY : (((((u.setCell ⟨w3.heap.size, 0, none⟩ (.string name)).setCell ⟨w3.heap.size, 1, none⟩ (.int .i64 vk)).setCell ⟨w3.heap.size, 2, none⟩ (.int .i64 vn)).setCell ⟨w3.heap.size, 3, none⟩ (.string vs)).setCell ⟨w3.heap.size, 4, none⟩ (.slice a' vl c')) = putL u w3.heap.size 0 [.string name, .int .i64 vk, .int .i64 vn, .string vs, .slice a' vl c'] := rfl
            rw [hY]
            refine ⟨w3.heap.size, a', c', rfl, (putL_here [.string name, .int .i64 vk, .int .i64 vn, .string vs, .slice a' vl c'] 0 u _ HHU.out).trans rfl, Nat.le_refl _, hlc, LieA.kept (by rw [putL_size]; exact Nat.le_refl _) (fun j hj hl => ⟨?_, putL_other _ _ _ _ j ?_⟩) _ _ _ HLA.out, (D1.trans (HKU.out.mono (by rw [HZA]; omega))).trans (putL_bel w3.heap.size _ _ u)⟩
            · have hj' : (w3.alloc (.cells #[.string ⟨#[]⟩, .int .i64 0, .int .i64 0, .string ⟨#[]⟩, .slice none 0 0] 102)).drew.heap.size ≤ j := hj
              rw [HZA] at hj'
              omega
            · have hj' : (w3.alloc (.cells #[.string ⟨#[]⟩, .int .i64 0, .int .i64 0, .string ⟨#[]⟩, .slice none 0 0] 102)).drew.heap.size ≤ j := hj
              rw [HZA] at hj'
              omega
        case rest =>
          obtain ⟨q7, a', c', rfl, hq7, hq7l, hlc, hLA, kx⟩ := hcut
          have KX := toHid (below2 K3.out kx)
          have BX := toHid (below2 B3.out kx)
          have HLA := toHid hLA
          have HKX := toHid kx
          have m0 := cell_of hq7 0
          have m1 := cell_of hq7 1
          have m2 := cell_of hq7 2
          have m3 := cell_of hq7 3
          have m4 := cell_of hq7 4
          simp at m0 m1 m2 m3 m4
          have hq7s : q7 < wc.heap.size := (Array.getElem?_eq_some_iff.1 hq7).1
          have HCC := toHid (HCHG.out wc ⟨name, vk, vn, vs, a', vl, c', 0⟩ KX.out)
          clear hq7 hLA kx v4 v5 v6 v7 v8 D0 D1 HDN HZA HAL HAL2 HDD HSX HFV HCHG
          go_wp2_with fail
          refine HCC.out.mono ?_
          rintro e w4 ⟨rfl, hrest, hend⟩
          have HREST := toHid hrest
          have HEND := toHid hend
          clear hrest hend
          go_wp2_with fail
          go_ret
          have hw := HWA.out
          have hE : ez = chgE Pr.name y.props name (vk != 0) 6 := by rw [HE1.out]; exact (chgE_names HY.out.2.2.2.2 name _ 6).symm
          refine ⟨by rw [hE]; rfl, (Rest.of_below BX.out).trans HREST.out (fun j _ q => HPN.out j q), fun h0 => ?_⟩
          obtain ⟨v', hb1, hown, hat⟩ := HEND.out (by rw [← hE]; exact h0)
          obtain ⟨a2, c2, hv, _⟩ := slice_of_row hown
          subst hv
          have kW := KX.out
          have hrow4 : wc.ownsRow 0 47 5 (.slice (some ⟨g, 0, none⟩) S.E.length ec) M.length (rowX M) := by
            have := HROWE.out
            rw [HEL.out] at this
            exact row_keep this fun j _ hl => kW.block j hl
          have hp : PrIn (fun j => w.heap.size ≤ j ∧ j < wc.heap.size) wc ⟨name, vk, vn, vs, a', vl, c', 0⟩ x := ⟨by rw [HXD.out], HOS.out.1, HOS.out.2, hlc, Lv, by rw [HXD.out], LieA.kept (Nat.le_refl _) (fun j hj hl => ⟨⟨by have hj' : w3.heap.size ≤ j := hj; omega, hl⟩, rfl⟩) _ _ _ HLA.out⟩
          have st := WorkAt.setPE (hw.below kW) HW.out.lts BX.out rfl hrow4 (edges_below HPAIRE.out kW) HY.out.1 HY.out.2.1 ((kW.block g HGL.out).trans HCUR.out) (P' := chgL Pr.name y.props ⟨name, vk, vn, vs, a', vl, c', 0⟩ (vk != 0)) rfl hp hb1 hown hat HREST.out
          have e1 : setS S id x (vk != 0) = ⟨S.N, S.E.set i ⟨X.id, X.frm, X.dst, X.typ, chgL AP.name X.props x (vk != 0)⟩, S.next, S.made⟩ := by
            rw [setS, if_neg HNI.out]
            have := map_one AE.id (fun X => ⟨X.id, X.frm, X.dst, X.typ, chgL AP.name X.props x (vk != 0)⟩) id S.E i X HY.out.2.1 HY.out.2.2.1 HY.out.2.2.2.1
            rw [← this]
            rfl
          rw [e1]
          exact st
      · have hE1 : ez = eC := by rw [HE0.out, if_pos hc0]
        have HE1 := toHid hE1
        have hcc : (eC != 0) = true := by simp [hc0]
        have HC0 := toHid hc0
        clear hE1 hc0
        go_wp2_with fail
        go_ret
        exact ⟨by rw [HE1.out]; rfl, Rest.of_below B3.out, fun h => absurd (HE1.out.symm.trans h) HC0.out⟩
  · have hE : ez = 5 := by
      have h1 : S.N.find? (fun X => X.id = id) = none := by
        rw [List.find?_eq_none]
        intro X hX
        have hq : id ∉ L.map Nd.id := by simpa [hasN] using hnn
        rw [HIDS.out] at hq
        simp
        exact fun e => hq (by rw [← e]; exact List.mem_map_of_mem hX)
      have h2 : S.E.find? (fun X => X.id = id) = none := by
        rw [List.find?_eq_none]
        intro X hX
        have hq := hne
        rw [HIDSE.out] at hq
        simp
        exact fun e => hq (by rw [← e]; exact List.mem_map_of_mem hX)
      rw [HEZ.out, setEr, h1, h2]
    have HE := toHid hE
    clear hE hnn hne
    go_wp2_with fail
    go_ret
    exact ⟨by rw [HE.out]; rfl, Rest.of_below B1.out, fun h => by rw [HE.out] at h; cases h⟩
end Go.Proofs.YtebbjmjgojekdaaGreatDoor
