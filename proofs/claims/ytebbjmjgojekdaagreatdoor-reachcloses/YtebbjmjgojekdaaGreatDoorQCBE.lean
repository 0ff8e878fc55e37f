/-
  What is proved here: what the texts HDropE, KLabel, KProps prove, in one text.
-/
import Derived.Test.YtebbjmjgojekdaaGreatDoorQCBC
import Derived.Test.YtebbjmjgojekdaaGreatDoorQCBD
import Derived.Deep.RegionHeld3
import Derived.Test.YtebbjmjgojekdaaGreatDoorQCBB
namespace Go.Proofs.YtebbjmjgojekdaaGreatDoor
open Go.RowKit
set_option linter.unusedVariables false

theorem pair_idsE {w : World} {L : List Ed} {N : List AE} (h : Pair2 (EdIn w) L N) : L.map Ed.id = N.map AE.id := by
  apply List.ext_getElem?
  intro i
  rw [List.getElem?_map, List.getElem?_map]
  cases hx : L[i]? with
  | none =>
    have : N[i]? = none := by
      rw [List.getElem?_eq_none_iff] at hx ⊢
      rw [← h.1]
      exact hx
    rw [this]
    rfl
  | some x =>
    obtain ⟨y, hy, hxy⟩ := h.left hx
    rw [hy]
    show some x.id = some y.id
    rw [hxy.1]

def dropEE (S : WS) (id : Int) : Int := if id ∈ S.E.map AE.id then 0 else 5

set_option maxHeartbeats 8000000 in
set_option maxRecDepth 100000 in
theorem dropEdge_any (O : Nat → Prop) (b : Nat) (S : WS) (o : Om) (w : World) (hW : WorkIn O w b S) (h60 : S.E.length ≤ 60) (hri : Rise (S.E.map AE.id)) :
    Calls Tryz.prog 74 #[.pointer (some ⟨b, 0, none⟩), o.val] w fun e w' => ActEnd O w w' b ⟨S.N, S.E.filter (fun x => x.id != o.id), S.next, S.made⟩ (dropEE S o.id) e := by
  obtain ⟨k, id, frm, dst, name, vk, vn, vs, va, vl, vc, la, ll, lc, pa, pl, pc⟩ := o
  simp only [Om.val]
  have HW := toHid hW
  have HRI := toHid hri
  clear hW hri
  obtain ⟨ez, hEZ⟩ : ∃ z, z = dropEE S id := ⟨_, rfl⟩
  rw [← hEZ]
  have HEZ := toHid hEZ
  clear hEZ
  have b0 : Below w.heap.size w (w.alloc (.cells #[.int .i64 k, .int .i64 id, .int .i64 frm, .int .i64 dst, .string name, .int .i64 vk, .int .i64 vn, .string vs, .slice va vl vc, .slice la ll lc, .slice pa pl pc] 68)) := (Below.refl _ _).alloc (Nat.le_refl _) _
  have q0 := alloc_new w (.cells #[.int .i64 k, .int .i64 id, .int .i64 frm, .int .i64 dst, .string name, .int .i64 vk, .int .i64 vn, .string vs, .slice va vl vc, .slice la ll lc, .slice pa pl pc] 68)
  have z0 : (w.alloc (.cells #[.int .i64 k, .int .i64 id, .int .i64 frm, .int .i64 dst, .string name, .int .i64 vk, .int .i64 vn, .string vs, .slice va vl vc, .slice la ll lc, .slice pa pl pc] 68)).heap.size = w.heap.size + 1 := by simp
  have HB0 := toHid b0
  have HQ := toHid q0
  have HZ := toHid z0
  clear b0 q0 z0
  go_enter Tryz.func74, Tryz.ntmps74
  go_upto_region 1 with fail
  generalize w.alloc (.cells #[.int .i64 k, .int .i64 id, .int .i64 frm, .int .i64 dst, .string name, .int .i64 vk, .int .i64 vn, .string vs, .slice va vl vc, .slice la ll lc, .slice pa pl pc] 68) = W at HB0 HQ HZ ⊢
  obtain ⟨na, nc, ea, ec, ma, mc, PN, PE, PM, hw⟩ := HW.out.below HB0.out
  obtain ⟨_, L0, hl0, hp0⟩ := hw.es.reads2
  have hids := pair_idsE hp0
  obtain ⟨el, hel⟩ : ∃ z, z = S.E.length := ⟨_, rfl⟩
  have hblk := hw.blk
  rw [← hel] at hblk hl0 h60
  have c1 := cell_of hblk 1
  have y1 := cell_of HQ.out 1
  simp at c1 y1
  have hbl : b < W.heap.size := hw.lt b hw.ob
  have D0 : Below W.heap.size W W.drew := (Below.refl _ _).drew
  have HF : Hid (∀ V, Below W.heap.size W V → Calls Tryz.prog 124 #[.slice ea el ec, .int .i64 id] V fun e w' => FoundEnd (S.E.map AE.id) id e ∧ Below V.heap.size V w') := fun V kV => by
    have := edge_find L0 ea el ec id V (hl0.below kV) h60 (by rw [hids]; exact HRI.out)
    rw [hids] at this
    exact this
  have HS : Hid (∀ W' : World, Below W.heap.size W W' → W'.cell? ⟨b, 1, none⟩ = some (.slice ea el ec) ∧ W'.cell? ⟨w.heap.size, 1, none⟩ = some (.int .i64 id)) := fun W' kk =>
    ⟨(kk.cell (p := ⟨b, 1, none⟩) hbl).trans c1, (kk.cell (p := ⟨w.heap.size, 1, none⟩) (by rw [HZ.out]; show w.heap.size < _; omega)).trans y1⟩
  have HEL := toHid hel
  clear hw hl0 hp0 hids hblk hel
  go_cut [5, 6] (fun s5 s6 wx => ∃ (i : Nat) (f : Bool), s5 = .int .i64 i ∧ s6 = .bool f ∧ (f = true → (S.E.map AE.id)[i]? = some id) ∧ (f = false → id ∉ S.E.map AE.id) ∧ Below W.heap.size W wx)
  case first =>
    go_region_held3 (fun W' => W'.cell? ⟨b, 1, none⟩ = some (.slice ea el ec) ∧ W'.cell? ⟨w.heap.size, 1, none⟩ = some (.int .i64 id))
      (first
        | with_reducible exact HS.out _ k1
        | with_reducible exact HS.out _ D0
        | exact ⟨c1, y1⟩
        | go_keep)
      (first
        | (go_at_call 124; refine (HF.out _ D0).mono ?_; rintro e u1 ⟨⟨i, f, rfl, hy, hn⟩, h1⟩; have k1 : Below W.heap.size W u1 := D0.trans h1; have HYN := toHid (And.intro hy hn); clear hy hn))
    all_goals
      go_wp2_with fail
      go_meet
      exact ⟨i, f, rfl, rfl, HYN.out.1, HYN.out.2, k1⟩
  case rest =>
    obtain ⟨i, f, rfl, rfl, hy, hn, kc⟩ := hcut
    have k0 := HB0.out.trans (kc.mono HB0.out.size)
    have HK0 := toHid k0
    have HWC := toHid (HW.out.below k0)
    have HYN := toHid (And.intro hy hn)
    clear hy hn k0 kc c1 y1 D0 HF HS
    cases f
    · have HNN := toHid (HYN.out.2 rfl)
      clear HYN
      go_wp2_with fail
      go_ret
      have hE : ez = 5 := by rw [HEZ.out, dropEE, if_neg HNN.out]
      exact ⟨by rw [hE]; rfl, Rest.of_below HK0.out, fun h => by rw [hE] at h; cases h⟩
    · have hid := HYN.out.1 rfl
      have hE : ez = 0 := by rw [HEZ.out, dropEE, if_pos (List.mem_of_getElem? hid)]
      have HE0 := toHid hE
      have hil : i < S.E.length := by have := (List.getElem?_eq_some_iff.1 hid).1; simpa using this
      obtain ⟨x, hx⟩ : ∃ x, S.E[i]? = some x := ⟨S.E[i], List.getElem?_eq_getElem hil⟩
      have hxid : x.id = id := by
        rw [List.getElem?_map, hx] at hid
        exact Option.some.inj hid
      have hfil : S.E.eraseIdx i = S.E.filter (fun y => y.id != id) := by
        rw [erase_filter AE.id S.E i x hx (rise_nodup HRI.out), hxid]
      have HFIL := toHid hfil
      obtain ⟨r, hr⟩ : ∃ r, S.E.length = i + 1 + r := ⟨S.E.length - (i + 1), by omega⟩
      obtain ⟨na, nc, ea, ec, ma, mc, PN, PE, PM, hw⟩ := HWC.out
      obtain ⟨hob, L, hrow, hpair⟩ := hw.es
      have hLl : L.length = i + 1 + r := by rw [hpair.1, hr]
      obtain ⟨g, cap, hv, _, hg⟩ := hrow.form (by omega)
      injection hv with hv1 hv2 hv3
      subst hv3
      have hblk := hw.blk
      rw [hLl] at hrow
      rw [hr] at hrow
      rw [hr, hv1] at hblk
      rw [hv1] at hrow
      have HDEL := toHid (deleteE_any L g ec i r wc hLl hrow (by have := HEL.out; omega))
      have hgb : g ≠ b := (hw.pe g (hob g (by rw [hv1]; rfl))).2.1
      have hbl : b < wc.heap.size := hw.lt b hw.ob
      have c1 := cell_of hblk 1
      simp at c1
      have HBLK := toHid hblk
      have HWA := toHid hw
      have HPAIR := toHid hpair
      have HV1 := toHid hv1
      have HR := toHid hr
      have HGB := toHid hgb
      clear hw hob hrow hpair hLl hv1 hv2 hblk hid hE hx hxid hfil hr hgb
      have hsum : (i : Int) + 1 ≤ 9223372036854775807 := by have := HEL.out; omega
      go_wp2_with fail
      refine HDEL.out.mono ?_
      rintro e u ⟨rfl, hown, hrest⟩
      have hbu := (hrest.block b hbl (fun e => HGB.out e.symm)).trans HBLK.out
      have d1 := cell_of hbu 1
      have f1 := free_of hbu 1
      simp at d1
      have hbl2 : b < u.heap.size := Nat.lt_of_lt_of_le hbl hrest.size
      have HOWN := toHid hown
      have HREST := toHid hrest
      clear hown hrest hbu HDEL
      go_wp2_with fail
      go_ret
      have hst := StepEnd.behind HW.out HK0.out (HWA.out.eraseE HV1.out HPAIR.out (by rw [HR.out]; omega) (by rw [HR.out]; omega) HOWN.out HREST.out)
      rw [HFIL.out] at hst
      exact ⟨by rw [HE0.out]; rfl, hst.2, fun _ => hst⟩

theorem pair_idsN2 {w : World} {L : List Nd} {N : List AN} (h : Pair2 (NdIn w) L N) : L.map Nd.id = N.map AN.id := by
  apply List.ext_getElem?
  intro i
  rw [List.getElem?_map, List.getElem?_map]
  cases hx : L[i]? with
  | none =>
    have : N[i]? = none := by
      rw [List.getElem?_eq_none_iff] at hx ⊢
      rw [← h.1]
      exact hx
    rw [this]
    rfl
  | some x =>
    obtain ⟨y, hy, hxy⟩ := h.left hx
    rw [hy]
    show some x.id = some y.id
    rw [hxy.1]

theorem WorkAt.below {O : Nat → Prop} {w w' : World} {b : Nat} {S : WS} {na : Option Addr} {nc : Nat} {ea : Option Addr} {ec : Nat} {ma : Option Addr} {mc : Nat} {PN PE PM : Nat → Prop} (h : WorkAt O w b S na nc ea ec ma mc PN PE PM) (k : Below w.heap.size w w') : WorkAt O w' b S na nc ea ec ma mc PN PE PM :=
  ⟨(k.block b (h.lt b h.ob)).trans h.blk, h.ob, fun i hi => Nat.lt_of_lt_of_le (h.lt i hi) k.size, h.pn, h.pe, h.pm, h.ns.kept ⟨k.size, fun i hi hl => ⟨hi, k.block i hl⟩⟩, h.es.kept ⟨k.size, fun i hi hl => ⟨hi, k.block i hl⟩⟩, h.ms, row_keep h.mr fun g _ hl => k.block g hl⟩

theorem nodes_below {w w' : World} {A : Nat → Prop} {L : List Nd} {N : List AN} (h : PairD (fun B => NdOwn B w) A L N) (k : Below w.heap.size w w') : PairD (fun B => NdOwn B w') A L N :=
  h.carry (fun b => b < w.heap.size) (fun B p x hB hp => hp.kept ⟨k.size, fun j hj hl => ⟨⟨hj, hl⟩, k.block j hl⟩⟩) (fun b hb _ => hb)

/-- The nodes, the one of a number with other labels. -/
def labN (N : List AN) (id : Int) (name : ByteArray) (has : Bool) : List AN := N.map fun X => if X.id = id then ⟨X.id, chgL (fun s => s) X.labs name has, X.props⟩ else X

open Classical in
/-- What is wrong. -/
noncomputable def labEr (N : List AN) (id : Int) (name : ByteArray) (has : Bool) : Int :=
  match N.find? (fun X => X.id = id) with
  | none => 5
  | some X => if nm name = false then 6 else chgE (fun s => s) X.labs name has 4

theorem map_one {α : Type} (f : α → Int) (q : α → α) (id : Int) : ∀ (L : List α) (i : Nat) (x : α), L[i]? = some x → f x = id → (L.map f).Nodup → (L.map fun y => if f y = id then q y else y) = L.set i (q x)
  | [], _, _, h, _, _ => by simp at h
  | y :: L, 0, x, h, hx, hn => by
    simp at h
    subst h
    rw [List.map_cons, List.nodup_cons] at hn
    rw [List.map_cons, if_pos hx, List.set_cons_zero]
    congr 1
    conv => rhs; rw [← List.map_id L]
    apply List.map_congr_left
    intro z hz
    have : ¬ f z = id := fun e => hn.1 (by rw [hx, ← e]; exact List.mem_map_of_mem hz)
    simp [this]
  | y :: L, i + 1, x, h, hx, hn => by
    rw [List.map_cons, List.nodup_cons] at hn
    have h' : L[i]? = some x := by simpa using h
    have : ¬ f y = id := fun e => hn.1 (by rw [e, ← hx]; exact List.mem_map_of_mem (List.mem_of_getElem? h'))
    rw [List.map_cons, if_neg this, List.set_cons_succ, map_one f q id L i x h' hx hn.2]

theorem find_one {α : Type} (f : α → Int) (id : Int) : ∀ (L : List α) (i : Nat) (x : α), L[i]? = some x → f x = id → (L.map f).Nodup → L.find? (fun y => f y = id) = some x
  | [], _, _, h, _, _ => by simp at h
  | y :: L, 0, x, h, hx, hn => by
    simp at h
    subst h
    rw [List.find?_cons_of_pos (by simpa using hx)]
  | y :: L, i + 1, x, h, hx, hn => by
    rw [List.map_cons, List.nodup_cons] at hn
    have h' : L[i]? = some x := by simpa using h
    have : ¬ f y = id := fun e => hn.1 (by rw [e, ← hx]; exact List.mem_map_of_mem (List.mem_of_getElem? h'))
    rw [List.find?_cons_of_neg (by simpa using this)]
    exact find_one f id L i x h' hx hn.2

set_option maxHeartbeats 8000000 in
set_option maxRecDepth 100000 in
theorem label_any (O : Nat → Prop) (b : Nat) (S : WS) (o : Om) (has : Bool) (w : World) (hW : WorkIn O w b S) (h60 : S.N.length ≤ 60) (hri : Rise (S.N.map AN.id)) (hls : ∀ X ∈ S.N, RiseS X.labs ∧ X.labs.length ≤ 60) (hos : o.name.size ≤ 9223372036854775807)
    (hNm : ∀ V, Calls Tryz.prog 82 #[.string o.name] V fun e w' => e = .returned (.bool (nm o.name)) ∧ Below V.heap.size V w') :
    Calls Tryz.prog 131 #[.pointer (some ⟨b, 0, none⟩), o.val, .bool has] w fun e w' => ActEnd O w w' b ⟨labN S.N o.id o.name has, S.E, S.next, S.made⟩ (labEr S.N o.id o.name has) e := by
  obtain ⟨k, id, frm, dst, name, vk, vn, vs, va, vl, vc, la, ll, lc, pa, pl, pc⟩ := o
  simp only [Om.val]
  have HW := toHid hW
  have HRI := toHid hri
  have HLS := toHid hls
  have HNM := toHid hNm
  have HOS := toHid hos
  clear hW hri hls hNm hos
  obtain ⟨ez, hEZ⟩ : ∃ z, z = labEr S.N id name has := ⟨_, rfl⟩
  rw [← hEZ]
  have HEZ := toHid hEZ
  clear hEZ
  have b0 : Below w.heap.size w (w.alloc (.cells #[.int .i64 k, .int .i64 id, .int .i64 frm, .int .i64 dst, .string name, .int .i64 vk, .int .i64 vn, .string vs, .slice va vl vc, .slice la ll lc, .slice pa pl pc] 68)) := (Below.refl _ _).alloc (Nat.le_refl _) _
  have q0 := alloc_new w (.cells #[.int .i64 k, .int .i64 id, .int .i64 frm, .int .i64 dst, .string name, .int .i64 vk, .int .i64 vn, .string vs, .slice va vl vc, .slice la ll lc, .slice pa pl pc] 68)
  have z0 : (w.alloc (.cells #[.int .i64 k, .int .i64 id, .int .i64 frm, .int .i64 dst, .string name, .int .i64 vk, .int .i64 vn, .string vs, .slice va vl vc, .slice la ll lc, .slice pa pl pc] 68)).heap.size = w.heap.size + 1 := by simp
  have HB0 := toHid b0
  have HQ := toHid q0
  have HZ := toHid z0
  clear b0 q0 z0
  go_enter Tryz.func131, Tryz.ntmps131
  go_upto_region 1 with fail
  generalize w.alloc (.cells #[.int .i64 k, .int .i64 id, .int .i64 frm, .int .i64 dst, .string name, .int .i64 vk, .int .i64 vn, .string vs, .slice va vl vc, .slice la ll lc, .slice pa pl pc] 68) = W at HB0 HQ HZ ⊢
  obtain ⟨na, nc, ea, ec, ma, mc, PN, PE, PM, hw⟩ := HW.out.below HB0.out
  obtain ⟨hob, L, hrow, hpair⟩ := hw.ns
  have hpr := hpair.pair NdOwn.wide
  have hids : L.map Nd.id = S.N.map AN.id := pair_idsN2 (hpr.mono fun p x _ _ hp => hp.reads)
  obtain ⟨nl, hnl⟩ : ∃ z, z = S.N.length := ⟨_, rfl⟩
  have hblk := hw.blk
  have hrow2 : W.ownsRow 0 72 3 (.slice na nl nc) L.length (rowN L) := by rw [hnl]; exact hrow
  have hnat : NodesAt W L na nl := by
    have := row_nodes (c := nc) (a := na) (l := nl) hrow2
    exact this
  rw [← hnl] at hblk h60
  have HWN : Hid (Calls Tryz.prog 119 #[.pointer (some ⟨b, 0, none⟩), .int .i64 id] W fun e w' => WNodeEnd L na id e ∧ Below W.heap.size W w') := wnode_any L b na nl nc (.slice ea S.E.length ec) (.slice ma S.made.length mc) S.next id W hblk hnat h60 (by rw [hids]; exact HRI.out)
  have y1 := cell_of HQ.out 1
  have y4 := cell_of HQ.out 4
  simp at y1 y4
  have HWA := toHid hw
  have HROW := toHid hrow2
  have HPAIR := toHid hpair
  have HNL := toHid hnl
  have HIDS := toHid hids
  clear hw hob hrow hrow2 hpair hpr hids hblk hnat hnl
  go_wp2_with fail
  refine HWN.out.mono ?_
  rintro e w1 ⟨hwn, k1⟩
  have K1 := toHid k1
  have B1 := toHid (below2 HB0.out k1)
  have z1 : w.heap.size + 1 ≤ w1.heap.size := by have := k1.size; rw [HZ.out] at this; exact this
  have x4 := (k1.cell (p := ⟨w.heap.size, 4, none⟩) (by rw [HZ.out]; show w.heap.size < _; omega)).trans y4
  clear k1 y1 y4 HWN
  rcases hwn with ⟨hn, rfl⟩ | ⟨hn, i, g, oo, y, rfl, rfl, hy, hyid⟩
  · have hE : ez = 5 := by
      rw [HEZ.out, labEr]
      have hnf : S.N.find? (fun X => X.id = id) = none := by
        rw [List.find?_eq_none]
        intro X hX
        have hnn : id ∉ L.map Nd.id := by simpa [hasN] using hn
        rw [HIDS.out] at hnn
        simp
        exact fun e => hnn (by rw [← e]; exact List.mem_map_of_mem hX)
      rw [hnf]
    have HE := toHid hE
    clear hE hn
    go_wp2_with fail
    go_ret
    exact ⟨by rw [HE.out]; rfl, Rest.of_below B1.out, fun h => by rw [HE.out] at h; cases h⟩
  · obtain ⟨X, hX, hyX⟩ := (HPAIR.out.pair NdOwn.wide).left hy
    have hXid : X.id = id := by rw [← hyX.id]; exact hyid
    have hnd : (S.N.map AN.id).Nodup := rise_nodup HRI.out
    have hXm := List.mem_of_getElem? hX
    have hpos : 0 < L.length := by have := (List.getElem?_eq_some_iff.1 hy).1; omega
    obtain ⟨g2, cap2, hv, _, hgl⟩ := HROW.out.form hpos
    injection hv with hv1 hv2 hv3
    injection hv1 with hv1
    injection hv1 with hv1 hv4
    subst hv1
    subst hv4
    subst hv3
    obtain ⟨cur, hcur⟩ : ∃ cur, W.heap[g]? = some (.cells cur 72 (0, 0)) := by
      rcases HROW.out.2 with ⟨h0, _⟩ | ⟨g', cp, cur, h0, _, h2, _⟩
      · cases h0
      · injection h0 with e1 _ e3
        injection e1 with e1
        injection e1 with e1
        subst e1
        exact ⟨cur, h2⟩
    have hrow3 : W.ownsRow 0 72 3 (.slice (some ⟨g, 0, none⟩) L.length nc) L.length ((L.map Nd.cells).flatten) := by
      have := HROW.out
      rw [hv2] at this
      exact this
    have hpo : cur[i * 3 + 1]? = some (.slice y.la y.ll y.lc) := row_cells Nd.cells 3 (fun _ => rfl) hrow3 hcur hy 1 _ rfl
    have hll : y.ll = y.labs.length := (row_len hyX.rowL).1
    have hlr := HLS.out X hXm
    have hrl : W.ownsRow 0 9 1 (.slice y.la y.ll y.lc) y.ll (strs y.labs) := by have := hyX.rowL; rw [← hll] at this; exact this
    have HCHG : Hid (∀ V, Below W.heap.size W V → Calls Tryz.prog 164 #[.pointer (some ⟨g, i * 3 + 1, none⟩), .string name, .func (.func 165) #[] #[], .bool has, .int .i64 4] V fun e w' => ChgEnd strCell 1 9 (fun s => s) y.labs name has 4 g (i * 3 + 1) cur 72 (.slice y.la y.ll y.lc) V w' e) := fun V kV =>
      changeS_any g (i * 3 + 1) cur 72 y.labs y.la y.ll y.lc name has V ((kV.block g hgl).trans hcur) hpo (row_keep hrl fun j _ hl => kV.block j hl) hll (by rw [hll, hyX.labs]; exact hlr.2) hyX.szL (by rw [hyX.labs]; exact hlr.1) (fun j hj e => (hyX.inL j hj).2 (by rw [e]; rfl))
    have HY : Hid (L[i]? = some y ∧ S.N[i]? = some X ∧ X.id = id ∧ (S.N.map AN.id).Nodup ∧ y.labs = X.labs ∧ ∀ s ∈ y.labs, s.size ≤ 9223372036854775807) := toHid ⟨hy, hX, hXid, hnd, hyX.labs, hyX.szL⟩
    have HCUR := toHid hcur
    clear hn hy hX hyX hXid hnd hXm hpos hgl hv2 hcur hrow3 hpo hll hlr hrl hyid
    have hEX : ez = if nm name = false then 6 else chgE (fun s => s) X.labs name has 4 := by
      rw [HEZ.out, labEr, find_one AN.id id S.N i X HY.out.2.1 HY.out.2.2.1 HY.out.2.2.2.1]
    have HEX := toHid hEX
    clear hEX
    go_wp2_with fail
    refine (HNM.out _).mono ?_
    rintro e w2 ⟨rfl, k2⟩
    have K2 := toHid (below2 K1.out k2)
    have B2 := toHid (below2 B1.out k2)
    have z2 : w.heap.size + 1 ≤ w2.heap.size := Nat.le_trans z1 k2.size
    have x5 := (k2.cell (p := ⟨w.heap.size, 4, none⟩) (by show w.heap.size < _; omega)).trans x4
    clear k2 x4
    cases hnmv : nm name with
    | false =>
      have hE : ez = 6 := by rw [HEX.out, if_pos hnmv]
      have HE := toHid hE
      clear hE
      go_wp2_with fail
      go_ret
      exact ⟨by rw [HE.out]; rfl, Rest.of_below B2.out, fun h => by rw [HE.out] at h; cases h⟩
    | true =>
      have hE : ez = chgE (fun s => s) y.labs name has 4 := by rw [HEX.out, if_neg (by simp [hnmv]), HY.out.2.2.2.2.1]
      have HE := toHid hE
      have D0 : Below w2.heap.size w2 w2.drew := (Below.refl _ _).drew
      have HCV := toHid (HCHG.out w2.drew (below2 K2.out D0))
      have x6 : w2.drew.cell? ⟨w.heap.size, 4, none⟩ = some (.string name) := x5
      clear hE HCHG
      go_upto_region 6 with fail
      go_region_with (go_at_call 164; refine HCV.out.mono ?_; rintro e w3 ⟨rfl, hrest, hend⟩; have HREST := toHid hrest; have HEND := toHid hend; clear hrest hend)
      all_goals
        go_wp2_with fail
        go_ret
        have hw := HWA.out
        have hPN : ∀ j, (j = g ∨ (Value.slice y.la y.ll y.lc).ownBlock = some j) → O j := fun j hj => by
          rcases hj with rfl | hj
          · exact (hw.pn _ (hw.ns.1 _ rfl)).1
          · have hyX := (HPAIR.out.pair NdOwn.wide).2 i y X HY.out.1 HY.out.2.1
            exact (hw.pn j (hyX.inL j hj).1).1
        have k0 : Below w.heap.size w w2.drew := below2 B2.out D0
        have kW : Below W.heap.size W w2.drew := below2 K2.out D0
        refine ⟨by rw [HE.out]; rfl, (Rest.of_below k0).trans HREST.out (fun j _ q => hPN j q), fun h0 => ?_⟩
        obtain ⟨v', hb1, hown, hat⟩ := HEND.out (by rw [← HE.out]; exact h0)
        obtain ⟨a', c', hv, _⟩ := slice_of_row hown
        subst hv
        have hgl : g < W.heap.size := (Array.getElem?_eq_some_iff.1 HCUR.out).1
        have hrow4 : w2.drew.ownsRow 0 72 3 (.slice (some ⟨g, 0, none⟩) S.N.length nc) L.length (rowN L) := by
          have := HROW.out
          rw [HNL.out] at this
          exact row_keep this fun j _ hl => kW.block j hl
        have st := WorkAt.setL (hw.below kW) rfl hrow4 (nodes_below HPAIR.out kW) HY.out.1 HY.out.2.1 ((kW.block g hgl).trans HCUR.out) (labs := chgL (fun s => s) y.labs name has) (fun t ht => by
          rcases chg_mem (fun s => s) ht with q | q
          · rw [q.1]; exact HOS.out
          · exact HY.out.2.2.2.2.2 t q) hb1 (by rw [strs_flat]; exact hown) hat HREST.out
        have e1 : labN S.N id name has = S.N.set i ⟨X.id, chgL (fun s => s) y.labs name has, X.props⟩ := by
          rw [HY.out.2.2.2.2.1]
          exact map_one AN.id (fun X => ⟨X.id, chgL (fun s => s) X.labs name has, X.props⟩) id S.N i X HY.out.2.1 HY.out.2.2.1 HY.out.2.2.2.1
        rw [e1]
        exact StepEnd.behind HW.out k0 st

theorem ActEnd.after {O : Nat → Prop} {w w1 w2 : World} {b : Nat} {S S' : WS} {er : Int} {e : Ending} (h : WorkIn O w b S) (k1 : Below w.heap.size w w1) (k : ActEnd O w1 w2 b S' er e) : ActEnd O w w2 b S' er e :=
  ⟨k.1, (Rest.of_below k1).trans k.2.1 (fun _ _ q => q), fun q => StepEnd.behind h k1 (k.2.2 q)⟩

set_option maxHeartbeats 4000000 in
set_option maxRecDepth 100000 in
theorem tag_any (O : Nat → Prop) (b : Nat) (o : Om) (w : World) (S S' : WS) (er : Int) (hW : WorkIn O w b S)
    (h : ∀ V, Below w.heap.size w V → Calls Tryz.prog 131 #[.pointer (some ⟨b, 0, none⟩), o.val, .bool true] V fun e w' => ActEnd O V w' b S' er e) :
    Calls Tryz.prog 76 #[.pointer (some ⟨b, 0, none⟩), o.val] w fun e w' => ActEnd O w w' b S' er e := by
  obtain ⟨k, id, frm, dst, name, vk, vn, vs, va, vl, vc, la, ll, lc, pa, pl, pc⟩ := o
  simp only [Om.val] at h ⊢
  have HL := toHid h
  have HW := toHid hW
  clear h hW
  have b0 : Below w.heap.size w (w.alloc (.cells #[.int .i64 k, .int .i64 id, .int .i64 frm, .int .i64 dst, .string name, .int .i64 vk, .int .i64 vn, .string vs, .slice va vl vc, .slice la ll lc, .slice pa pl pc] 68)) := (Below.refl _ _).alloc (Nat.le_refl _) _
  have HB0 := toHid b0
  clear b0
  go_enter Tryz.func76, Tryz.ntmps76
  go_wp2_with fail
  refine (HL.out _ HB0.out).mono ?_
  generalize w.alloc (.cells #[.int .i64 k, .int .i64 id, .int .i64 frm, .int .i64 dst, .string name, .int .i64 vk, .int .i64 vn, .string vs, .slice va vl vc, .slice la ll lc, .slice pa pl pc] 68) = W at HB0 ⊢
  rintro e w1 ⟨rfl, hr, hs⟩
  have HR := toHid hr
  have HS := toHid hs
  clear hr hs
  go_wp2_with fail
  go_ret
  exact ActEnd.after HW.out HB0.out ⟨rfl, HR.out, HS.out⟩

set_option maxHeartbeats 4000000 in
set_option maxRecDepth 100000 in
theorem untag_any (O : Nat → Prop) (b : Nat) (o : Om) (w : World) (S S' : WS) (er : Int) (hW : WorkIn O w b S)
    (h : ∀ V, Below w.heap.size w V → Calls Tryz.prog 131 #[.pointer (some ⟨b, 0, none⟩), o.val, .bool false] V fun e w' => ActEnd O V w' b S' er e) :
    Calls Tryz.prog 77 #[.pointer (some ⟨b, 0, none⟩), o.val] w fun e w' => ActEnd O w w' b S' er e := by
  obtain ⟨k, id, frm, dst, name, vk, vn, vs, va, vl, vc, la, ll, lc, pa, pl, pc⟩ := o
  simp only [Om.val] at h ⊢
  have HL := toHid h
  have HW := toHid hW
  clear h hW
  have b0 : Below w.heap.size w (w.alloc (.cells #[.int .i64 k, .int .i64 id, .int .i64 frm, .int .i64 dst, .string name, .int .i64 vk, .int .i64 vn, .string vs, .slice va vl vc, .slice la ll lc, .slice pa pl pc] 68)) := (Below.refl _ _).alloc (Nat.le_refl _) _
  have HB0 := toHid b0
  clear b0
  go_enter Tryz.func77, Tryz.ntmps77
  go_wp2_with fail
  refine (HL.out _ HB0.out).mono ?_
  generalize w.alloc (.cells #[.int .i64 k, .int .i64 id, .int .i64 frm, .int .i64 dst, .string name, .int .i64 vk, .int .i64 vn, .string vs, .slice va vl vc, .slice la ll lc, .slice pa pl pc] 68) = W at HB0 ⊢
  rintro e w1 ⟨rfl, hr, hs⟩
  have HR := toHid hr
  have HS := toHid hs
  clear hr hs
  go_wp2_with fail
  go_ret
  exact ActEnd.after HW.out HB0.out ⟨rfl, HR.out, HS.out⟩

def PropsEnd (N : List Nd) (E : List Ed) (na ea : Option Addr) (t : Int) (e : Ending) : Prop :=
  (∃ (i g o : Nat) (y : Nd), na = some ⟨g, o, none⟩ ∧ e = .returned (.pointer (some ⟨g, o + i * 3 + 2, none⟩)) ∧ N[i]? = some y ∧ y.id = t) ∨
  (hasN N t = false ∧ ∃ (i g o : Nat) (y : Ed), ea = some ⟨g, o, none⟩ ∧ e = .returned (.pointer (some ⟨g, o + i * 5 + 4, none⟩)) ∧ E[i]? = some y ∧ y.id = t) ∨
  (hasN N t = false ∧ t ∉ E.map Ed.id ∧ e = .returned (.pointer none))

set_option maxHeartbeats 4000000 in
set_option maxRecDepth 100000 in
theorem props_any (N : List Nd) (E : List Ed) (b : Nat) (na : Option Addr) (nl nc : Nat) (ea : Option Addr) (el ec : Nat) (mv : Value) (nx t : Int) (w : World) (hb : w.heap[b]? = some (.cells #[.slice na nl nc, .slice ea el ec, .int .i64 nx, mv] 95 (0, 0))) (h : NodesAt w N na nl) (h60 : nl ≤ 60) (hr : Rise (N.map Nd.id)) (hE : EdgesAt w E ea el) (h61 : el ≤ 60) (hrE : Rise (E.map Ed.id)) :
    Calls Tryz.prog 126 #[.pointer (some ⟨b, 0, none⟩), .int .i64 t] w fun e w' => PropsEnd N E na ea t e ∧ Below w.heap.size w w' := by
  have HWN : Hid (Calls Tryz.prog 119 #[.pointer (some ⟨b, 0, none⟩), .int .i64 t] w fun e w' => WNodeEnd N na t e ∧ Below w.heap.size w w') := wnode_any N b na nl nc (.slice ea el ec) mv nx t w hb h h60 hr
  have HSE : Hid (∀ V, Below w.heap.size w V → Calls Tryz.prog 124 #[.slice ea el ec, .int .i64 t] V fun e w' => FoundEnd (E.map Ed.id) t e ∧ Below V.heap.size V w') := fun V kV => edge_find E ea el ec t V (hE.below kV) h61 hrE
  have hbl : b < w.heap.size := (Array.getElem?_eq_some_iff.1 hb).1
  have c1 := cell_of hb 1
  simp at c1
  have HEA := toHid hE
  clear h hr hE hrE hb
  go_enter Tryz.func126, Tryz.ntmps126
  go_wp2_with fail
  refine HWN.out.mono ?_
  rintro e w1 ⟨hwn, k1⟩
  have K1 := toHid k1
  have d1 := (k1.cell (p := ⟨b, 1, none⟩) hbl).trans c1
  have hbl1 : b < w1.heap.size := Nat.lt_of_lt_of_le hbl k1.size
  clear k1 c1 HWN
  rcases hwn with ⟨hn, rfl⟩ | ⟨hn, i, g, oo, y, rfl, rfl, hy, hyid⟩
  · have HN := toHid hn
    clear hn
    go_wp2_with fail
    refine (HSE.out _ K1.out).mono ?_
    rintro e w2 ⟨⟨i, f, rfl, hy, hno⟩, k2⟩
    have K2 := toHid (below2 K1.out k2)
    have d2 := (k2.cell (p := ⟨b, 1, none⟩) hbl1).trans d1
    clear k2 d1
    cases f
    · have HNO := toHid (hno rfl)
      clear hy hno
      go_wp2_with fail
      go_ret
      exact ⟨.inr (.inr ⟨HN.out, HNO.out, rfl⟩), K2.out⟩
    · have hy' := hy rfl
      rw [List.getElem?_map] at hy'
      cases hx : E[i]? with
      | none => rw [hx] at hy'; cases hy'
      | some x =>
        rw [hx] at hy'
        have hid : x.id = t := by injection hy'
        have hil : i < el := by rw [HEA.out.1]; exact (List.getElem?_eq_some_iff.1 hx).1
        obtain ⟨g, o, rfl, _, _⟩ := HEA.out.2.2 (by omega)
        have HX := toHid (show E[i]? = some x ∧ x.id = t from ⟨hx, hid⟩)
        have hil2 : (i : Int) < (el : Int) := by omega
        clear hy hno hy' hx hid
        go_wp2_with fail
        go_ret
        exact ⟨.inr (.inl ⟨HN.out, i, g, o, x, rfl, rfl, HX.out.1, HX.out.2⟩), K2.out⟩
  · have HY := toHid (show N[i]? = some y ∧ y.id = t from ⟨hy, hyid⟩)
    clear hn hy hyid
    go_wp2_with fail
    go_ret
    exact ⟨.inl ⟨i, g, oo, y, rfl, rfl, HY.out.1, HY.out.2⟩, K1.out⟩
end Go.Proofs.YtebbjmjgojekdaaGreatDoor
