/-
  What is proved here: what the texts HDropN, KDo prove, in one text.
-/
import Derived.Test.YtebbjmjgojekdaaGreatDoorQCBE
import Derived.Test.YtebbjmjgojekdaaGreatDoorQCBI
import Derived.Test.YtebbjmjgojekdaaGreatDoorKSet
import Derived.Test.YtebbjmjgojekdaaGreatDoorHDo
namespace Go.Proofs.YtebbjmjgojekdaaGreatDoor
open Go.RowKit
set_option linter.unusedVariables false

/-- Is an edge from there or to there? -/
def touchE (id : Int) (y : AE) : Bool := (y.frm == id) || (y.dst == id)

set_option maxHeartbeats 1000000 in
theorem touch_one (id : Int) (p : Ed) (y : AE) (q : Nat) (w : World) (hp : EdIn w p y) (hq : w.cell? ⟨q, 1, none⟩ = some (.int .i64 id)) :
    Calls Tryz.prog 122 #[.agg #[.int .i64 p.id, .int .i64 p.frm, .int .i64 p.dst, .string p.typ, .slice p.pa p.pl p.pc], .pointer (some ⟨q, 0, none⟩)] w fun e w' => e = .returned (.bool (touchE id y)) ∧ Below w.heap.size w w' := by
  have hql : q < w.heap.size := World.block_lt_of_cell? w _ hq
  have q1 : (w.alloc (.cells #[.int .i64 p.id, .int .i64 p.frm, .int .i64 p.dst, .string p.typ, .slice p.pa p.pl p.pc] 47)).cell? ⟨q, 1, none⟩ = some (.int .i64 id) := by rw [cell_past _ _ _ _ hql]; exact hq
  have b0 : Below w.heap.size w (w.alloc (.cells #[.int .i64 p.id, .int .i64 p.frm, .int .i64 p.dst, .string p.typ, .slice p.pa p.pl p.pc] 47)) := (Below.refl _ _).alloc (Nat.le_refl _) _
  have HB := toHid b0
  have HY := toHid (show y.frm = p.frm ∧ y.dst = p.dst from ⟨hp.2.1.symm, hp.2.2.1.symm⟩)
  clear hp hq b0
  by_cases h1 : p.frm = id
  · have h1' : (p.frm == id) = true := by simp [h1]
    have H := toHid (show touchE id y = true by unfold touchE; rw [HY.out.1, h1']; rfl)
    clear h1
    go_enter Tryz.func122, Tryz.ntmps122
    go_wp2_with fail
    go_ret
    exact ⟨ret_bool (by rw [H.out]), HB.out⟩
  · have h1' : (p.frm == id) = false := by simp [h1]
    have H := toHid (show touchE id y = (p.dst == id) by unfold touchE; rw [HY.out.1, HY.out.2, h1']; rfl)
    clear h1
    go_enter Tryz.func122, Tryz.ntmps122
    go_wp2_with fail
    go_ret
    exact ⟨ret_bool (by rw [H.out]), HB.out⟩

set_option maxHeartbeats 4000000 in
set_option maxRecDepth 100000 in
theorem touch_index (id : Int) (Y : List AE) (a : Option Addr) (l c : Nat) (q : Nat) (w : World) (hY : EsAt w Y a l) (hqc : w.cell? ⟨q, 1, none⟩ = some (.int .i64 id)) (hql : q < w.heap.size) :
    Calls Tryz.prog 22 #[.slice a l c, .func (.func 122) #[] #[.pointer (some ⟨q, 0, none⟩)]] w fun e w' => e = .returned (.int .i64 (idxF (touchE id) 0 Y)) ∧ Below w.heap.size w w' := by
  obtain ⟨R, hR⟩ : ∃ R, R = idxF (touchE id) 0 Y := ⟨_, rfl⟩
  rw [← hR]
  obtain ⟨Q, ⟨hl, hmx, hat⟩, hq⟩ := hY
  have HL := toHid hl
  have HAT := toHid hat
  have HQ := toHid hq
  have HYL : Hid (Y.length = l) := by rw [HL.out]; exact HQ.out.1.symm
  have HONE : Hid (∀ W p y, Below w.heap.size w W → y ∈ Y → EdIn w p y → Calls Tryz.prog 122 #[.agg #[.int .i64 p.id, .int .i64 p.frm, .int .i64 p.dst, .string p.typ, .slice p.pa p.pl p.pc], .pointer (some ⟨q, 0, none⟩)] W fun e w' => e = .returned (.bool (touchE id y)) ∧ Below W.heap.size W w') := fun W p y kW hm hqy => touch_one id p y q W (hqy.below kW) ((kW.cell (p := ⟨q, 1, none⟩) hql).trans hqc)
  have H3 := toHid (show R = idxF (touchE id) 0 (Y.drop 0) from hR)
  clear hR hl hat hq hqc hql
  go_enter Tryz.func22, Tryz.ntmps22
  go_wp2_with fail
  go_loopg [8] l (fun g s8 wr => ∃ i : Nat, i ≤ l ∧ l - i ≤ g ∧ s8 = .int .i64 i ∧ Below w.heap.size w wr ∧ R = idxF (touchE id) i (Y.drop i))
  case atStart => exact ⟨0, Nat.zero_le _, by omega, rfl, Below.refl _ _, H3.out⟩
  case round =>
    clear H3
    obtain ⟨i, hi, hg, rfl, hbw, hfe⟩ := hrel
    have HFE := toHid hfe
    clear hfe
    by_cases hlt : i < l
    · obtain ⟨b, off, ha, hb, hc⟩ := HAT.out (by omega)
      subst ha
      obtain ⟨p, hq, _⟩ := drop_get (L := Q) (i := i) (by have := HL.out; omega)
      obtain ⟨y, hy, hqy⟩ := HQ.out.left hq
      obtain ⟨hsz, c0, c1, c2, c3, c4⟩ := hc i p hq
      have qq : ∀ o, wr.cell? ⟨b, o, none⟩ = w.cell? ⟨b, o, none⟩ := fun o => hbw.cell (p := ⟨b, o, none⟩) hb
      have d0 := (qq _).trans c0
      have d1 := (qq _).trans c1
      have d2 := (qq _).trans c2
      have d3 := (qq _).trans c3
      have d4 := (qq _).trans c4
      have hdy : Y.drop i = y :: Y.drop (i + 1) := by
        obtain ⟨z, hz, hd⟩ := drop_get (L := Y) (i := i) (by have := HYL.out; omega)
        rw [hy] at hz
        injection hz with hz
        rw [hz]
        exact hd
      have H4 := toHid (show R = if touchE id y = true then (i : Int) else idxF (touchE id) (i + 1) (Y.drop (i + 1)) by rw [HFE.out, hdy]; rfl)
      have HC := toHid (HONE.out wr p y hbw (List.mem_of_getElem? hy) hqy)
      clear hc hq hy hqy c0 c1 c2 c3 c4 qq hdy HFE
      have hil : (i : Int) < l := by omega
      go_wp2_with fail
      refine HC.out.mono ?_
      rintro e w2 ⟨rfl, k2⟩
      have hb2 := hbw.trans (k2.mono hbw.size)
      clear k2 d0 d1 d2 d3 d4
      cases hs : touchE id y with
      | true =>
        have H5 := toHid (show R = (i : Int) by rw [H4.out, if_pos hs])
        clear H4 hs
        go_wp2_with fail
        go_ret
        exact ⟨ret_int (by rw [H5.out]), hb2⟩
      | false =>
        have H5 := toHid (show R = idxF (touchE id) (i + 1) (Y.drop (i + 1)) by rw [H4.out, if_neg (by rw [hs]; decide)])
        clear H4 hs
        go_wp2_with fail
        go_roundg (l - (i + 1))
        case measure => omega
        case rel => exact ⟨i + 1, by omega, by omega, by go_num, hb2, H5.out⟩
    · have H3 := toHid (show R = -1 by rw [HFE.out, List.drop_eq_nil_of_le (by have := HYL.out; omega)]; rfl)
      clear HFE
      go_wp2_with fail
      go_ret
      exact ⟨ret_int (by rw [H3.out]), hbw⟩

set_option maxHeartbeats 2000000 in
theorem touch_has (id : Int) (Y : List AE) (a : Option Addr) (l c : Nat) (q : Nat) (w : World) (hY : EsAt w Y a l) (hqc : w.cell? ⟨q, 1, none⟩ = some (.int .i64 id)) (hql : q < w.heap.size) :
    Calls Tryz.prog 121 #[.slice a l c, .func (.func 122) #[] #[.pointer (some ⟨q, 0, none⟩)]] w fun e w' => e = .returned (.bool (Y.any (touchE id))) ∧ Below w.heap.size w w' := by
  have HC := toHid (touch_index id Y a l c q w hY hqc hql)
  have HI := toHid (idxF_any (touchE id) Y 0)
  clear hY hqc hql
  obtain ⟨z, hz⟩ : ∃ z, z = idxF (touchE id) 0 Y := ⟨_, rfl⟩
  obtain ⟨R, hR⟩ : ∃ R, R = Y.any (touchE id) := ⟨_, rfl⟩
  rw [← hz] at HC HI
  rw [← hR] at HI ⊢
  clear hz hR
  go_enter Tryz.func121, Tryz.ntmps121
  go_wp2_with fail
  refine HC.out.mono ?_
  rintro e w1 ⟨rfl, k1⟩
  rcases HI.out with ⟨h1, h2⟩ | ⟨h1, h2⟩
  · have h3 : z ≥ 0 := h2
    have H1 := toHid h1
    clear h1 h2
    go_wp2_with fail
    go_ret
    exact ⟨ret_bool (by rw [H1.out]), k1⟩
  · have h3 : ¬ z ≥ 0 := by omega
    have H1 := toHid h1
    clear h1 h2
    go_wp2_with fail
    go_ret
    exact ⟨ret_bool (by rw [H1.out]; exact decide_eq_false (by omega)), k1⟩

def dropNE (S : WS) (id : Int) : Int := if id ∈ S.N.map AN.id then (if S.E.any (touchE id) = true then 8 else 0) else 5

set_option maxHeartbeats 8000000 in
set_option maxRecDepth 100000 in
theorem dropNode_any (O : Nat → Prop) (b : Nat) (S : WS) (o : Om) (w : World) (hW : WorkIn O w b S) (h60 : S.N.length ≤ 60) (hri : Rise (S.N.map AN.id)) :
    Calls Tryz.prog 73 #[.pointer (some ⟨b, 0, none⟩), o.val] w fun e w' => ActEnd O w w' b ⟨S.N.filter (fun x => x.id != o.id), S.E, S.next, S.made⟩ (dropNE S o.id) e := by
  obtain ⟨k, id, frm, dst, name, vk, vn, vs, va, vl, vc, la, ll, lc, pa, pl, pc⟩ := o
  simp only [Om.val]
  have HW := toHid hW
  have HRI := toHid hri
  clear hW hri
  obtain ⟨ez, hEZ⟩ : ∃ z, z = dropNE S id := ⟨_, rfl⟩
  rw [← hEZ]
  have HEZ := toHid hEZ
  clear hEZ
  have b0 : Below w.heap.size w (w.alloc (.cells #[.int .i64 k, .int .i64 id, .int .i64 frm, .int .i64 dst, .string name, .int .i64 vk, .int .i64 vn, .string vs, .slice va vl vc, .slice la ll lc, .slice pa pl pc] 68)) := (Below.refl _ _).alloc (Nat.le_refl _) _
  have q0 := alloc_new w (.cells #[.int .i64 k, .int .i64 id, .int .i64 frm, .int .i64 dst, .string name, .int .i64 vk, .int .i64 vn, .string vs, .slice va vl vc, .slice la ll lc, .slice pa pl pc] 68)
  have z0 : (w.alloc (.cells #[.int .i64 k, .int .i64 id, .int .i64 frm, .int .i64 dst, .string name, .int .i64 vk, .int .i64 vn, .string vs, .slice va vl vc, .slice la ll lc, .slice pa pl pc] 68)).heap.size = w.heap.size + 1 := by simp
  have HB0 := toHid b0
  have HQ := toHid q0
  have HZ := toHid z0
  clear b0 q0 z0
  go_enter Tryz.func73, Tryz.ntmps73
  go_upto_region 1 with fail
  generalize w.alloc (.cells #[.int .i64 k, .int .i64 id, .int .i64 frm, .int .i64 dst, .string name, .int .i64 vk, .int .i64 vn, .string vs, .slice va vl vc, .slice la ll lc, .slice pa pl pc] 68) = W at HB0 HQ HZ ⊢
  obtain ⟨na, nc, ea, ec, ma, mc, PN, PE, PM, hw⟩ := HW.out.below HB0.out
  obtain ⟨_, L0, hl0, hp0⟩ := hw.ns.reads2
  have hids := pair_ids hp0
  obtain ⟨el, hel⟩ : ∃ z, z = S.N.length := ⟨_, rfl⟩
  have hblk := hw.blk
  rw [← hel] at hblk hl0 h60
  have c1 := cell_of hblk 0
  have y1 := cell_of HQ.out 1
  simp at c1 y1
  have hbl : b < W.heap.size := hw.lt b hw.ob
  have D0 : Below W.heap.size W W.drew := (Below.refl _ _).drew
  have HF : Hid (∀ V, Below W.heap.size W V → Calls Tryz.prog 120 #[.slice na el nc, .int .i64 id] V fun e w' => FoundEnd (S.N.map AN.id) id e ∧ Below V.heap.size V w') := fun V kV => by
    have := node_find L0 na el nc id V (hl0.below kV) h60 (by rw [hids]; exact HRI.out)
    rw [hids] at this
    exact this
  have HS : Hid (∀ W' : World, Below W.heap.size W W' → W'.cell? ⟨b, 0, none⟩ = some (.slice na el nc) ∧ W'.cell? ⟨w.heap.size, 1, none⟩ = some (.int .i64 id)) := fun W' kk =>
    ⟨(kk.cell (p := ⟨b, 0, none⟩) hbl).trans c1, (kk.cell (p := ⟨w.heap.size, 1, none⟩) (by rw [HZ.out]; show w.heap.size < _; omega)).trans y1⟩
  have HEL := toHid hel
  clear hw hl0 hp0 hids hblk hel
  go_cut [5, 6] (fun s5 s6 wx => ∃ (i : Nat) (f : Bool), s5 = .int .i64 i ∧ s6 = .bool f ∧ (f = true → (S.N.map AN.id)[i]? = some id) ∧ (f = false → id ∉ S.N.map AN.id) ∧ Below W.heap.size W wx)
  case first =>
    go_region_held3 (fun W' => W'.cell? ⟨b, 0, none⟩ = some (.slice na el nc) ∧ W'.cell? ⟨w.heap.size, 1, none⟩ = some (.int .i64 id))
      (first
        | with_reducible exact HS.out _ k1
        | with_reducible exact HS.out _ D0
        | exact ⟨c1, y1⟩
        | go_keep)
      (first
        | (go_at_call 120; refine (HF.out _ D0).mono ?_; rintro e u1 ⟨⟨i, f, rfl, hy, hn⟩, h1⟩; have k1 : Below W.heap.size W u1 := D0.trans h1; have HYN := toHid (And.intro hy hn); clear hy hn))
    all_goals
      go_wp2_with fail
      go_meet
      exact ⟨i, f, rfl, rfl, HYN.out.1, HYN.out.2, k1⟩
  case rest =>
    obtain ⟨i, f, rfl, rfl, hy, hn, kc⟩ := hcut
    have k0 := HB0.out.trans (kc.mono HB0.out.size)
    have HK0 := toHid k0
    have HQC := toHid ((kc.block w.heap.size (by rw [HZ.out]; omega)).trans HQ.out)
    have HYN := toHid (And.intro hy hn)
    clear hy hn k0 kc c1 y1 D0 HF HS
    cases f
    · have HNN := toHid (HYN.out.2 rfl)
      clear HYN
      go_wp2_with fail
      go_ret
      have hE : ez = 5 := by rw [HEZ.out, dropNE, if_neg HNN.out]
      exact ⟨by rw [hE]; rfl, Rest.of_below HK0.out, fun h => by rw [hE] at h; cases h⟩
    · have hid := HYN.out.1 rfl
      have HMEM := toHid (List.mem_of_getElem? hid)
      have hil : i < S.N.length := by have := (List.getElem?_eq_some_iff.1 hid).1; simpa using this
      obtain ⟨x, hx⟩ : ∃ x, S.N[i]? = some x := ⟨S.N[i], List.getElem?_eq_getElem hil⟩
      have hxid : x.id = id := by
        rw [List.getElem?_map, hx] at hid
        exact Option.some.inj hid
      have hfil : S.N.eraseIdx i = S.N.filter (fun y => y.id != id) := by
        rw [erase_filter AN.id S.N i x hx (rise_nodup HRI.out), hxid]
      have HFIL := toHid hfil
      obtain ⟨r, hr⟩ : ∃ r, S.N.length = i + 1 + r := ⟨S.N.length - (i + 1), by omega⟩
      have HR := toHid hr
      have hsum : (i : Int) + 1 ≤ 9223372036854775807 := by have := HEL.out; omega
      have h1000 : i + 1 + r ≤ 1000 := by have := HEL.out; omega
      clear hid hil hx hxid hfil hr HYN
      obtain ⟨em, hem⟩ : ∃ z, z = S.E.length := ⟨_, rfl⟩
      obtain ⟨R, hR⟩ : ∃ z, z = S.E.any (touchE id) := ⟨_, rfl⟩
      obtain ⟨na3, nc3, ea3, ec3, ma3, mc3, PN3, PE3, PM3, hw3⟩ := HW.out.below HK0.out
      have hblk3 := hw3.blk
      rw [← hem] at hblk3
      have c3 := cell_of hblk3 1
      simp at c3
      have hes3 := hw3.es.reads2.2
      have HHAS : Hid (Calls Tryz.prog 121 #[.slice ea3 em ec3, .func (.func 122) #[] #[.pointer (some ⟨w.heap.size, 0, none⟩)]] wc fun e w' => e = .returned (.bool R) ∧ Below wc.heap.size wc w') := by
        rw [hem, hR]
        exact touch_has id S.E ea3 S.E.length ec3 w.heap.size wc hes3 (cell_of HQC.out 1) (lt_of_some HQC.out)
      have HRR := toHid hR
      clear hw3 hblk3 hes3 hem hR
      go_wp2_with fail
      refine HHAS.out.mono ?_
      rintro e w5 ⟨rfl, k5⟩
      have HK5 := toHid (below3 HK0.out HK0.out.size k5)
      clear k5 c3 HHAS
      cases R
      · have hE : ez = 0 := by rw [HEZ.out, dropNE, if_pos HMEM.out, if_neg (by rw [← HRR.out]; decide)]
        have HE0 := toHid hE
        clear hE
        obtain ⟨na, nc, ea, ec, ma, mc, PN, PE, PM, hw⟩ := HW.out.below HK5.out
        obtain ⟨hob, L, hrow, hpair⟩ := hw.ns
        have hLl : L.length = i + 1 + r := by rw [hpair.1, HR.out]
        obtain ⟨g, cap, hv, _, hg⟩ := hrow.form (by omega)
        injection hv with hv1 hv2 hv3
        subst hv3
        have hblk := hw.blk
        rw [hLl] at hrow
        rw [HR.out] at hrow
        rw [HR.out, hv1] at hblk
        rw [hv1] at hrow
        have HDEL := toHid (deleteN_any L g nc i r w5 hLl hrow h1000)
        have hgb : g ≠ b := (hw.pn g (hob g (by rw [hv1]; rfl))).2
        have hbl5 : b < w5.heap.size := hw.lt b hw.ob
        have c1 := cell_of hblk 0
        simp at c1
        have HBLK := toHid hblk
        have HWA := toHid hw
        have HPAIR := toHid hpair
        have HV1 := toHid hv1
        have HGB := toHid hgb
        clear hw hob hrow hpair hLl hv1 hv2 hblk hgb
        go_wp2_with fail
        refine HDEL.out.mono ?_
        rintro e u ⟨rfl, hown, hrest⟩
        have hbu := (hrest.block b hbl5 (fun e => HGB.out e.symm)).trans HBLK.out
        have d1 := cell_of hbu 0
        have f1 := free_of hbu 0
        simp at d1
        have hbl2 : b < u.heap.size := Nat.lt_of_lt_of_le hbl5 hrest.size
        have HOWN := toHid hown
        have HREST := toHid hrest
        clear hown hrest hbu HDEL
        go_wp2_with fail
        go_ret
        have hst := StepEnd.behind HW.out HK5.out (HWA.out.eraseN HV1.out HPAIR.out (by rw [HR.out]; omega) (by rw [HR.out]; omega) HOWN.out HREST.out)
        rw [HFIL.out] at hst
        exact ⟨by rw [HE0.out]; rfl, hst.2, fun _ => hst⟩
      · have hE : ez = 8 := by rw [HEZ.out, dropNE, if_pos HMEM.out, if_pos HRR.out.symm]
        have HE0 := toHid hE
        clear hE
        go_wp2_with fail
        go_ret
        exact ⟨by rw [HE0.out]; rfl, Rest.of_below HK5.out, fun h => by rw [HE0.out] at h; cases h⟩

set_option maxHeartbeats 4000000 in
set_option maxRecDepth 100000 in
theorem do_range (kk : Int) (hk : kk < 1 ∨ 8 ≤ kk) (O : Nat → Prop) (b : Nat) (S' : WS) (id frm dst : Int) (name : ByteArray) (vk vn : Int) (vs : ByteArray) (va : Option Addr) (vl vc : Nat) (la : Option Addr) (ll lc : Nat) (pa : Option Addr) (pl pc : Nat) (w : World) :
    Calls Tryz.prog 43 #[.pointer (some ⟨b, 0, none⟩), .agg #[.int .i64 kk, .int .i64 id, .int .i64 frm, .int .i64 dst, .string name, .int .i64 vk, .int .i64 vn, .string vs, .slice va vl vc, .slice la ll lc, .slice pa pl pc]] w fun e w' => ActEnd O w w' b S' 9 e := by
  rcases hk with hk | hk
  · go_enter Tryz.func43, Tryz.ntmps43
    go_wp2_with fail
    go_ret
    exact ⟨rfl, Rest.of_below (((Below.refl _ _).alloc (Nat.le_refl _) _).alloc (by simp) _), fun h => by cases h⟩
  · have h1 : ¬ kk < 1 := by omega
    go_enter Tryz.func43, Tryz.ntmps43
    go_wp2_with fail
    go_ret
    exact ⟨rfl, Rest.of_below (((Below.refl _ _).alloc (Nat.le_refl _) _).alloc (by simp) _), fun h => by cases h⟩

/-- What an operation holds: itself, its labels, its properties, its value's list, and what is wrong with each. -/
structure OpD where
  o : Om
  labs : List ByteArray
  P : List Pr
  X : List AP
  Lv : List T
  eL : Int
  eP : Int
  eC : Int

/-- The operation with the numbers that are meant. -/
def OpD.at (d : OpD) (made : List Int) : Om := ⟨d.o.k, meantI made d.o.id, meantI made d.o.frm, meantI made d.o.dst, d.o.name, d.o.vk, d.o.vn, d.o.vs, d.o.va, d.o.vl, d.o.vc, d.o.la, d.o.ll, d.o.lc, d.o.pa, d.o.pl, d.o.pc⟩

def OpD.ap (d : OpD) : AP := ⟨d.o.name, .node d.o.vk d.o.vn d.o.vs d.Lv⟩

/-- The work behind it. -/
def stepS (S : WS) (d : OpD) : WS :=
  if d.o.k = 1 then ⟨S.N ++ [⟨S.next, d.labs, d.X⟩], S.E, S.next + 1, S.made ++ [S.next]⟩
  else if d.o.k = 2 then ⟨S.N, S.E ++ [⟨S.next, (d.at S.made).frm, (d.at S.made).dst, d.o.name, d.X⟩], S.next + 1, S.made ++ [S.next]⟩
  else if d.o.k = 3 then ⟨S.N.filter (fun x => x.id != (d.at S.made).id), S.E, S.next, S.made⟩
  else if d.o.k = 4 then ⟨S.N, S.E.filter (fun x => x.id != (d.at S.made).id), S.next, S.made⟩
  else if d.o.k = 5 then setS S (d.at S.made).id d.ap (d.o.vk != 0)
  else ⟨labN S.N (d.at S.made).id d.o.name (d.o.k == 6), S.E, S.next, S.made⟩

/-- What is wrong with it. -/
noncomputable def stepE (S : WS) (d : OpD) : Int :=
  if d.o.k = 1 then addNE S (if d.eL = 0 then d.eP else d.eL)
  else if d.o.k = 2 then addEE S (d.at S.made) d.eP
  else if d.o.k = 3 then dropNE S (d.at S.made).id
  else if d.o.k = 4 then dropEE S (d.at S.made).id
  else if d.o.k = 5 then setEr S (d.at S.made).id d.ap (d.o.vk != 0) d.eC
  else if d.o.k = 6 ∨ d.o.k = 7 then labEr S.N (d.at S.made).id d.o.name (d.o.k == 6)
  else 9

/-- What is asked of an operation that lies in memory at w. -/
structure OpIn (w : World) (d : OpD) : Prop where
  id : -9223372036854775808 ≤ d.o.id
  frm : -9223372036854775808 ≤ d.o.frm
  dst : -9223372036854775808 ≤ d.o.dst
  nms : d.o.name.size ≤ 9223372036854775807
  vss : d.o.vs.size ≤ 9223372036854775807
  labels : ∀ W, Below w.heap.size w W → Calls Tryz.prog 79 #[.slice d.o.la d.o.ll d.o.lc] W fun e w' => e = .returned (.int .i64 d.eL) ∧ Below W.heap.size W w'
  props : ∀ W, Below w.heap.size w W → Calls Tryz.prog 80 #[.slice d.o.pa d.o.pl d.o.pc] W fun e w' => e = .returned (.int .i64 d.eP) ∧ Below W.heap.size W w'
  node : d.eL = 0 → d.eP = 0 → ∀ n, AN.ok ⟨n, d.labs, d.X⟩ ∧ ∀ W, Below w.heap.size w W → NdIn W ⟨n, d.labs, d.o.la, d.o.ll, d.o.lc, d.P, d.o.pa, d.o.pl, d.o.pc⟩ ⟨n, d.labs, d.X⟩
  edge : d.eP = 0 → ∀ n f t, AE.ok ⟨n, f, t, d.o.name, d.X⟩ ∧ ∀ W, Below w.heap.size w W → EdIn W ⟨n, f, t, d.o.name, d.P, d.o.pa, d.o.pl, d.o.pc⟩ ⟨n, f, t, d.o.name, d.X⟩
  check : ∀ W, Below w.heap.size w W → Calls Tryz.prog 127 #[.agg #[.int .i64 d.o.vk, .int .i64 d.o.vn, .string d.o.vs, .slice d.o.va d.o.vl d.o.vc]] W fun e w' => e = .returned (.int .i64 d.eC) ∧ Below W.heap.size W w'
  fresh : d.eC = 0 → ∀ W, Below w.heap.size w W → Calls Tryz.prog 128 #[.agg #[.int .i64 d.o.vk, .int .i64 d.o.vn, .string d.o.vs, .slice d.o.va d.o.vl d.o.vc]] W fun e w' => ValEnd W w' d.o.vk d.o.vn d.o.vs d.Lv d.o.vl e ∧ Below W.heap.size W w'

/-- What the acts ask of the work. -/
structure Fit (S : WS) : Prop where
  n60 : S.N.length ≤ 60
  e60 : S.E.length ≤ 60
  nri : Rise (S.N.map AN.id)
  eri : Rise (S.E.map AE.id)
  labs : ∀ X ∈ S.N, RiseS X.labs ∧ X.labs.length ≤ 60
  nps : ∀ X ∈ S.N, RiseS (X.props.map AP.name) ∧ X.props.length ≤ 60
  eps : ∀ X ∈ S.E, RiseS (X.props.map AP.name) ∧ X.props.length ≤ 60
  made : S.made.length ≤ 1000
  next : 0 ≤ S.next

theorem do_any (d : OpD) (O : Nat → Prop) (b : Nat) (S : WS) (w W : World) (hd : OpIn w d) (hF : Fit S) (hW : WorkIn O W b S) (hO : ∀ j, O j → w.heap.size ≤ j) (hk : Below w.heap.size w W) :
    Calls Tryz.prog 43 #[.pointer (some ⟨b, 0, none⟩), .agg #[.int .i64 d.o.k, .int .i64 d.o.id, .int .i64 d.o.frm, .int .i64 d.o.dst, .string d.o.name, .int .i64 d.o.vk, .int .i64 d.o.vn, .string d.o.vs, .slice d.o.va d.o.vl d.o.vc, .slice d.o.la d.o.ll d.o.lc, .slice d.o.pa d.o.pl d.o.pc]] W fun e w' => ActEnd O W w' b (stepS S d) (stepE S d) e := by
  have hB := hk.size
  by_cases h1 : d.o.k = 1
  · rw [stepS, stepE, if_pos h1, if_pos h1]
    refine do_of d.o.k _ (.inl ⟨h1, rfl⟩) O b S _ d.o.id d.o.frm d.o.dst d.o.name d.o.vk d.o.vn d.o.vs d.o.va d.o.vl d.o.vc d.o.la d.o.ll d.o.lc d.o.pa d.o.pl d.o.pc _ W hW hF.made hd.id hd.frm hd.dst fun V kV => ?_
    exact addNode_any O b S (d.at S.made) d.labs d.P d.X d.eL d.eP _ w.heap.size V (hW.below kV) (Nat.le_trans hB kV.size) hO hF.made hF.next (fun U kU => hd.labels U ((hk.trans (kV.mono hB)).trans kU)) (fun U kU => hd.props U ((hk.trans (kV.mono hB)).trans kU)) rfl (fun h0 => by
      have hl : d.eL = 0 := by
        by_cases hl : d.eL = 0
        · exact hl
        · rw [if_neg hl] at h0; exact absurd h0 hl
      rw [if_pos hl] at h0
      exact ⟨(hd.node hl h0 S.next).1, fun U kU => (hd.node hl h0 S.next).2 U ((hk.trans (kV.mono hB)).trans kU)⟩)
  · by_cases h2 : d.o.k = 2
    · rw [stepS, stepE, if_neg h1, if_neg h1, if_pos h2, if_pos h2]
      refine do_of d.o.k _ (.inr (.inl ⟨h2, rfl⟩)) O b S _ d.o.id d.o.frm d.o.dst d.o.name d.o.vk d.o.vn d.o.vs d.o.va d.o.vl d.o.vc d.o.la d.o.ll d.o.lc d.o.pa d.o.pl d.o.pc _ W hW hF.made hd.id hd.frm hd.dst fun V kV => ?_
      exact addEdge_any O b S (d.at S.made) d.P d.X d.eP w.heap.size V (hW.below kV) (Nat.le_trans hB kV.size) hO hF.made hF.next hF.n60 hF.nri hd.nms (fun U kU => hd.props U ((hk.trans (kV.mono hB)).trans kU)) (fun h0 => ⟨(hd.edge h0 _ _ _).1, fun U kU => (hd.edge h0 _ _ _).2 U ((hk.trans (kV.mono hB)).trans kU)⟩)
    · by_cases h3 : d.o.k = 3
      · rw [stepS, stepE, if_neg h1, if_neg h1, if_neg h2, if_neg h2, if_pos h3, if_pos h3]
        refine do_of d.o.k _ (.inr (.inr (.inl ⟨h3, rfl⟩))) O b S _ d.o.id d.o.frm d.o.dst d.o.name d.o.vk d.o.vn d.o.vs d.o.va d.o.vl d.o.vc d.o.la d.o.ll d.o.lc d.o.pa d.o.pl d.o.pc _ W hW hF.made hd.id hd.frm hd.dst fun V kV => ?_
        exact dropNode_any O b S (d.at S.made) V (hW.below kV) hF.n60 hF.nri
      · by_cases h4 : d.o.k = 4
        · rw [stepS, stepE, if_neg h1, if_neg h1, if_neg h2, if_neg h2, if_neg h3, if_neg h3, if_pos h4, if_pos h4]
          refine do_of d.o.k _ (.inr (.inr (.inr (.inl ⟨h4, rfl⟩)))) O b S _ d.o.id d.o.frm d.o.dst d.o.name d.o.vk d.o.vn d.o.vs d.o.va d.o.vl d.o.vc d.o.la d.o.ll d.o.lc d.o.pa d.o.pl d.o.pc _ W hW hF.made hd.id hd.frm hd.dst fun V kV => ?_
          exact dropEdge_any O b S (d.at S.made) V (hW.below kV) hF.e60 hF.eri
        · by_cases h5 : d.o.k = 5
          · rw [stepS, stepE, if_neg h1, if_neg h1, if_neg h2, if_neg h2, if_neg h3, if_neg h3, if_neg h4, if_neg h4, if_pos h5, if_pos h5]
            refine do_of d.o.k _ (.inr (.inr (.inr (.inr (.inl ⟨h5, rfl⟩))))) O b S _ d.o.id d.o.frm d.o.dst d.o.name d.o.vk d.o.vn d.o.vs d.o.va d.o.vl d.o.vc d.o.la d.o.ll d.o.lc d.o.pa d.o.pl d.o.pc _ W hW hF.made hd.id hd.frm hd.dst fun V kV => ?_
            exact set_any O b S (d.at S.made) d.Lv d.eC V (hW.below kV) hF.n60 hF.nri hF.e60 hF.eri hF.nps hF.eps ⟨hd.nms, hd.vss⟩ (fun U => name_any d.o.name U hd.nms) (fun U kU => hd.check U ((hk.trans (kV.mono hB)).trans (kU.mono (Nat.le_trans hB kV.size)))) (fun h0 U kU => hd.fresh h0 U ((hk.trans (kV.mono hB)).trans (kU.mono (Nat.le_trans hB kV.size))))
          · by_cases h6 : d.o.k = 6
            · rw [stepS, stepE, if_neg h1, if_neg h1, if_neg h2, if_neg h2, if_neg h3, if_neg h3, if_neg h4, if_neg h4, if_neg h5, if_neg h5, if_pos (.inl h6)]
              refine do_of d.o.k _ (.inr (.inr (.inr (.inr (.inr (.inl ⟨h6, rfl⟩)))))) O b S _ d.o.id d.o.frm d.o.dst d.o.name d.o.vk d.o.vn d.o.vs d.o.va d.o.vl d.o.vc d.o.la d.o.ll d.o.lc d.o.pa d.o.pl d.o.pc _ W hW hF.made hd.id hd.frm hd.dst fun V kV => ?_
              have e6 : (d.o.k == 6) = true := by simp [h6]
              rw [e6]
              exact tag_any O b (d.at S.made) V S _ _ (hW.below kV) fun U kU => label_any O b S (d.at S.made) true U ((hW.below kV).below kU) hF.n60 hF.nri hF.labs hd.nms (fun Z => name_any d.o.name Z hd.nms)
            · by_cases h7 : d.o.k = 7
              · rw [stepS, stepE, if_neg h1, if_neg h1, if_neg h2, if_neg h2, if_neg h3, if_neg h3, if_neg h4, if_neg h4, if_neg h5, if_neg h5, if_pos (.inr h7)]
                refine do_of d.o.k _ (.inr (.inr (.inr (.inr (.inr (.inr ⟨h7, rfl⟩)))))) O b S _ d.o.id d.o.frm d.o.dst d.o.name d.o.vk d.o.vn d.o.vs d.o.va d.o.vl d.o.vc d.o.la d.o.ll d.o.lc d.o.pa d.o.pl d.o.pc _ W hW hF.made hd.id hd.frm hd.dst fun V kV => ?_
                have e6 : (d.o.k == 6) = false := by simp [h7]
                rw [e6]
                exact untag_any O b (d.at S.made) V S _ _ (hW.below kV) fun U kU => label_any O b S (d.at S.made) false U ((hW.below kV).below kU) hF.n60 hF.nri hF.labs hd.nms (fun Z => name_any d.o.name Z hd.nms)
              · rw [stepE, if_neg h1, if_neg h2, if_neg h3, if_neg h4, if_neg h5, if_neg (by omega)]
                exact do_range d.o.k (by omega) O b _ d.o.id d.o.frm d.o.dst d.o.name d.o.vk d.o.vn d.o.vs d.o.va d.o.vl d.o.vc d.o.la d.o.ll d.o.lc d.o.pa d.o.pl d.o.pc W
end Go.Proofs.YtebbjmjgojekdaaGreatDoor
