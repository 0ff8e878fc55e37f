/-
  What is proved here: what the texts SCmpE, TFindE, SInsE prove, in one text.
-/
import Derived.Test.YtdlmlpddkfnfmaaGreatDoorQMAS
import Derived.Test.YtdlmlpddkfnfmaaGreatDoorQMAC
import Derived.Deep.RegionHeld3
import Derived.Test.YtdlmlpddkfnfmaaGreatDoorQMAP
import Derived.Test.YtdlmlpddkfnfmaaGreatDoorQMAN
import Derived.Test.YtdlmlpddkfnfmaaGreatDoorQMAO
import Derived.BigQuiet
import Derived.Test.YtdlmlpddkfnfmaaGreatDoorQMAQ
namespace Go.Proofs.YtdlmlpddkfnfmaaGreatDoor
open Go.RowKit
set_option linter.unusedVariables false

/-- The function that the sort is handed. -/
abbrev fvE (nb : Nat) : Value := .func (.func 108) #[] #[.pointer (some ⟨nb, 0, none⟩)]

/-- What it has caught. -/
def CmpOkE (w : World) (nb : Nat) : Prop := nb < w.heap.size ∧ w.cell? ⟨nb, 0, none⟩ = some (.func (.func 59) #[] #[])

theorem CmpOkE.below {w w' : World} {nb : Nat} (h : CmpOkE w nb) (k : Below w.heap.size w w') : CmpOkE w' nb := ⟨Nat.lt_of_lt_of_le h.1 k.size, (k.cell (p := ⟨nb, 0, none⟩) h.1).trans h.2⟩

theorem CmpOkE.rest {w w' : World} {nb g : Nat} (h : CmpOkE w nb) (hg : nb ≠ g) (k : Rest (fun j => j = g) w w') : CmpOkE w' nb := ⟨Nat.lt_of_lt_of_le h.1 k.size, (World.cell?_of_block (k.block nb h.1 hg)).trans h.2⟩

set_option maxHeartbeats 2000000 in
set_option maxRecDepth 100000 in
theorem edgeID_any (x : Ed) (w : World) : Calls Tryz.prog 59 #[.agg #[.int .i64 x.id, .int .i64 x.frm, .int .i64 x.dst, .string x.typ, .slice x.pa x.pl x.pc]] w fun e w' => e = .returned (.int .i64 x.id) ∧ Below w.heap.size w w' := by
  have b0 : Below w.heap.size w (w.alloc (.cells #[.int .i64 x.id, .int .i64 x.frm, .int .i64 x.dst, .string x.typ, .slice x.pa x.pl x.pc] 53)) := (Below.refl _ _).alloc (Nat.le_refl _) _
  go_enter Tryz.func59, Tryz.ntmps59
  go_wp2_with fail
  go_ret
  exact ⟨rfl, b0⟩

set_option maxHeartbeats 4000000 in
set_option maxRecDepth 100000 in
theorem cmpE_any (nb : Nat) (x y : Ed) (w : World) (h : CmpOkE w nb) :
    Calls Tryz.prog 108 #[.agg #[.int .i64 x.id, .int .i64 x.frm, .int .i64 x.dst, .string x.typ, .slice x.pa x.pl x.pc], .agg #[.int .i64 y.id, .int .i64 y.frm, .int .i64 y.dst, .string y.typ, .slice y.pa y.pl y.pc], .pointer (some ⟨nb, 0, none⟩)] w fun e w' => e = .returned (.int .i64 (cmpN x.id y.id)) ∧ Below w.heap.size w w' := by
  have b0 : Below w.heap.size w ((w.alloc (.cells #[.int .i64 x.id, .int .i64 x.frm, .int .i64 x.dst, .string x.typ, .slice x.pa x.pl x.pc] 53)).alloc (.cells #[.int .i64 y.id, .int .i64 y.frm, .int .i64 y.dst, .string y.typ, .slice y.pa y.pl y.pc] 53)) := ((Below.refl _ _).alloc (Nat.le_refl _) _).alloc (by simp) _
  have hx1 : ((w.alloc (.cells #[.int .i64 x.id, .int .i64 x.frm, .int .i64 x.dst, .string x.typ, .slice x.pa x.pl x.pc] 53)).alloc (.cells #[.int .i64 y.id, .int .i64 y.frm, .int .i64 y.dst, .string y.typ, .slice y.pa y.pl y.pc] 53)).heap[w.heap.size]? = _ := (Below.heap_alloc _ _ _ (by simp)).trans (alloc_new w (.cells #[.int .i64 x.id, .int .i64 x.frm, .int .i64 x.dst, .string x.typ, .slice x.pa x.pl x.pc] 53))
  have hx2 : ((w.alloc (.cells #[.int .i64 x.id, .int .i64 x.frm, .int .i64 x.dst, .string x.typ, .slice x.pa x.pl x.pc] 53)).alloc (.cells #[.int .i64 y.id, .int .i64 y.frm, .int .i64 y.dst, .string y.typ, .slice y.pa y.pl y.pc] 53)).heap[w.heap.size + 1]? = some (.cells #[.int .i64 y.id, .int .i64 y.frm, .int .i64 y.dst, .string y.typ, .slice y.pa y.pl y.pc] 53 (0, 0)) := by
    have := alloc_new (w.alloc (.cells #[.int .i64 x.id, .int .i64 x.frm, .int .i64 x.dst, .string x.typ, .slice x.pa x.pl x.pc] 53)) (.cells #[.int .i64 y.id, .int .i64 y.frm, .int .i64 y.dst, .string y.typ, .slice y.pa y.pl y.pc] 53)
    simpa using this
  have hz : ((w.alloc (.cells #[.int .i64 x.id, .int .i64 x.frm, .int .i64 x.dst, .string x.typ, .slice x.pa x.pl x.pc] 53)).alloc (.cells #[.int .i64 y.id, .int .i64 y.frm, .int .i64 y.dst, .string y.typ, .slice y.pa y.pl y.pc] 53)).heap.size = w.heap.size + 2 := by simp
  have HC := toHid (h.below b0)
  have HB := toHid b0
  have HX1 := toHid hx1
  have HX2 := toHid hx2
  have HZ := toHid hz
  have NI := toHid edgeID_any
  have hlt := h.1
  clear h b0 hx1 hx2 hz
  go_enter Tryz.func108, Tryz.ntmps108
  go_upto_region 1 with fail
  generalize (w.alloc (.cells #[.int .i64 x.id, .int .i64 x.frm, .int .i64 x.dst, .string x.typ, .slice x.pa x.pl x.pc] 53)).alloc (.cells #[.int .i64 y.id, .int .i64 y.frm, .int .i64 y.dst, .string y.typ, .slice y.pa y.pl y.pc] 53) = W at HC HB HX1 HX2 HZ ⊢
  have HS : Hid (∀ W', Below W.heap.size W W' → (W'.cell? ⟨w.heap.size, 0, none⟩ = some (.int .i64 x.id) ∧ W'.cell? ⟨w.heap.size, 1, none⟩ = some (.int .i64 x.frm) ∧ W'.cell? ⟨w.heap.size, 2, none⟩ = some (.int .i64 x.dst) ∧ W'.cell? ⟨w.heap.size, 3, none⟩ = some (.string x.typ) ∧ W'.cell? ⟨w.heap.size, 4, none⟩ = some (.slice x.pa x.pl x.pc)) ∧ (W'.cell? ⟨w.heap.size + 1, 0, none⟩ = some (.int .i64 y.id) ∧ W'.cell? ⟨w.heap.size + 1, 1, none⟩ = some (.int .i64 y.frm) ∧ W'.cell? ⟨w.heap.size + 1, 2, none⟩ = some (.int .i64 y.dst) ∧ W'.cell? ⟨w.heap.size + 1, 3, none⟩ = some (.string y.typ) ∧ W'.cell? ⟨w.heap.size + 1, 4, none⟩ = some (.slice y.pa y.pl y.pc)) ∧ W'.cell? ⟨nb, 0, none⟩ = some (.func (.func 59) #[] #[])) := fun W' kk => by
    have q1 : ∀ o, W'.cell? ⟨w.heap.size, o, none⟩ = _ := fun o => (kk.cell (p := ⟨w.heap.size, o, none⟩) (by show w.heap.size < W.heap.size; rw [HZ.out]; omega)).trans (cell_of HX1.out o)
    have q2 : ∀ o, W'.cell? ⟨w.heap.size + 1, o, none⟩ = _ := fun o => (kk.cell (p := ⟨w.heap.size + 1, o, none⟩) (by show w.heap.size + 1 < W.heap.size; rw [HZ.out]; omega)).trans (cell_of HX2.out o)
    exact ⟨⟨q1 0, q1 1, q1 2, q1 3, q1 4⟩, ⟨q2 0, q2 1, q2 2, q2 3, q2 4⟩, (HC.out.below kk).2⟩
  have D0 : Below W.heap.size W W.drew := (Below.refl _ _).drew
  obtain ⟨⟨x0, x1, x2, x3, x4⟩, ⟨y0, y1, y2, y3, y4⟩, n0⟩ := HS.out W (Below.refl _ _)
  go_region_held3 (fun W' => (W'.cell? ⟨w.heap.size, 0, none⟩ = some (.int .i64 x.id) ∧ W'.cell? ⟨w.heap.size, 1, none⟩ = some (.int .i64 x.frm) ∧ W'.cell? ⟨w.heap.size, 2, none⟩ = some (.int .i64 x.dst) ∧ W'.cell? ⟨w.heap.size, 3, none⟩ = some (.string x.typ) ∧ W'.cell? ⟨w.heap.size, 4, none⟩ = some (.slice x.pa x.pl x.pc)) ∧ (W'.cell? ⟨w.heap.size + 1, 0, none⟩ = some (.int .i64 y.id) ∧ W'.cell? ⟨w.heap.size + 1, 1, none⟩ = some (.int .i64 y.frm) ∧ W'.cell? ⟨w.heap.size + 1, 2, none⟩ = some (.int .i64 y.dst) ∧ W'.cell? ⟨w.heap.size + 1, 3, none⟩ = some (.string y.typ) ∧ W'.cell? ⟨w.heap.size + 1, 4, none⟩ = some (.slice y.pa y.pl y.pc)) ∧ W'.cell? ⟨nb, 0, none⟩ = some (.func (.func 59) #[] #[]))
    (first
      | with_reducible exact HS.out _ k2
      | with_reducible exact HS.out _ k1
      | with_reducible exact HS.out _ D0
      | exact ⟨⟨x0, x1, x2, x3, x4⟩, ⟨y0, y1, y2, y3, y4⟩, n0⟩
      | go_keep)
    (first
      | (go_at_call 102; go_fit (compare_num x.id y.id u2); rintro e u3 ⟨rfl, rfl⟩)
      | (go_at_call 59; go_fit (NI.out y u1); rintro e u2 ⟨rfl, h2⟩; have k2 : Below W.heap.size W u2 := k1.trans (h2.mono k1.size))
      | (go_at_call 59; go_fit (NI.out x u1); rintro e u2 ⟨rfl, h2⟩; have k2 : Below W.heap.size W u2 := k1.trans (h2.mono k1.size))
      | (go_at_call 59; go_fit (NI.out x W.drew); rintro e u1 ⟨rfl, h1⟩; have k1 : Below W.heap.size W u1 := D0.trans h1)
      | (go_at_call 59; go_fit (NI.out y W.drew); rintro e u1 ⟨rfl, h1⟩; have k1 : Below W.heap.size W u1 := D0.trans h1))
  all_goals
    go_wp2_with fail
    go_ret
    exact ⟨rfl, HB.out.trans (k2.mono (by rw [HZ.out]; omega))⟩

set_option maxHeartbeats 4000000 in
set_option maxRecDepth 100000 in
theorem turnE_one (p : Ed) (x : AE) (q : Ed) (y : AE) (fb xb : Nat) (w : World) (hp : EdIn w p x) (hq : EdIn w q y) (hx : x.ok) (hy : y.ok) (hfb : w.cell? ⟨fb, 0, none⟩ = some (.func (.func 51) #[] #[])) (hfl : fb < w.heap.size) (hxb : w.heap[xb]? = some (.cells #[.int .i64 p.id, .int .i64 p.frm, .int .i64 p.dst, .string p.typ, .slice p.pa p.pl p.pc] 53 (0, 0))) :
    Calls Tryz.prog 104 #[.agg #[.int .i64 q.id, .int .i64 q.frm, .int .i64 q.dst, .string q.typ, .slice q.pa q.pl q.pc], .pointer (some ⟨fb, 0, none⟩), .pointer (some ⟨xb, 0, none⟩)] w fun e w' => e = .returned (.bool (sameE x y)) ∧ Below w.heap.size w w' := by
  have HC : Hid (∀ W, Below w.heap.size w W → Calls Tryz.prog 51 #[.agg #[.int .i64 p.id, .int .i64 p.frm, .int .i64 p.dst, .string p.typ, .slice p.pa p.pl p.pc], .agg #[.int .i64 q.id, .int .i64 q.frm, .int .i64 q.dst, .string q.typ, .slice q.pa q.pl q.pc]] W fun e w' => e = .returned (.bool (sameE x y)) ∧ Below W.heap.size W w') := fun W kW => sameEdge_any p x q y W (hp.below kW) (hq.below kW) hx hy
  have hxl : xb < w.heap.size := lt_block hxb
  have x0 := cell_of hxb 0
  have x1 := cell_of hxb 1
  have x2 := cell_of hxb 2
  have x3 := cell_of hxb 3
  have x4 := cell_of hxb 4
  simp at x0 x1 x2 x3 x4
  clear hp hq hx hy hxb
  have hb0 : Below w.heap.size w (w.alloc (.cells #[.int .i64 q.id, .int .i64 q.frm, .int .i64 q.dst, .string q.typ, .slice q.pa q.pl q.pc] 53)) := (Below.refl _ _).alloc (Nat.le_refl _) _
  have HB0 := toHid hb0
  clear hb0
  go_enter Tryz.func104, Tryz.ntmps104
  go_wp2_with fail
  refine (HC.out _ HB0.out).mono ?_
  rintro e w1 ⟨rfl, k1⟩
  have hb1 := HB0.out.trans (k1.mono HB0.out.size)
  clear k1
  go_wp2_with fail
  go_ret
  exact ⟨rfl, hb1⟩

set_option maxHeartbeats 4000000 in
set_option maxRecDepth 100000 in
theorem turnE_index (p : Ed) (x : AE) (Y : List AE) (a : Option Addr) (l c : Nat) (fb xb : Nat) (w : World) (hp : EdIn w p x) (hY : EsAt w Y a l) (hx : x.ok) (hy : ∀ y ∈ Y, y.ok) (hfb : w.cell? ⟨fb, 0, none⟩ = some (.func (.func 51) #[] #[])) (hfl : fb < w.heap.size) (hxb : w.heap[xb]? = some (.cells #[.int .i64 p.id, .int .i64 p.frm, .int .i64 p.dst, .string p.typ, .slice p.pa p.pl p.pc] 53 (0, 0))) :
    Calls Tryz.prog 95 #[.slice a l c, .func (.func 104) #[] #[.pointer (some ⟨fb, 0, none⟩), .pointer (some ⟨xb, 0, none⟩)]] w fun e w' => e = .returned (.int .i64 (idxF (sameE x) 0 Y)) ∧ Below w.heap.size w w' := by
  obtain ⟨R, hR⟩ : ∃ R, R = idxF (sameE x) 0 Y := ⟨_, rfl⟩
  rw [← hR]
  obtain ⟨Q, ⟨hl, hmx, hat⟩, hq⟩ := hY
  have HL := toHid hl
  have HAT := toHid hat
  have HQ := toHid hq
  have HYL : Hid (Y.length = l) := by rw [HL.out]; exact HQ.out.1.symm
  have HONE : Hid (∀ W q y, Below w.heap.size w W → y ∈ Y → EdIn w q y → Calls Tryz.prog 104 #[.agg #[.int .i64 q.id, .int .i64 q.frm, .int .i64 q.dst, .string q.typ, .slice q.pa q.pl q.pc], .pointer (some ⟨fb, 0, none⟩), .pointer (some ⟨xb, 0, none⟩)] W fun e w' => e = .returned (.bool (sameE x y)) ∧ Below W.heap.size W w') := fun W q y kW hm hqy => turnE_one p x q y fb xb W (hp.below kW) (hqy.below kW) hx (hy y hm) ((kW.cell (p := ⟨fb, 0, none⟩) hfl).trans hfb) (Nat.lt_of_lt_of_le hfl kW.size) ((kW.block xb (lt_block hxb)).trans hxb)
  have H3 := toHid (show R = idxF (sameE x) 0 (Y.drop 0) from hR)
  clear hR hl hat hq hp hx hy hfb hfl hxb
  go_enter Tryz.func95, Tryz.ntmps95
  go_wp2_with fail
  go_loopg [8] l (fun g s8 wr => ∃ i : Nat, i ≤ l ∧ l - i ≤ g ∧ s8 = .int .i64 i ∧ Below w.heap.size w wr ∧ R = idxF (sameE x) i (Y.drop i))
  case atStart => exact ⟨0, Nat.zero_le _, by omega, rfl, Below.refl _ _, H3.out⟩
  case round =>
    clear H3
    obtain ⟨i, hi, hg, rfl, hbw, hfe⟩ := hrel
    have HFE := toHid hfe
    clear hfe
    by_cases hlt : i < l
    · obtain ⟨b, off, ha, hb, hc⟩ := HAT.out (by omega)
      subst ha
      obtain ⟨q, hq, _⟩ := drop_get (L := Q) (i := i) (by have := HL.out; omega)
      obtain ⟨y, hy, hqy⟩ := HQ.out.left hq
      obtain ⟨hsz, c0, c1, c2, c3, c4⟩ := hc i q hq
      have qq : ∀ o, wr.cell? ⟨b, o, none⟩ = w.cell? ⟨b, o, none⟩ := fun o => hbw.cell (p := ⟨b, o, none⟩) hb
      have d0 := (qq _).trans c0
      have d1 := (qq _).trans c1
      have d2 := (qq _).trans c2
      have d3 := (qq _).trans c3
      have d4 := (qq _).trans c4
      have hdy : Y.drop i = y :: Y.drop (i + 1) := by
        obtain ⟨z, hz, hd⟩ := drop_get (L := Y) (i := i) (by have := HYL.out; omega)
        rw [hy] at hz
        injection hz with hz
        rw [hz]
        exact hd
      have H4 := toHid (show R = if sameE x y = true then (i : Int) else idxF (sameE x) (i + 1) (Y.drop (i + 1)) by rw [HFE.out, hdy]; rfl)
      have HC := toHid (HONE.out wr q y hbw (List.mem_of_getElem? hy) hqy)
      clear hc hq hy hqy c0 c1 c2 c3 c4 qq hdy HFE
      have hil : (i : Int) < l := by omega
      go_wp2_with fail
      refine HC.out.mono ?_
      rintro e w2 ⟨rfl, k2⟩
      have hb2 := hbw.trans (k2.mono hbw.size)
      clear k2 d0 d1 d2 d3 d4
      cases hs : sameE x y with
      | true =>
        have H5 := toHid (show R = (i : Int) by rw [H4.out, if_pos hs])
        clear H4 hs
        go_wp2_with fail
        go_ret
        exact ⟨ret_int (by rw [H5.out]), hb2⟩
      | false =>
        have H5 := toHid (show R = idxF (sameE x) (i + 1) (Y.drop (i + 1)) by rw [H4.out, if_neg (by rw [hs]; decide)])
        clear H4 hs
        go_wp2_with fail
        go_roundg (l - (i + 1))
        case measure => omega
        case rel => exact ⟨i + 1, by omega, by omega, by go_num, hb2, H5.out⟩
    · have H3 := toHid (show R = -1 by rw [HFE.out, List.drop_eq_nil_of_le (by have := HYL.out; omega)]; rfl)
      clear HFE
      go_wp2_with fail
      go_ret
      exact ⟨ret_int (by rw [H3.out]), hbw⟩

/-- One number. -/
def numE (x y : AE) : Bool := x.id == y.id

set_option maxHeartbeats 4000000 in
set_option maxRecDepth 100000 in
theorem numE_one (p : Ed) (x : AE) (q : Ed) (y : AE) (fb xb : Nat) (w : World) (hp : EdIn w p x) (hq : EdIn w q y) (hx : x.ok) (hy : y.ok) (hfb : w.cell? ⟨fb, 0, none⟩ = some (.func (.func 59) #[] #[])) (hfl : fb < w.heap.size) (hxb : w.heap[xb]? = some (.cells #[.int .i64 p.id, .int .i64 p.frm, .int .i64 p.dst, .string p.typ, .slice p.pa p.pl p.pc] 53 (0, 0))) :
    Calls Tryz.prog 106 #[.agg #[.int .i64 q.id, .int .i64 q.frm, .int .i64 q.dst, .string q.typ, .slice q.pa q.pl q.pc], .pointer (some ⟨fb, 0, none⟩), .pointer (some ⟨xb, 0, none⟩)] w fun e w' => e = .returned (.bool (numE x y)) ∧ Below w.heap.size w w' := by
  have e1 : numE x y = (p.id == q.id) := by unfold numE; rw [hp.1, hq.1]
  rw [e1]
  have hxl : xb < w.heap.size := lt_block hxb
  have b0 : Below w.heap.size w (w.alloc (.cells #[.int .i64 q.id, .int .i64 q.frm, .int .i64 q.dst, .string q.typ, .slice q.pa q.pl q.pc] 53)) := (Below.refl _ _).alloc (Nat.le_refl _) _
  have hy1 := alloc_new w (.cells #[.int .i64 q.id, .int .i64 q.frm, .int .i64 q.dst, .string q.typ, .slice q.pa q.pl q.pc] 53)
  have hx1 : (w.alloc (.cells #[.int .i64 q.id, .int .i64 q.frm, .int .i64 q.dst, .string q.typ, .slice q.pa q.pl q.pc] 53)).heap[xb]? = some (.cells #[.int .i64 p.id, .int .i64 p.frm, .int .i64 p.dst, .string p.typ, .slice p.pa p.pl p.pc] 53 (0, 0)) := (b0.block xb hxl).trans hxb
  have hf1 : (w.alloc (.cells #[.int .i64 q.id, .int .i64 q.frm, .int .i64 q.dst, .string q.typ, .slice q.pa q.pl q.pc] 53)).cell? ⟨fb, 0, none⟩ = some (.func (.func 59) #[] #[]) := (b0.cell (p := ⟨fb, 0, none⟩) hfl).trans hfb
  have hz : (w.alloc (.cells #[.int .i64 q.id, .int .i64 q.frm, .int .i64 q.dst, .string q.typ, .slice q.pa q.pl q.pc] 53)).heap.size = w.heap.size + 1 := by simp
  have HB := toHid b0
  have HX1 := toHid hx1
  have HY1 := toHid hy1
  have HF1 := toHid hf1
  have HZ := toHid hz
  have NI := toHid edgeID_any
  clear b0 hx1 hy1 hf1 hz hp hq hx hy hfb hxb e1
  go_enter Tryz.func106, Tryz.ntmps106
  go_upto_region 1 with fail
  generalize w.alloc (.cells #[.int .i64 q.id, .int .i64 q.frm, .int .i64 q.dst, .string q.typ, .slice q.pa q.pl q.pc] 53) = W at HB HX1 HY1 HF1 HZ ⊢
  have HS : Hid (∀ W', Below W.heap.size W W' → (W'.cell? ⟨xb, 0, none⟩ = some (.int .i64 p.id) ∧ W'.cell? ⟨xb, 1, none⟩ = some (.int .i64 p.frm) ∧ W'.cell? ⟨xb, 2, none⟩ = some (.int .i64 p.dst) ∧ W'.cell? ⟨xb, 3, none⟩ = some (.string p.typ) ∧ W'.cell? ⟨xb, 4, none⟩ = some (.slice p.pa p.pl p.pc)) ∧ (W'.cell? ⟨w.heap.size, 0, none⟩ = some (.int .i64 q.id) ∧ W'.cell? ⟨w.heap.size, 1, none⟩ = some (.int .i64 q.frm) ∧ W'.cell? ⟨w.heap.size, 2, none⟩ = some (.int .i64 q.dst) ∧ W'.cell? ⟨w.heap.size, 3, none⟩ = some (.string q.typ) ∧ W'.cell? ⟨w.heap.size, 4, none⟩ = some (.slice q.pa q.pl q.pc)) ∧ W'.cell? ⟨fb, 0, none⟩ = some (.func (.func 59) #[] #[])) := fun W' kk => by
    have q1 : ∀ o, W'.cell? ⟨xb, o, none⟩ = _ := fun o => (kk.cell (p := ⟨xb, o, none⟩) (by show xb < W.heap.size; rw [HZ.out]; omega)).trans (cell_of HX1.out o)
    have q2 : ∀ o, W'.cell? ⟨w.heap.size, o, none⟩ = _ := fun o => (kk.cell (p := ⟨w.heap.size, o, none⟩) (by show w.heap.size < W.heap.size; rw [HZ.out]; omega)).trans (cell_of HY1.out o)
    exact ⟨⟨q1 0, q1 1, q1 2, q1 3, q1 4⟩, ⟨q2 0, q2 1, q2 2, q2 3, q2 4⟩, (kk.cell (p := ⟨fb, 0, none⟩) (by show fb < W.heap.size; rw [HZ.out]; omega)).trans HF1.out⟩
  have D0 : Below W.heap.size W W.drew := (Below.refl _ _).drew
  obtain ⟨⟨x0, x1, x2, x3, x4⟩, ⟨y0, y1, y2, y3, y4⟩, n0⟩ := HS.out W (Below.refl _ _)
  go_region_held3 (fun W' => (W'.cell? ⟨xb, 0, none⟩ = some (.int .i64 p.id) ∧ W'.cell? ⟨xb, 1, none⟩ = some (.int .i64 p.frm) ∧ W'.cell? ⟨xb, 2, none⟩ = some (.int .i64 p.dst) ∧ W'.cell? ⟨xb, 3, none⟩ = some (.string p.typ) ∧ W'.cell? ⟨xb, 4, none⟩ = some (.slice p.pa p.pl p.pc)) ∧ (W'.cell? ⟨w.heap.size, 0, none⟩ = some (.int .i64 q.id) ∧ W'.cell? ⟨w.heap.size, 1, none⟩ = some (.int .i64 q.frm) ∧ W'.cell? ⟨w.heap.size, 2, none⟩ = some (.int .i64 q.dst) ∧ W'.cell? ⟨w.heap.size, 3, none⟩ = some (.string q.typ) ∧ W'.cell? ⟨w.heap.size, 4, none⟩ = some (.slice q.pa q.pl q.pc)) ∧ W'.cell? ⟨fb, 0, none⟩ = some (.func (.func 59) #[] #[]))
    (first
      | with_reducible exact HS.out _ k2
      | with_reducible exact HS.out _ k1
      | with_reducible exact HS.out _ D0
      | exact ⟨⟨x0, x1, x2, x3, x4⟩, ⟨y0, y1, y2, y3, y4⟩, n0⟩
      | go_keep)
    (first
      | (go_at_call 59; go_fit (NI.out q u1); rintro e u2 ⟨rfl, h2⟩; have k2 : Below W.heap.size W u2 := k1.trans (h2.mono k1.size))
      | (go_at_call 59; go_fit (NI.out p u1); rintro e u2 ⟨rfl, h2⟩; have k2 : Below W.heap.size W u2 := k1.trans (h2.mono k1.size))
      | (go_at_call 59; go_fit (NI.out p W.drew); rintro e u1 ⟨rfl, h1⟩; have k1 : Below W.heap.size W u1 := D0.trans h1)
      | (go_at_call 59; go_fit (NI.out q W.drew); rintro e u1 ⟨rfl, h1⟩; have k1 : Below W.heap.size W u1 := D0.trans h1))
  all_goals
    go_wp2_with fail
    go_ret
    exact ⟨rfl, HB.out.trans (k2.mono (by rw [HZ.out]; omega))⟩

set_option maxHeartbeats 4000000 in
set_option maxRecDepth 100000 in
theorem numE_index (p : Ed) (x : AE) (Y : List AE) (a : Option Addr) (l c : Nat) (fb xb : Nat) (w : World) (hp : EdIn w p x) (hY : EsAt w Y a l) (hx : x.ok) (hy : ∀ y ∈ Y, y.ok) (hfb : w.cell? ⟨fb, 0, none⟩ = some (.func (.func 59) #[] #[])) (hfl : fb < w.heap.size) (hxb : w.heap[xb]? = some (.cells #[.int .i64 p.id, .int .i64 p.frm, .int .i64 p.dst, .string p.typ, .slice p.pa p.pl p.pc] 53 (0, 0))) :
    Calls Tryz.prog 95 #[.slice a l c, .func (.func 106) #[] #[.pointer (some ⟨fb, 0, none⟩), .pointer (some ⟨xb, 0, none⟩)]] w fun e w' => e = .returned (.int .i64 (idxF (numE x) 0 Y)) ∧ Below w.heap.size w w' := by
  obtain ⟨R, hR⟩ : ∃ R, R = idxF (numE x) 0 Y := ⟨_, rfl⟩
  rw [← hR]
  obtain ⟨Q, ⟨hl, hmx, hat⟩, hq⟩ := hY
  have HL := toHid hl
  have HAT := toHid hat
  have HQ := toHid hq
  have HYL : Hid (Y.length = l) := by rw [HL.out]; exact HQ.out.1.symm
  have HONE : Hid (∀ W q y, Below w.heap.size w W → y ∈ Y → EdIn w q y → Calls Tryz.prog 106 #[.agg #[.int .i64 q.id, .int .i64 q.frm, .int .i64 q.dst, .string q.typ, .slice q.pa q.pl q.pc], .pointer (some ⟨fb, 0, none⟩), .pointer (some ⟨xb, 0, none⟩)] W fun e w' => e = .returned (.bool (numE x y)) ∧ Below W.heap.size W w') := fun W q y kW hm hqy => numE_one p x q y fb xb W (hp.below kW) (hqy.below kW) hx (hy y hm) ((kW.cell (p := ⟨fb, 0, none⟩) hfl).trans hfb) (Nat.lt_of_lt_of_le hfl kW.size) ((kW.block xb (lt_block hxb)).trans hxb)
  have H3 := toHid (show R = idxF (numE x) 0 (Y.drop 0) from hR)
  clear hR hl hat hq hp hx hy hfb hfl hxb
  go_enter Tryz.func95, Tryz.ntmps95
  go_wp2_with fail
  go_loopg [8] l (fun g s8 wr => ∃ i : Nat, i ≤ l ∧ l - i ≤ g ∧ s8 = .int .i64 i ∧ Below w.heap.size w wr ∧ R = idxF (numE x) i (Y.drop i))
  case atStart => exact ⟨0, Nat.zero_le _, by omega, rfl, Below.refl _ _, H3.out⟩
  case round =>
    clear H3
    obtain ⟨i, hi, hg, rfl, hbw, hfe⟩ := hrel
    have HFE := toHid hfe
    clear hfe
    by_cases hlt : i < l
    · obtain ⟨b, off, ha, hb, hc⟩ := HAT.out (by omega)
      subst ha
      obtain ⟨q, hq, _⟩ := drop_get (L := Q) (i := i) (by have := HL.out; omega)
      obtain ⟨y, hy, hqy⟩ := HQ.out.left hq
      obtain ⟨hsz, c0, c1, c2, c3, c4⟩ := hc i q hq
      have qq : ∀ o, wr.cell? ⟨b, o, none⟩ = w.cell? ⟨b, o, none⟩ := fun o => hbw.cell (p := ⟨b, o, none⟩) hb
      have d0 := (qq _).trans c0
      have d1 := (qq _).trans c1
      have d2 := (qq _).trans c2
      have d3 := (qq _).trans c3
      have d4 := (qq _).trans c4
      have hdy : Y.drop i = y :: Y.drop (i + 1) := by
        obtain ⟨z, hz, hd⟩ := drop_get (L := Y) (i := i) (by have := HYL.out; omega)
        rw [hy] at hz
        injection hz with hz
        rw [hz]
        exact hd
      have H4 := toHid (show R = if numE x y = true then (i : Int) else idxF (numE x) (i + 1) (Y.drop (i + 1)) by rw [HFE.out, hdy]; rfl)
      have HC := toHid (HONE.out wr q y hbw (List.mem_of_getElem? hy) hqy)
      clear hc hq hy hqy c0 c1 c2 c3 c4 qq hdy HFE
      have hil : (i : Int) < l := by omega
      go_wp2_with fail
      refine HC.out.mono ?_
      rintro e w2 ⟨rfl, k2⟩
      have hb2 := hbw.trans (k2.mono hbw.size)
      clear k2 d0 d1 d2 d3 d4
      cases hs : numE x y with
      | true =>
        have H5 := toHid (show R = (i : Int) by rw [H4.out, if_pos hs])
        clear H4 hs
        go_wp2_with fail
        go_ret
        exact ⟨ret_int (by rw [H5.out]), hb2⟩
      | false =>
        have H5 := toHid (show R = idxF (numE x) (i + 1) (Y.drop (i + 1)) by rw [H4.out, if_neg (by rw [hs]; decide)])
        clear H4 hs
        go_wp2_with fail
        go_roundg (l - (i + 1))
        case measure => omega
        case rel => exact ⟨i + 1, by omega, by omega, by go_num, hb2, H5.out⟩
    · have H3 := toHid (show R = -1 by rw [HFE.out, List.drop_eq_nil_of_le (by have := HYL.out; omega)]; rfl)
      clear HFE
      go_wp2_with fail
      go_ret
      exact ⟨ret_int (by rw [H3.out]), hbw⟩

set_option maxHeartbeats 2000000 in
theorem numE_has (p : Ed) (x : AE) (Y : List AE) (a : Option Addr) (l c : Nat) (fb xb : Nat) (w : World) (hp : EdIn w p x) (hY : EsAt w Y a l) (hx : x.ok) (hy : ∀ y ∈ Y, y.ok) (hfb : w.cell? ⟨fb, 0, none⟩ = some (.func (.func 59) #[] #[])) (hfl : fb < w.heap.size) (hxb : w.heap[xb]? = some (.cells #[.int .i64 p.id, .int .i64 p.frm, .int .i64 p.dst, .string p.typ, .slice p.pa p.pl p.pc] 53 (0, 0))) :
    Calls Tryz.prog 54 #[.slice a l c, .func (.func 106) #[] #[.pointer (some ⟨fb, 0, none⟩), .pointer (some ⟨xb, 0, none⟩)]] w fun e w' => e = .returned (.bool (Y.any (numE x))) ∧ Below w.heap.size w w' := by
  have HC := toHid (numE_index p x Y a l c fb xb w hp hY hx hy hfb hfl hxb)
  have HI := toHid (idxF_any (numE x) Y 0)
  clear hp hY hx hy hfb hfl hxb
  obtain ⟨z, hz⟩ : ∃ z, z = idxF (numE x) 0 Y := ⟨_, rfl⟩
  obtain ⟨R, hR⟩ : ∃ R, R = Y.any (numE x) := ⟨_, rfl⟩
  rw [← hz] at HC HI
  rw [← hR] at HI ⊢
  clear hz hR
  go_enter Tryz.func54, Tryz.ntmps54
  go_wp2_with fail
  refine HC.out.mono ?_
  rintro e w1 ⟨rfl, k1⟩
  rcases HI.out with ⟨h1, h2⟩ | ⟨h1, h2⟩
  · have h3 : z ≥ 0 := h2
    have H1 := toHid h1
    clear h1 h2
    go_wp2_with fail
    go_ret
    exact ⟨ret_bool (by rw [H1.out]), k1⟩
  · have h3 : ¬ z ≥ 0 := by omega
    have H1 := toHid h1
    clear h1 h2
    go_wp2_with fail
    go_ret
    exact ⟨ret_bool (by rw [H1.out]; exact decide_eq_false (by omega)), k1⟩

/-- The cells of edges that may be read through a slice. -/
theorem EdgesAt.news {w : World} {N : List Ed} {a : Option Addr} {l : Nat} (h : EdgesAt w N a l) : ∀ j u, (rowX N)[j]? = some u → ∃ ad, a = some ad ∧ w.cell? (ad.add j) = some u := by
  intro j u hu
  obtain ⟨h1, h2, h3⟩ := h
  have hj : j < (rowX N).length := (List.getElem?_eq_some_iff.1 hu).1
  have hlen : (rowX N).length = N.length * 5 := flat_len Ed.cells 5 (fun _ => rfl) N
  have hj3 : j / 5 < N.length := by
    rw [hlen] at hj
    exact Nat.div_lt_of_lt_mul (by rw [Nat.mul_comm]; exact hj)
  obtain ⟨b, off, ha, hb, hc⟩ := h3 (by omega)
  refine ⟨⟨b, off, none⟩, ha, ?_⟩
  have hx := List.getElem?_eq_getElem hj3
  have hq := hc _ _ hx
  have hm : j % 5 < 5 := Nat.mod_lt _ (by decide)
  have e : j = j / 5 * 5 + j % 5 := by omega
  generalize j / 5 = i at *
  generalize j % 5 = t at *
  generalize N[i] = x at *
  have hu2 : ∀ v, (Ed.cells x)[t]? = some v → u = v := fun v hv => by
    have := flat_get Ed.cells 5 (fun _ => rfl) N i t x v hx hv
    unfold rowX at hu
    rw [e, this] at hu
    exact (Option.some.inj hu).symm
  rw [add_none, e]
  have ht : t = 0 ∨ t = 1 ∨ t = 2 ∨ t = 3 ∨ t = 4 := by omega
  rcases ht with rfl | rfl | rfl | rfl | rfl
  · rw [hu2 _ rfl, show off + (i * 5 + 0) = off + i * 5 by omega]
    exact hq.2.1
  · rw [hu2 _ rfl, show off + (i * 5 + 1) = off + i * 5 + 1 by omega]
    exact hq.2.2.1
  · rw [hu2 _ rfl, show off + (i * 5 + 2) = off + i * 5 + 1 + 1 by omega]
    exact hq.2.2.2.1
  · rw [hu2 _ rfl, show off + (i * 5 + 3) = off + i * 5 + 1 + 1 + 1 by omega]
    exact hq.2.2.2.2.1
  · rw [hu2 _ rfl, show off + (i * 5 + 4) = off + i * 5 + 1 + 1 + 1 + 1 by omega]
    exact hq.2.2.2.2.2

theorem rowAtE {W w : World} {B l c : Nat} {a : Option Addr} {N : List Ed} {X : List AE} (h1 : w.ownsRow B 53 5 (.slice a l c) N.length (rowX N)) (h2 : Pair2 (EdIn W) N X) : EdgesAt w N a l := by
  have e1 := (row_len h1).1
  subst e1
  exact row_edges h1 fun p hp => by
    obtain ⟨i, hi⟩ := List.getElem?_of_mem hp
    obtain ⟨x, _, hx⟩ := h2.left hi
    exact hx.2.2.2.2.1

theorem nilE_none (w : World) (l c : Nat) : (binOp .eql 23 (.slice none l c) (.slice none 0 0)).run Tryz.prog w = .ok (.bool true) w := by kernel_rfl

theorem nilE_some (w : World) (ad : Addr) (l c : Nat) : (binOp .eql 23 (.slice (some ad) l c) (.slice none 0 0)).run Tryz.prog w = .ok (.bool false) w := by kernel_rfl

theorem rowE_one (N : List Ed) : ∀ u ∈ rowX N, u.oneCell' = true := fun u hu => by
  obtain ⟨l, hl1, hl2⟩ := List.mem_flatten.1 hu
  obtain ⟨x, _, rfl⟩ := List.mem_map.1 hl1
  simp [Ed.cells] at hl2
  rcases hl2 with rfl | rfl | rfl | rfl | rfl <;> rfl

set_option maxHeartbeats 4000000 in
set_option maxRecDepth 100000 in
theorem cloneE_any (N : List Ed) (a : Option Addr) (l c : Nat) (w : World) (h : EdgesAt w N a l) (hl : l ≤ 1000) :
    Calls Tryz.prog 103 #[.slice a l c] w fun e w' => (∃ v, e = .returned v ∧ w'.ownsRow w.heap.size 53 5 v N.length (rowX N)) ∧ Below w.heap.size w w' := by
  have HN : Hid (∀ W, Below w.heap.size w W → ∀ j u, (rowX N)[j]? = some u → ∃ ad, a = some ad ∧ W.cell? (ad.add j) = some u) := fun W k => (h.below k).news
  have HL := toHid h.1
  have HFL : Hid ((rowX N).length = l * 5) := by rw [HL.out]; exact flat_len Ed.cells 5 (fun _ => rfl) N
  have HO := toHid (rowE_one N)
  obtain ⟨i0, hi0, hiz, his, hib⟩ := info_Edge
  have HI0 := toHid hi0
  have HIZ := toHid hiz
  have HIS := toHid his
  have HIB := toHid hib
  clear hi0 hiz his hib h
  cases a with
  | none =>
    have hr : rowX N = [] := by
      cases hc : rowX N with
      | nil => rfl
      | cons u us =>
        obtain ⟨_, e1, _⟩ := HN.out w (Below.refl _ _) 0 u (by rw [hc]; rfl)
        cases e1
    have h0 : l = 0 := by have := HFL.out; rw [hr] at this; simp at this; omega
    subst h0
    have HNN : Hid (N.length = 0) := HL.out.symm
    have HR := toHid hr
    have hnil : ∀ w, (binOp .eql 23 (.slice none 0 c) (.slice none 0 0)).run Tryz.prog w = .ok (.bool true) w := fun w => nilE_none w 0 c
    clear hr
    go_enter Tryz.func103, Tryz.ntmps103
    go_wp2_with fail
    go_ret
    refine ⟨⟨_, rfl, ?_⟩, Below.refl _ _⟩
    rw [HR.out, HNN.out]
    exact World.ownsRow_nil _ _ _ _
  | some ad =>
    have HB1 : l ≤ maxLen := by unfold maxLen; omega
    have hnil : ∀ w, (binOp .eql 23 (.slice (some ad) l c) (.slice none 0 0)).run Tryz.prog w = .ok (.bool false) w := fun w => nilE_some w ad l c
    go_enter Tryz.func103, Tryz.ntmps103
    go_wp2_with (at_builtin; refine wpList_append_both _ rfl _ _ 23 rfl w.heap.size 53 i0 _ 5 64 Tryz.underlying23 HI0.out HIZ.out HIS.out HIB.out rfl (by omega) (.slice (some ⟨w.heap.size, 0, none⟩) 0 0) 0 [] (by rfl) (World.ownsRow_made _ #[] 0 (Nat.le_refl _) (by decide) rfl) (some ad) l c (rowX N) (by rfl) HFL.out (HN.out _ ((Below.refl w.heap.size w).alloc (Nat.le_refl _) _)) HO.out (by omega) (by omega) (by simp) ?_)
    intro v' w' h1 h2 h3
    have hb : Below w.heap.size w w' := ((Below.refl w.heap.size w).alloc (Nat.le_refl _) _).grown h2 (by simp) (fun k hk => by
      have : w.heap.size = k := by simpa [Value.ownBlock] using hk
      omega)
    have HBB := toHid hb

    have HOW := toHid h1
    clear hb h1 h2 h3
    go_wp2_with fail
    go_ret
    refine ⟨⟨v', rfl, ?_⟩, HBB.out⟩
    rw [← HL.out]
    exact HOW.out

set_option maxHeartbeats 2000000 in
set_option maxRecDepth 100000 in
theorem sort0E (nb : Nat) (w : World) :
    Calls Tryz.prog 107 #[.slice none 0 0, fvE nb] w fun e w' => e = .returned (.tuple #[]) ∧ w' = w := by
  have HIN : Hid (Calls Tryz.prog 182 #[.slice none 0 0, .int .i64 0, .int .i64 0, fvE nb] w fun e w' => e = .returned (.tuple #[]) ∧ w' = w) := by
    go_enter Tryz.func182, Tryz.ntmps182
    go_wp2_with fail
    go_loopg [8] 0 (fun q x8 wr => x8 = .int .i64 1 ∧ wr = w)
    case atStart => exact ⟨rfl, rfl⟩
    case round =>
      obtain ⟨rfl, rfl⟩ := hrel
      go_wp2_with fail
      go_end0
      exact ⟨rfl, rfl⟩
  have HST : Hid (Calls Tryz.prog 144 #[.slice none 0 0, .int .i64 0, fvE nb] w fun e w' => e = .returned (.tuple #[]) ∧ w' = w) := by
    go_enter Tryz.func144, Tryz.ntmps144
    go_wp2_with fail
    go_loopg [7, 8] 0 (fun q x7 x8 wr => x7 = .int .i64 0 ∧ x8 = .int .i64 20 ∧ wr = w)
    case atStart => exact ⟨rfl, rfl, rfl⟩
    case round =>
      obtain ⟨rfl, rfl, rfl⟩ := hrel
      go_wp2_with fail
      refine HIN.out.mono ?_
      rintro e w1 ⟨rfl, rfl⟩
      go_wp2_with fail
      go_loopg [6] 0 (fun q x6 wr => x6 = .int .i64 20 ∧ wr = w1)
      case atStart => exact ⟨rfl, rfl⟩
      case round =>
        obtain ⟨rfl, rfl⟩ := hrel
        go_wp2_with fail
        go_end0
        exact ⟨rfl, rfl⟩
  clear HIN
  go_enter Tryz.func107, Tryz.ntmps107
  go_wp2_with fail
  refine HST.out.mono ?_
  rintro e w1 ⟨rfl, rfl⟩
  go_wp2_with fail
  go_end0
  exact ⟨rfl, rfl⟩

theorem RowE.below {w w' : World} {g cap : Nat} {D : List Ed} (h : RowE w g cap D) (k : Below w.heap.size w w') : RowE w' g cap D := row_keep h fun _ _ hl => k.block _ hl

set_option maxHeartbeats 8000000 in
set_option maxRecDepth 100000 in
theorem insertionE (g cap a b nb : Nat) (D : List Ed) (w : World) (h : RowE w g cap D) (hc : CmpOkE w nb) (hnb : nb ≠ g) (hab : a ≤ b) (hb : b ≤ D.length) (hD : D.length ≤ 1000) :
    Calls Tryz.prog 182 #[.slice (some ⟨g, 0, none⟩) D.length cap, .int .i64 a, .int .i64 b, fvE nb] w fun e w' => e = .returned (.tuple #[]) ∧ ∃ E, MixS a b D E ∧ Ris Ed.id E a b ∧ RowE w' g cap E ∧ Rest (fun j => j = g) w w' := by
  have H := toHid h
  have HC := toHid hc
  clear h hc
  go_enter Tryz.func182, Tryz.ntmps182
  go_wp2_with fail
  go_loopg [8, 9] (b - a) (fun q x8 x9 wr => ∃ (i : Nat) (E : List Ed), a + 1 ≤ i ∧ (i ≤ b ∨ i = a + 1) ∧ b - i ≤ q ∧ x8 = .int .i64 i ∧ MixS a b D E ∧ Ris Ed.id E a i ∧ RowE wr g cap E ∧ Rest (fun j => j = g) w wr)
  case atStart => exact ⟨a + 1, D, Nat.le_refl _, .inr rfl, by omega, by go_num, MixS.refl _ _ _, Ris.one (Nat.le_refl _), H.out, Rest.refl _ _⟩
  case round =>
    obtain ⟨i, E, hai, hib, hq, rfl, hM, hS, hR, hk⟩ := hrel
    by_cases hlt : i < b
    · have hltI : (i : Int) < (b : Int) := by omega
      have HM := toHid hM
      have HS := toHid hS
      have HR := toHid hR
      have HK := toHid hk
      clear hM hS hR hk
      obtain ⟨w9, hw9⟩ : ∃ z, z = wr := ⟨_, rfl⟩
      subst hw9
      go_wp2_with fail
      go_loopg [9] (i - a) (fun q x9 wr => ∃ (j : Nat) (E : List Ed), a ≤ j ∧ j ≤ i ∧ j - a ≤ q ∧ x9 = .int .i64 j ∧ MixS a b D E ∧ InsI Ed.id E a i j ∧ RowE wr g cap E ∧ Rest (fun j => j = g) w wr)
      case atStart => exact ⟨i, E, by omega, Nat.le_refl _, Nat.le_refl _, rfl, HM.out, InsI.start HS.out, HR.out, HK.out⟩
      case round =>
        clear HM HS HR HK
        obtain ⟨j, E, haj, hji, hq2, rfl, hM, hI, hR, hk⟩ := hrel
        have hEl : E.length = D.length := hM.1
        have HM := toHid hM
        have HI := toHid hI
        have HR := toHid hR
        have HK := toHid hk
        have HCW := toHid (HC.out.rest hnb hk)
        obtain ⟨β, hb1, hb2, hb3, hb4⟩ : ∃ β : Bool, (β = true → a < j ∧ ∃ x y, E[j - 1]? = some x ∧ E[j]? = some y ∧ y.id < x.id) ∧ (β = false → j = a ∨ ∀ x y, E[j - 1]? = some x → E[j]? = some y → x.id ≤ y.id) ∧ (a < j → ∀ x y, E[j - 1]? = some x → E[j]? = some y → β = decide (y.id < x.id)) ∧ (¬ a < j → β = false) := by
          by_cases hja : a < j
          · obtain ⟨x, hx⟩ : ∃ x, E[j - 1]? = some x := ⟨_, List.getElem?_eq_getElem (by omega)⟩
            obtain ⟨y, hy⟩ : ∃ y, E[j]? = some y := ⟨_, List.getElem?_eq_getElem (by omega)⟩
            refine ⟨decide (y.id < x.id), fun h => ⟨hja, x, y, hx, hy, by simpa using h⟩, fun h => .inr fun x' y' hx' hy' => ?_, fun _ x' y' hx' hy' => ?_, fun h => absurd hja h⟩
            · rw [hx] at hx'; rw [hy] at hy'
              injection hx' with hx'; injection hy' with hy'
              subst hx' hy'
              have : ¬ y.id < x.id := by simpa using h
              omega
            · rw [hx] at hx'; rw [hy] at hy'
              injection hx' with hx'; injection hy' with hy'
              subst hx' hy'
              rfl
          · exact ⟨false, fun h => absurd h (by decide), fun _ => .inl (by omega), fun h => absurd h hja, fun _ => rfl⟩
        have HB1 := toHid hb1
        have HB2 := toHid hb2
        have HB3 := toHid hb3
        have HB4 := toHid hb4
        clear hb1 hb2 hb3 hb4
        go_upto_region 4 with fail
        go_cut [34] (fun c wz => c = .bool β ∧ Below wr.heap.size wr wz)
        case first =>
          by_cases hja : a < j
          · have hjaI : (a : Int) < (j : Int) := by omega
            obtain ⟨k, hkj⟩ : ∃ k, k = j - 1 := ⟨_, rfl⟩
            obtain ⟨x, hx⟩ : ∃ x, E[k]? = some x := ⟨_, List.getElem?_eq_getElem (by omega)⟩
            obtain ⟨y, hy⟩ : ∃ y, E[j]? = some y := ⟨_, List.getElem?_eq_getElem (by omega)⟩
            have HX := toHid hx
            have HY := toHid hy
            have HKJ := toHid hkj
            have hjl : (j : Int) < (D.length : Int) := by omega
            have hjl2 : (k : Int) < (D.length : Int) := by omega
            have hw1 : IntKind.i64.wrap ((j : Int) - 1) = (k : Int) := by rw [IntKind.wrap_i64]; omega
            have hw3 : wrap64 ((j : Int) - 1) = (k : Int) := (IntWalk.wrap64_in _ ⟨by omega, by omega⟩).trans (by omega)
            have hk0 : (0 : Int) ≤ (k : Int) := by omega
            have hgl : g < wr.heap.size := by obtain ⟨cur, hc, _⟩ := hR.blk; exact (Array.getElem?_eq_some_iff.1 hc).1
            have HS : Hid (∀ W', Below wr.heap.size wr W' → (W'.cell? ⟨g, j * 5, none⟩ = some (.int .i64 y.id) ∧ W'.cell? ⟨g, j * 5 + 1, none⟩ = some (.int .i64 y.frm) ∧ W'.cell? ⟨g, j * 5 + 2, none⟩ = some (.int .i64 y.dst) ∧ W'.cell? ⟨g, j * 5 + 3, none⟩ = some (.string y.typ) ∧ W'.cell? ⟨g, j * 5 + 4, none⟩ = some (.slice y.pa y.pl y.pc)) ∧ (W'.cell? ⟨g, k * 5, none⟩ = some (.int .i64 x.id) ∧ W'.cell? ⟨g, k * 5 + 1, none⟩ = some (.int .i64 x.frm) ∧ W'.cell? ⟨g, k * 5 + 2, none⟩ = some (.int .i64 x.dst) ∧ W'.cell? ⟨g, k * 5 + 3, none⟩ = some (.string x.typ) ∧ W'.cell? ⟨g, k * 5 + 4, none⟩ = some (.slice x.pa x.pl x.pc))) := fun W' kk => by
              obtain ⟨y0, y1, y2, y3, y4, _⟩ := (HR.out.below kk).get HY.out
              obtain ⟨x0, x1, x2, x3, x4, _⟩ := (HR.out.below kk).get HX.out
              exact ⟨⟨y0, y1, y2, y3, y4⟩, ⟨x0, x1, x2, x3, x4⟩⟩
            have D0 : Below wr.heap.size wr wr.drew := (Below.refl _ _).drew
            obtain ⟨⟨y0, y1, y2, y3, y4⟩, ⟨x0, x1, x2, x3, x4⟩⟩ := HS.out wr (Below.refl _ _)
            have HCC := toHid (cmpE_any nb y x wr.drew (HCW.out.below D0))
            have HBB := toHid (HB3.out hja x y (by rw [← HKJ.out]; exact HX.out) HY.out)
            clear hM hI hR hk hx hy hEl hkj
            go_region_held3 (fun W' => (W'.cell? ⟨g, j * 5, none⟩ = some (.int .i64 y.id) ∧ W'.cell? ⟨g, j * 5 + 1, none⟩ = some (.int .i64 y.frm) ∧ W'.cell? ⟨g, j * 5 + 2, none⟩ = some (.int .i64 y.dst) ∧ W'.cell? ⟨g, j * 5 + 3, none⟩ = some (.string y.typ) ∧ W'.cell? ⟨g, j * 5 + 4, none⟩ = some (.slice y.pa y.pl y.pc)) ∧ (W'.cell? ⟨g, k * 5, none⟩ = some (.int .i64 x.id) ∧ W'.cell? ⟨g, k * 5 + 1, none⟩ = some (.int .i64 x.frm) ∧ W'.cell? ⟨g, k * 5 + 2, none⟩ = some (.int .i64 x.dst) ∧ W'.cell? ⟨g, k * 5 + 3, none⟩ = some (.string x.typ) ∧ W'.cell? ⟨g, k * 5 + 4, none⟩ = some (.slice x.pa x.pl x.pc)))
              (first
                | with_reducible exact HS.out _ k1
                | with_reducible exact HS.out _ D0
                | exact ⟨⟨y0, y1, y2, y3, y4⟩, ⟨x0, x1, x2, x3, x4⟩⟩
                | go_keep)
              (first
                | (go_at_call 108; go_fit HCC.out; rintro e u1 ⟨rfl, h1⟩; have k1 : Below wr.heap.size wr u1 := D0.trans h1))
            all_goals
              go_wp2_with fail
              go_meet
              exact ⟨by rw [HBB.out]; simp [cmpN_lt], k1⟩
          · have hjaI : ¬ (a : Int) < (j : Int) := by omega
            clear hM hI hR hk hEl
            go_quiet (fail)
            go_wp2_with fail
            go_meet
            exact ⟨by rw [HB4.out hja], below_drewN _ _⟩
        case rest =>
          obtain ⟨rfl, kz⟩ := hcut
          have hR2 := hR.below kz
          have hk2 := hk.trans (Rest.of_below (O := fun _ => False) kz) fun _ _ h => h.elim
          generalize wc = wz at *
          cases hbb : β with
          | true =>
            obtain ⟨hja, x, y, hx, hy, hlt2⟩ := HB1.out hbb
            obtain ⟨k, hkj⟩ : ∃ k, k = j - 1 := ⟨_, rfl⟩
            have hx0 := hx
            rw [← hkj] at hx
            have hkj1 : k < j := by omega
            obtain ⟨y0, y1, y2, y3, y4, fy0, fy1, fy2, fy3, fy4⟩ := hR2.get hy
            obtain ⟨x0, x1, x2, x3, x4, fx0, fx1, fx2, fx3, fx4⟩ := hR2.get hx
            have HW := toHid (hR2.swap hy hx).drew
            have HI2 := toHid (hI.step hja hji hx0 hy hlt2)
            have HM2 := toHid (hM.trans (swp_mix (a := a) (b := b) hx0 hy (by omega) (by omega) (by omega)))
            have HSW : Hid (swp E j k = swp E (j - 1) j) := by rw [← hkj]; exact swp_comm hx hy (by omega)
            have HK2 := toHid hk2
            have hjl : (j : Int) < (D.length : Int) := by omega
            have hjl2 : (k : Int) < (D.length : Int) := by omega
            have hw1 : IntKind.i64.wrap ((j : Int) - 1) = (k : Int) := by rw [IntKind.wrap_i64]; omega
            have hw3 : wrap64 ((j : Int) - 1) = (k : Int) := (IntWalk.wrap64_in _ ⟨by omega, by omega⟩).trans (by omega)
            have hk0 : (0 : Int) ≤ (k : Int) := by omega
            have hne : j ≠ k := by omega
            have HKJ := toHid hkj
            clear hM hI hR hR2 hk hk2 hx hx0 hy hEl hkj kz hlt2
            go_upto_block 3 with fail
            go_cut [] (fun wq => RowE wq g cap (swp E j k) ∧ Rest (fun j => j = g) w wq)
            case first =>
              go_wp2_with fail
              go_region
              all_goals
                go_wp2_with fail
                go_meet
                exact ⟨HW.out, ((HK2.out.put (j * 5) x.cells).put (k * 5) y.cells).drewS⟩
            case rest =>
              obtain ⟨hz, kq⟩ := hcut
              have HZ := toHid hz
              have HKQ := toHid kq
              clear hz kq
              go_wp2_with fail
              go_roundg (j - 1 - a)
              case measure => omega
              case rel => exact ⟨j - 1, _, by omega, by omega, Nat.le_refl _, by have := HKJ.out; go_num, HM2.out, HI2.out, by rw [← HSW.out]; exact HZ.out, HKQ.out⟩
          | false =>
            have HD := toHid (hI.done (by omega) hji (by omega) (HB2.out hbb))
            have HR2 := toHid hR2
            have HK2 := toHid hk2
            clear hM hI hR hR2 hk hk2 hEl kz
            go_wp2_with fail
            go_roundg (b - (i + 1))
            case measure => omega
            case rel => exact ⟨i + 1, E, by omega, .inl (by omega), Nat.le_refl _, by go_num, HM.out, HD.out, HR2.out, HK2.out⟩
    · have HS : Hid (Ris Ed.id E a b) := by
        rcases hib with h | h
        · have : i = b := by omega
          subst this
          exact hS
        · exact Ris.one (by omega)
      have hltI : ¬ (i : Int) < (b : Int) := by omega
      have HM := toHid hM
      have HR := toHid hR
      have HK := toHid hk
      clear hM hS hR hk
      go_wp2_with fail
      go_end0
      exact ⟨rfl, E, HM.out, HS.out, HR.out, HK.out⟩
end Go.Proofs.YtdlmlpddkfnfmaaGreatDoor
