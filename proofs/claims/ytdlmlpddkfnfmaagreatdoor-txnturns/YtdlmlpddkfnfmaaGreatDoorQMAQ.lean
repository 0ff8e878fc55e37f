/-
  What is proved here: what the texts TFindN, SInsN, SUpDn prove, in one text.
-/
import Derived.Test.YtdlmlpddkfnfmaaGreatDoorQMAN
import Derived.Test.YtdlmlpddkfnfmaaGreatDoorQMAO
import Derived.Test.YtdlmlpddkfnfmaaGreatDoorQMAP
import Derived.BigQuiet
namespace Go.Proofs.YtdlmlpddkfnfmaaGreatDoor
open Go.RowKit
set_option linter.unusedVariables false

set_option maxHeartbeats 4000000 in
set_option maxRecDepth 100000 in
theorem turnN_one (p : Nd) (x : AN) (q : Nd) (y : AN) (fb xb : Nat) (w : World) (hp : NdIn w p x) (hq : NdIn w q y) (hx : x.ok) (hy : y.ok) (hfb : w.cell? ⟨fb, 0, none⟩ = some (.func (.func 49) #[] #[])) (hfl : fb < w.heap.size) (hxb : w.heap[xb]? = some (.cells #[.int .i64 p.id, .slice p.la p.ll p.lc, .slice p.pa p.pl p.pc] 49 (0, 0))) :
    Calls Tryz.prog 97 #[.agg #[.int .i64 q.id, .slice q.la q.ll q.lc, .slice q.pa q.pl q.pc], .pointer (some ⟨fb, 0, none⟩), .pointer (some ⟨xb, 0, none⟩)] w fun e w' => e = .returned (.bool (sameN x y)) ∧ Below w.heap.size w w' := by
  have HC : Hid (∀ W, Below w.heap.size w W → Calls Tryz.prog 49 #[.agg #[.int .i64 p.id, .slice p.la p.ll p.lc, .slice p.pa p.pl p.pc], .agg #[.int .i64 q.id, .slice q.la q.ll q.lc, .slice q.pa q.pl q.pc]] W fun e w' => e = .returned (.bool (sameN x y)) ∧ Below W.heap.size W w') := fun W kW => sameNode_any p x q y W (hp.below kW) (hq.below kW) hx hy
  have hxl : xb < w.heap.size := lt_block hxb
  have x0 := cell_of hxb 0
  have x1 := cell_of hxb 1
  have x2 := cell_of hxb 2
  simp at x0 x1 x2
  clear hp hq hx hy hxb
  have hb0 : Below w.heap.size w (w.alloc (.cells #[.int .i64 q.id, .slice q.la q.ll q.lc, .slice q.pa q.pl q.pc] 49)) := (Below.refl _ _).alloc (Nat.le_refl _) _
  have HB0 := toHid hb0
  clear hb0
  go_enter Tryz.func97, Tryz.ntmps97
  go_wp2_with fail
  refine (HC.out _ HB0.out).mono ?_
  rintro e w1 ⟨rfl, k1⟩
  have hb1 := HB0.out.trans (k1.mono HB0.out.size)
  clear k1
  go_wp2_with fail
  go_ret
  exact ⟨rfl, hb1⟩

set_option maxHeartbeats 4000000 in
set_option maxRecDepth 100000 in
theorem turnN_index (p : Nd) (x : AN) (Y : List AN) (a : Option Addr) (l c : Nat) (fb xb : Nat) (w : World) (hp : NdIn w p x) (hY : NsAt w Y a l) (hx : x.ok) (hy : ∀ y ∈ Y, y.ok) (hfb : w.cell? ⟨fb, 0, none⟩ = some (.func (.func 49) #[] #[])) (hfl : fb < w.heap.size) (hxb : w.heap[xb]? = some (.cells #[.int .i64 p.id, .slice p.la p.ll p.lc, .slice p.pa p.pl p.pc] 49 (0, 0))) :
    Calls Tryz.prog 94 #[.slice a l c, .func (.func 97) #[] #[.pointer (some ⟨fb, 0, none⟩), .pointer (some ⟨xb, 0, none⟩)]] w fun e w' => e = .returned (.int .i64 (idxF (sameN x) 0 Y)) ∧ Below w.heap.size w w' := by
  obtain ⟨R, hR⟩ : ∃ R, R = idxF (sameN x) 0 Y := ⟨_, rfl⟩
  rw [← hR]
  obtain ⟨Q, ⟨hl, hmx, hat⟩, hq⟩ := hY
  have HL := toHid hl
  have HAT := toHid hat
  have HQ := toHid hq
  have HYL : Hid (Y.length = l) := by rw [HL.out]; exact HQ.out.1.symm
  have HONE : Hid (∀ W q y, Below w.heap.size w W → y ∈ Y → NdIn w q y → Calls Tryz.prog 97 #[.agg #[.int .i64 q.id, .slice q.la q.ll q.lc, .slice q.pa q.pl q.pc], .pointer (some ⟨fb, 0, none⟩), .pointer (some ⟨xb, 0, none⟩)] W fun e w' => e = .returned (.bool (sameN x y)) ∧ Below W.heap.size W w') := fun W q y kW hm hqy => turnN_one p x q y fb xb W (hp.below kW) (hqy.below kW) hx (hy y hm) ((kW.cell (p := ⟨fb, 0, none⟩) hfl).trans hfb) (Nat.lt_of_lt_of_le hfl kW.size) ((kW.block xb (lt_block hxb)).trans hxb)
  have H3 := toHid (show R = idxF (sameN x) 0 (Y.drop 0) from hR)
  clear hR hl hat hq hp hx hy hfb hfl hxb
  go_enter Tryz.func94, Tryz.ntmps94
  go_wp2_with fail
  go_loopg [8] l (fun g s8 wr => ∃ i : Nat, i ≤ l ∧ l - i ≤ g ∧ s8 = .int .i64 i ∧ Below w.heap.size w wr ∧ R = idxF (sameN x) i (Y.drop i))
  case atStart => exact ⟨0, Nat.zero_le _, by omega, rfl, Below.refl _ _, H3.out⟩
  case round =>
    clear H3
    obtain ⟨i, hi, hg, rfl, hbw, hfe⟩ := hrel
    have HFE := toHid hfe
    clear hfe
    by_cases hlt : i < l
    · obtain ⟨b, off, ha, hb, hc⟩ := HAT.out (by omega)
      subst ha
      obtain ⟨q, hq, _⟩ := drop_get (L := Q) (i := i) (by have := HL.out; omega)
      obtain ⟨y, hy, hqy⟩ := HQ.out.left hq
      obtain ⟨c0, c1, c2⟩ := hc i q hq
      have qq : ∀ o, wr.cell? ⟨b, o, none⟩ = w.cell? ⟨b, o, none⟩ := fun o => hbw.cell (p := ⟨b, o, none⟩) hb
      have d0 := (qq _).trans c0
      have d1 := (qq _).trans c1
      have d2 := (qq _).trans c2
      have hdy : Y.drop i = y :: Y.drop (i + 1) := by
        obtain ⟨z, hz, hd⟩ := drop_get (L := Y) (i := i) (by have := HYL.out; omega)
        rw [hy] at hz
        injection hz with hz
        rw [hz]
        exact hd
      have H4 := toHid (show R = if sameN x y = true then (i : Int) else idxF (sameN x) (i + 1) (Y.drop (i + 1)) by rw [HFE.out, hdy]; rfl)
      have HC := toHid (HONE.out wr q y hbw (List.mem_of_getElem? hy) hqy)
      clear hc hq hy hqy c0 c1 c2 qq hdy HFE
      have hil : (i : Int) < l := by omega
      go_wp2_with fail
      refine HC.out.mono ?_
      rintro e w2 ⟨rfl, k2⟩
      have hb2 := hbw.trans (k2.mono hbw.size)
      clear k2 d0 d1 d2
      cases hs : sameN x y with
      | true =>
        have H5 := toHid (show R = (i : Int) by rw [H4.out, if_pos hs])
        clear H4 hs
        go_wp2_with fail
        go_ret
        exact ⟨ret_int (by rw [H5.out]), hb2⟩
      | false =>
        have H5 := toHid (show R = idxF (sameN x) (i + 1) (Y.drop (i + 1)) by rw [H4.out, if_neg (by rw [hs]; decide)])
        clear H4 hs
        go_wp2_with fail
        go_roundg (l - (i + 1))
        case measure => omega
        case rel => exact ⟨i + 1, by omega, by omega, by go_num, hb2, H5.out⟩
    · have H3 := toHid (show R = -1 by rw [HFE.out, List.drop_eq_nil_of_le (by have := HYL.out; omega)]; rfl)
      clear HFE
      go_wp2_with fail
      go_ret
      exact ⟨ret_int (by rw [H3.out]), hbw⟩

/-- One number. -/
def numN (x y : AN) : Bool := x.id == y.id

set_option maxHeartbeats 4000000 in
set_option maxRecDepth 100000 in
theorem numN_one (p : Nd) (x : AN) (q : Nd) (y : AN) (fb xb : Nat) (w : World) (hp : NdIn w p x) (hq : NdIn w q y) (hx : x.ok) (hy : y.ok) (hfb : w.cell? ⟨fb, 0, none⟩ = some (.func (.func 57) #[] #[])) (hfl : fb < w.heap.size) (hxb : w.heap[xb]? = some (.cells #[.int .i64 p.id, .slice p.la p.ll p.lc, .slice p.pa p.pl p.pc] 49 (0, 0))) :
    Calls Tryz.prog 99 #[.agg #[.int .i64 q.id, .slice q.la q.ll q.lc, .slice q.pa q.pl q.pc], .pointer (some ⟨fb, 0, none⟩), .pointer (some ⟨xb, 0, none⟩)] w fun e w' => e = .returned (.bool (numN x y)) ∧ Below w.heap.size w w' := by
  have e1 : numN x y = (p.id == q.id) := by unfold numN; rw [hp.1, hq.1]
  rw [e1]
  have hxl : xb < w.heap.size := lt_block hxb
  have b0 : Below w.heap.size w (w.alloc (.cells #[.int .i64 q.id, .slice q.la q.ll q.lc, .slice q.pa q.pl q.pc] 49)) := (Below.refl _ _).alloc (Nat.le_refl _) _
  have hy1 := alloc_new w (.cells #[.int .i64 q.id, .slice q.la q.ll q.lc, .slice q.pa q.pl q.pc] 49)
  have hx1 : (w.alloc (.cells #[.int .i64 q.id, .slice q.la q.ll q.lc, .slice q.pa q.pl q.pc] 49)).heap[xb]? = some (.cells #[.int .i64 p.id, .slice p.la p.ll p.lc, .slice p.pa p.pl p.pc] 49 (0, 0)) := (b0.block xb hxl).trans hxb
  have hf1 : (w.alloc (.cells #[.int .i64 q.id, .slice q.la q.ll q.lc, .slice q.pa q.pl q.pc] 49)).cell? ⟨fb, 0, none⟩ = some (.func (.func 57) #[] #[]) := (b0.cell (p := ⟨fb, 0, none⟩) hfl).trans hfb
  have hz : (w.alloc (.cells #[.int .i64 q.id, .slice q.la q.ll q.lc, .slice q.pa q.pl q.pc] 49)).heap.size = w.heap.size + 1 := by simp
  have HB := toHid b0
  have HX1 := toHid hx1
  have HY1 := toHid hy1
  have HF1 := toHid hf1
  have HZ := toHid hz
  have NI := toHid nodeID_any
  clear b0 hx1 hy1 hf1 hz hp hq hx hy hfb hxb e1
  go_enter Tryz.func99, Tryz.ntmps99
  go_upto_region 1 with fail
  generalize w.alloc (.cells #[.int .i64 q.id, .slice q.la q.ll q.lc, .slice q.pa q.pl q.pc] 49) = W at HB HX1 HY1 HF1 HZ ⊢
  have HS : Hid (∀ W', Below W.heap.size W W' → (W'.cell? ⟨xb, 0, none⟩ = some (.int .i64 p.id) ∧ W'.cell? ⟨xb, 1, none⟩ = some (.slice p.la p.ll p.lc) ∧ W'.cell? ⟨xb, 2, none⟩ = some (.slice p.pa p.pl p.pc)) ∧ (W'.cell? ⟨w.heap.size, 0, none⟩ = some (.int .i64 q.id) ∧ W'.cell? ⟨w.heap.size, 1, none⟩ = some (.slice q.la q.ll q.lc) ∧ W'.cell? ⟨w.heap.size, 2, none⟩ = some (.slice q.pa q.pl q.pc)) ∧ W'.cell? ⟨fb, 0, none⟩ = some (.func (.func 57) #[] #[])) := fun W' kk => by
    have q1 : ∀ o, W'.cell? ⟨xb, o, none⟩ = _ := fun o => (kk.cell (p := ⟨xb, o, none⟩) (by show xb < W.heap.size; rw [HZ.out]; omega)).trans (cell_of HX1.out o)
    have q2 : ∀ o, W'.cell? ⟨w.heap.size, o, none⟩ = _ := fun o => (kk.cell (p := ⟨w.heap.size, o, none⟩) (by show w.heap.size < W.heap.size; rw [HZ.out]; omega)).trans (cell_of HY1.out o)
    exact ⟨⟨q1 0, q1 1, q1 2⟩, ⟨q2 0, q2 1, q2 2⟩, (kk.cell (p := ⟨fb, 0, none⟩) (by show fb < W.heap.size; rw [HZ.out]; omega)).trans HF1.out⟩
  have D0 : Below W.heap.size W W.drew := (Below.refl _ _).drew
  obtain ⟨⟨x0, x1, x2⟩, ⟨y0, y1, y2⟩, n0⟩ := HS.out W (Below.refl _ _)
  go_region_held3 (fun W' => (W'.cell? ⟨xb, 0, none⟩ = some (.int .i64 p.id) ∧ W'.cell? ⟨xb, 1, none⟩ = some (.slice p.la p.ll p.lc) ∧ W'.cell? ⟨xb, 2, none⟩ = some (.slice p.pa p.pl p.pc)) ∧ (W'.cell? ⟨w.heap.size, 0, none⟩ = some (.int .i64 q.id) ∧ W'.cell? ⟨w.heap.size, 1, none⟩ = some (.slice q.la q.ll q.lc) ∧ W'.cell? ⟨w.heap.size, 2, none⟩ = some (.slice q.pa q.pl q.pc)) ∧ W'.cell? ⟨fb, 0, none⟩ = some (.func (.func 57) #[] #[]))
    (first
      | with_reducible exact HS.out _ k2
      | with_reducible exact HS.out _ k1
      | with_reducible exact HS.out _ D0
      | exact ⟨⟨x0, x1, x2⟩, ⟨y0, y1, y2⟩, n0⟩
      | go_keep)
    (first
      | (go_at_call 57; go_fit (NI.out q u1); rintro e u2 ⟨rfl, h2⟩; have k2 : Below W.heap.size W u2 := k1.trans (h2.mono k1.size))
      | (go_at_call 57; go_fit (NI.out p u1); rintro e u2 ⟨rfl, h2⟩; have k2 : Below W.heap.size W u2 := k1.trans (h2.mono k1.size))
      | (go_at_call 57; go_fit (NI.out p W.drew); rintro e u1 ⟨rfl, h1⟩; have k1 : Below W.heap.size W u1 := D0.trans h1)
      | (go_at_call 57; go_fit (NI.out q W.drew); rintro e u1 ⟨rfl, h1⟩; have k1 : Below W.heap.size W u1 := D0.trans h1))
  all_goals
    go_wp2_with fail
    go_ret
    exact ⟨rfl, HB.out.trans (k2.mono (by rw [HZ.out]; omega))⟩

set_option maxHeartbeats 4000000 in
set_option maxRecDepth 100000 in
theorem numN_index (p : Nd) (x : AN) (Y : List AN) (a : Option Addr) (l c : Nat) (fb xb : Nat) (w : World) (hp : NdIn w p x) (hY : NsAt w Y a l) (hx : x.ok) (hy : ∀ y ∈ Y, y.ok) (hfb : w.cell? ⟨fb, 0, none⟩ = some (.func (.func 57) #[] #[])) (hfl : fb < w.heap.size) (hxb : w.heap[xb]? = some (.cells #[.int .i64 p.id, .slice p.la p.ll p.lc, .slice p.pa p.pl p.pc] 49 (0, 0))) :
    Calls Tryz.prog 94 #[.slice a l c, .func (.func 99) #[] #[.pointer (some ⟨fb, 0, none⟩), .pointer (some ⟨xb, 0, none⟩)]] w fun e w' => e = .returned (.int .i64 (idxF (numN x) 0 Y)) ∧ Below w.heap.size w w' := by
  obtain ⟨R, hR⟩ : ∃ R, R = idxF (numN x) 0 Y := ⟨_, rfl⟩
  rw [← hR]
  obtain ⟨Q, ⟨hl, hmx, hat⟩, hq⟩ := hY
  have HL := toHid hl
  have HAT := toHid hat
  have HQ := toHid hq
  have HYL : Hid (Y.length = l) := by rw [HL.out]; exact HQ.out.1.symm
  have HONE : Hid (∀ W q y, Below w.heap.size w W → y ∈ Y → NdIn w q y → Calls Tryz.prog 99 #[.agg #[.int .i64 q.id, .slice q.la q.ll q.lc, .slice q.pa q.pl q.pc], .pointer (some ⟨fb, 0, none⟩), .pointer (some ⟨xb, 0, none⟩)] W fun e w' => e = .returned (.bool (numN x y)) ∧ Below W.heap.size W w') := fun W q y kW hm hqy => numN_one p x q y fb xb W (hp.below kW) (hqy.below kW) hx (hy y hm) ((kW.cell (p := ⟨fb, 0, none⟩) hfl).trans hfb) (Nat.lt_of_lt_of_le hfl kW.size) ((kW.block xb (lt_block hxb)).trans hxb)
  have H3 := toHid (show R = idxF (numN x) 0 (Y.drop 0) from hR)
  clear hR hl hat hq hp hx hy hfb hfl hxb
  go_enter Tryz.func94, Tryz.ntmps94
  go_wp2_with fail
  go_loopg [8] l (fun g s8 wr => ∃ i : Nat, i ≤ l ∧ l - i ≤ g ∧ s8 = .int .i64 i ∧ Below w.heap.size w wr ∧ R = idxF (numN x) i (Y.drop i))
  case atStart => exact ⟨0, Nat.zero_le _, by omega, rfl, Below.refl _ _, H3.out⟩
  case round =>
    clear H3
    obtain ⟨i, hi, hg, rfl, hbw, hfe⟩ := hrel
    have HFE := toHid hfe
    clear hfe
    by_cases hlt : i < l
    · obtain ⟨b, off, ha, hb, hc⟩ := HAT.out (by omega)
      subst ha
      obtain ⟨q, hq, _⟩ := drop_get (L := Q) (i := i) (by have := HL.out; omega)
      obtain ⟨y, hy, hqy⟩ := HQ.out.left hq
      obtain ⟨c0, c1, c2⟩ := hc i q hq
      have qq : ∀ o, wr.cell? ⟨b, o, none⟩ = w.cell? ⟨b, o, none⟩ := fun o => hbw.cell (p := ⟨b, o, none⟩) hb
      have d0 := (qq _).trans c0
      have d1 := (qq _).trans c1
      have d2 := (qq _).trans c2
      have hdy : Y.drop i = y :: Y.drop (i + 1) := by
        obtain ⟨z, hz, hd⟩ := drop_get (L := Y) (i := i) (by have := HYL.out; omega)
        rw [hy] at hz
        injection hz with hz
        rw [hz]
        exact hd
      have H4 := toHid (show R = if numN x y = true then (i : Int) else idxF (numN x) (i + 1) (Y.drop (i + 1)) by rw [HFE.out, hdy]; rfl)
      have HC := toHid (HONE.out wr q y hbw (List.mem_of_getElem? hy) hqy)
      clear hc hq hy hqy c0 c1 c2 qq hdy HFE
      have hil : (i : Int) < l := by omega
      go_wp2_with fail
      refine HC.out.mono ?_
      rintro e w2 ⟨rfl, k2⟩
      have hb2 := hbw.trans (k2.mono hbw.size)
      clear k2 d0 d1 d2
      cases hs : numN x y with
      | true =>
        have H5 := toHid (show R = (i : Int) by rw [H4.out, if_pos hs])
        clear H4 hs
        go_wp2_with fail
        go_ret
        exact ⟨ret_int (by rw [H5.out]), hb2⟩
      | false =>
        have H5 := toHid (show R = idxF (numN x) (i + 1) (Y.drop (i + 1)) by rw [H4.out, if_neg (by rw [hs]; decide)])
        clear H4 hs
        go_wp2_with fail
        go_roundg (l - (i + 1))
        case measure => omega
        case rel => exact ⟨i + 1, by omega, by omega, by go_num, hb2, H5.out⟩
    · have H3 := toHid (show R = -1 by rw [HFE.out, List.drop_eq_nil_of_le (by have := HYL.out; omega)]; rfl)
      clear HFE
      go_wp2_with fail
      go_ret
      exact ⟨ret_int (by rw [H3.out]), hbw⟩

set_option maxHeartbeats 2000000 in
theorem numN_has (p : Nd) (x : AN) (Y : List AN) (a : Option Addr) (l c : Nat) (fb xb : Nat) (w : World) (hp : NdIn w p x) (hY : NsAt w Y a l) (hx : x.ok) (hy : ∀ y ∈ Y, y.ok) (hfb : w.cell? ⟨fb, 0, none⟩ = some (.func (.func 57) #[] #[])) (hfl : fb < w.heap.size) (hxb : w.heap[xb]? = some (.cells #[.int .i64 p.id, .slice p.la p.ll p.lc, .slice p.pa p.pl p.pc] 49 (0, 0))) :
    Calls Tryz.prog 52 #[.slice a l c, .func (.func 99) #[] #[.pointer (some ⟨fb, 0, none⟩), .pointer (some ⟨xb, 0, none⟩)]] w fun e w' => e = .returned (.bool (Y.any (numN x))) ∧ Below w.heap.size w w' := by
  have HC := toHid (numN_index p x Y a l c fb xb w hp hY hx hy hfb hfl hxb)
  have HI := toHid (idxF_any (numN x) Y 0)
  clear hp hY hx hy hfb hfl hxb
  obtain ⟨z, hz⟩ : ∃ z, z = idxF (numN x) 0 Y := ⟨_, rfl⟩
  obtain ⟨R, hR⟩ : ∃ R, R = Y.any (numN x) := ⟨_, rfl⟩
  rw [← hz] at HC HI
  rw [← hR] at HI ⊢
  clear hz hR
  go_enter Tryz.func52, Tryz.ntmps52
  go_wp2_with fail
  refine HC.out.mono ?_
  rintro e w1 ⟨rfl, k1⟩
  rcases HI.out with ⟨h1, h2⟩ | ⟨h1, h2⟩
  · have h3 : z ≥ 0 := h2
    have H1 := toHid h1
    clear h1 h2
    go_wp2_with fail
    go_ret
    exact ⟨ret_bool (by rw [H1.out]), k1⟩
  · have h3 : ¬ z ≥ 0 := by omega
    have H1 := toHid h1
    clear h1 h2
    go_wp2_with fail
    go_ret
    exact ⟨ret_bool (by rw [H1.out]; exact decide_eq_false (by omega)), k1⟩

/-- The cells of nodes that may be read through a slice. -/
theorem NodesAt.news {w : World} {N : List Nd} {a : Option Addr} {l : Nat} (h : NodesAt w N a l) : ∀ j u, (rowN N)[j]? = some u → ∃ ad, a = some ad ∧ w.cell? (ad.add j) = some u := by
  intro j u hu
  obtain ⟨h1, h2, h3⟩ := h
  have hj : j < (rowN N).length := (List.getElem?_eq_some_iff.1 hu).1
  have hlen : (rowN N).length = N.length * 3 := flat_len Nd.cells 3 (fun _ => rfl) N
  have hj3 : j / 3 < N.length := by
    rw [hlen] at hj
    exact Nat.div_lt_of_lt_mul (by rw [Nat.mul_comm]; exact hj)
  obtain ⟨b, off, ha, hb, hc⟩ := h3 (by omega)
  refine ⟨⟨b, off, none⟩, ha, ?_⟩
  have hx := List.getElem?_eq_getElem hj3
  have hq := hc _ _ hx
  have hm : j % 3 < 3 := Nat.mod_lt _ (by decide)
  have e : j = j / 3 * 3 + j % 3 := by omega
  generalize j / 3 = i at *
  generalize j % 3 = t at *
  generalize N[i] = x at *
  have hu2 : ∀ v, (Nd.cells x)[t]? = some v → u = v := fun v hv => by
    have := flat_get Nd.cells 3 (fun _ => rfl) N i t x v hx hv
    unfold rowN at hu
    rw [e, this] at hu
    exact (Option.some.inj hu).symm
  rw [add_none, e]
  have ht : t = 0 ∨ t = 1 ∨ t = 2 := by omega
  rcases ht with rfl | rfl | rfl
  · rw [hu2 _ rfl, show off + (i * 3 + 0) = off + i * 3 by omega]
    exact hq.1
  · rw [hu2 _ rfl, show off + (i * 3 + 1) = off + i * 3 + 1 by omega]
    exact hq.2.1
  · rw [hu2 _ rfl, show off + (i * 3 + 2) = off + i * 3 + 1 + 1 by omega]
    exact hq.2.2

theorem rowAtN {W w : World} {B l c : Nat} {a : Option Addr} {N : List Nd} {X : List AN} (h1 : w.ownsRow B 49 3 (.slice a l c) N.length (rowN N)) (h2 : Pair2 (NdIn W) N X) : NodesAt w N a l := by
  have e1 := (row_len h1).1
  subst e1
  exact row_nodes h1

theorem nilN_none (w : World) (l c : Nat) : (binOp .eql 22 (.slice none l c) (.slice none 0 0)).run Tryz.prog w = .ok (.bool true) w := by kernel_rfl

theorem nilN_some (w : World) (ad : Addr) (l c : Nat) : (binOp .eql 22 (.slice (some ad) l c) (.slice none 0 0)).run Tryz.prog w = .ok (.bool false) w := by kernel_rfl

theorem rowN_one (N : List Nd) : ∀ u ∈ rowN N, u.oneCell' = true := fun u hu => by
  obtain ⟨l, hl1, hl2⟩ := List.mem_flatten.1 hu
  obtain ⟨x, _, rfl⟩ := List.mem_map.1 hl1
  simp [Nd.cells] at hl2
  rcases hl2 with rfl | rfl | rfl <;> rfl

set_option maxHeartbeats 4000000 in
set_option maxRecDepth 100000 in
theorem cloneN_any (N : List Nd) (a : Option Addr) (l c : Nat) (w : World) (h : NodesAt w N a l) (hl : l ≤ 1000) :
    Calls Tryz.prog 96 #[.slice a l c] w fun e w' => (∃ v, e = .returned v ∧ w'.ownsRow w.heap.size 49 3 v N.length (rowN N)) ∧ Below w.heap.size w w' := by
  have HN : Hid (∀ W, Below w.heap.size w W → ∀ j u, (rowN N)[j]? = some u → ∃ ad, a = some ad ∧ W.cell? (ad.add j) = some u) := fun W k => (h.below k).news
  have HL := toHid h.1
  have HFL : Hid ((rowN N).length = l * 3) := by rw [HL.out]; exact flat_len Nd.cells 3 (fun _ => rfl) N
  have HO := toHid (rowN_one N)
  obtain ⟨i0, hi0, hiz, his, hib⟩ := info_Node
  have HI0 := toHid hi0
  have HIZ := toHid hiz
  have HIS := toHid his
  have HIB := toHid hib
  clear hi0 hiz his hib h
  cases a with
  | none =>
    have hr : rowN N = [] := by
      cases hc : rowN N with
      | nil => rfl
      | cons u us =>
        obtain ⟨_, e1, _⟩ := HN.out w (Below.refl _ _) 0 u (by rw [hc]; rfl)
        cases e1
    have h0 : l = 0 := by have := HFL.out; rw [hr] at this; simp at this; omega
    subst h0
    have HNN : Hid (N.length = 0) := HL.out.symm
    have HR := toHid hr
    have hnil : ∀ w, (binOp .eql 22 (.slice none 0 c) (.slice none 0 0)).run Tryz.prog w = .ok (.bool true) w := fun w => nilN_none w 0 c
    clear hr
    go_enter Tryz.func96, Tryz.ntmps96
    go_wp2_with fail
    go_ret
    refine ⟨⟨_, rfl, ?_⟩, Below.refl _ _⟩
    rw [HR.out, HNN.out]
    exact World.ownsRow_nil _ _ _ _
  | some ad =>
    have HB1 : l ≤ maxLen := by unfold maxLen; omega
    have hnil : ∀ w, (binOp .eql 22 (.slice (some ad) l c) (.slice none 0 0)).run Tryz.prog w = .ok (.bool false) w := fun w => nilN_some w ad l c
    go_enter Tryz.func96, Tryz.ntmps96
    go_wp2_with (at_builtin; refine wpList_append_both _ rfl _ _ 22 rfl w.heap.size 49 i0 _ 3 56 Tryz.underlying22 HI0.out HIZ.out HIS.out HIB.out rfl (by omega) (.slice (some ⟨w.heap.size, 0, none⟩) 0 0) 0 [] (by rfl) (World.ownsRow_made _ #[] 0 (Nat.le_refl _) (by decide) rfl) (some ad) l c (rowN N) (by rfl) HFL.out (HN.out _ ((Below.refl w.heap.size w).alloc (Nat.le_refl _) _)) HO.out (by omega) (by omega) (by simp) ?_)
    intro v' w' h1 h2 h3
    have hb : Below w.heap.size w w' := ((Below.refl w.heap.size w).alloc (Nat.le_refl _) _).grown h2 (by simp) (fun k hk => by
      have : w.heap.size = k := by simpa [Value.ownBlock] using hk
      omega)
    have HBB := toHid hb

    have HOW := toHid h1
    clear hb h1 h2 h3
    go_wp2_with fail
    go_ret
    refine ⟨⟨v', rfl, ?_⟩, HBB.out⟩
    rw [← HL.out]
    exact HOW.out

set_option maxHeartbeats 2000000 in
set_option maxRecDepth 100000 in
theorem sort0N (nb : Nat) (w : World) :
    Calls Tryz.prog 100 #[.slice none 0 0, fvN nb] w fun e w' => e = .returned (.tuple #[]) ∧ w' = w := by
  have HIN : Hid (Calls Tryz.prog 180 #[.slice none 0 0, .int .i64 0, .int .i64 0, fvN nb] w fun e w' => e = .returned (.tuple #[]) ∧ w' = w) := by
    go_enter Tryz.func180, Tryz.ntmps180
    go_wp2_with fail
    go_loopg [8] 0 (fun q x8 wr => x8 = .int .i64 1 ∧ wr = w)
    case atStart => exact ⟨rfl, rfl⟩
    case round =>
      obtain ⟨rfl, rfl⟩ := hrel
      go_wp2_with fail
      go_end0
      exact ⟨rfl, rfl⟩
  have HST : Hid (Calls Tryz.prog 142 #[.slice none 0 0, .int .i64 0, fvN nb] w fun e w' => e = .returned (.tuple #[]) ∧ w' = w) := by
    go_enter Tryz.func142, Tryz.ntmps142
    go_wp2_with fail
    go_loopg [7, 8] 0 (fun q x7 x8 wr => x7 = .int .i64 0 ∧ x8 = .int .i64 20 ∧ wr = w)
    case atStart => exact ⟨rfl, rfl, rfl⟩
    case round =>
      obtain ⟨rfl, rfl, rfl⟩ := hrel
      go_wp2_with fail
      refine HIN.out.mono ?_
      rintro e w1 ⟨rfl, rfl⟩
      go_wp2_with fail
      go_loopg [6] 0 (fun q x6 wr => x6 = .int .i64 20 ∧ wr = w1)
      case atStart => exact ⟨rfl, rfl⟩
      case round =>
        obtain ⟨rfl, rfl⟩ := hrel
        go_wp2_with fail
        go_end0
        exact ⟨rfl, rfl⟩
  clear HIN
  go_enter Tryz.func100, Tryz.ntmps100
  go_wp2_with fail
  refine HST.out.mono ?_
  rintro e w1 ⟨rfl, rfl⟩
  go_wp2_with fail
  go_end0
  exact ⟨rfl, rfl⟩

theorem RowN.below {w w' : World} {g cap : Nat} {D : List Nd} (h : RowN w g cap D) (k : Below w.heap.size w w') : RowN w' g cap D := row_keep h fun _ _ hl => k.block _ hl

theorem cmpN_lt {a b : Int} : cmpN a b < 0 ↔ a < b := by
  unfold cmpN
  split
  · simp [*]
  · split
    · constructor <;> intro h <;> omega
    · constructor <;> intro h <;> omega

theorem swp_comm {α : Type} {D : List α} {i j : Nat} {x y : α} (hx : D[i]? = some x) (hy : D[j]? = some y) (hij : i ≠ j) : swp D j i = swp D i j := by
  apply List.ext_getElem?
  intro k
  rw [swp_get hx hy, swp_get hy hx]
  by_cases h1 : k = i
  · subst h1; rw [if_pos rfl, if_neg hij, if_pos rfl]
  · rw [if_neg h1, if_neg h1]

set_option maxHeartbeats 8000000 in
set_option maxRecDepth 100000 in
theorem insertionN (g cap a b nb : Nat) (D : List Nd) (w : World) (h : RowN w g cap D) (hc : CmpOkN w nb) (hnb : nb ≠ g) (hab : a ≤ b) (hb : b ≤ D.length) (hD : D.length ≤ 1000) :
    Calls Tryz.prog 180 #[.slice (some ⟨g, 0, none⟩) D.length cap, .int .i64 a, .int .i64 b, fvN nb] w fun e w' => e = .returned (.tuple #[]) ∧ ∃ E, MixS a b D E ∧ Ris Nd.id E a b ∧ RowN w' g cap E ∧ Rest (fun j => j = g) w w' := by
  have H := toHid h
  have HC := toHid hc
  clear h hc
  go_enter Tryz.func180, Tryz.ntmps180
  go_wp2_with fail
  go_loopg [8, 9] (b - a) (fun q x8 x9 wr => ∃ (i : Nat) (E : List Nd), a + 1 ≤ i ∧ (i ≤ b ∨ i = a + 1) ∧ b - i ≤ q ∧ x8 = .int .i64 i ∧ MixS a b D E ∧ Ris Nd.id E a i ∧ RowN wr g cap E ∧ Rest (fun j => j = g) w wr)
  case atStart => exact ⟨a + 1, D, Nat.le_refl _, .inr rfl, by omega, by go_num, MixS.refl _ _ _, Ris.one (Nat.le_refl _), H.out, Rest.refl _ _⟩
  case round =>
    obtain ⟨i, E, hai, hib, hq, rfl, hM, hS, hR, hk⟩ := hrel
    by_cases hlt : i < b
    · have hltI : (i : Int) < (b : Int) := by omega
      have HM := toHid hM
      have HS := toHid hS
      have HR := toHid hR
      have HK := toHid hk
      clear hM hS hR hk
      obtain ⟨w9, hw9⟩ : ∃ z, z = wr := ⟨_, rfl⟩
      subst hw9
      go_wp2_with fail
      go_loopg [9] (i - a) (fun q x9 wr => ∃ (j : Nat) (E : List Nd), a ≤ j ∧ j ≤ i ∧ j - a ≤ q ∧ x9 = .int .i64 j ∧ MixS a b D E ∧ InsI Nd.id E a i j ∧ RowN wr g cap E ∧ Rest (fun j => j = g) w wr)
      case atStart => exact ⟨i, E, by omega, Nat.le_refl _, Nat.le_refl _, rfl, HM.out, InsI.start HS.out, HR.out, HK.out⟩
      case round =>
        clear HM HS HR HK
        obtain ⟨j, E, haj, hji, hq2, rfl, hM, hI, hR, hk⟩ := hrel
        have hEl : E.length = D.length := hM.1
        have HM := toHid hM
        have HI := toHid hI
        have HR := toHid hR
        have HK := toHid hk
        have HCW := toHid (HC.out.rest hnb hk)
        obtain ⟨β, hb1, hb2, hb3, hb4⟩ : ∃ β : Bool, (β = true → a < j ∧ ∃ x y, E[j - 1]? = some x ∧ E[j]? = some y ∧ y.id < x.id) ∧ (β = false → j = a ∨ ∀ x y, E[j - 1]? = some x → E[j]? = some y → x.id ≤ y.id) ∧ (a < j → ∀ x y, E[j - 1]? = some x → E[j]? = some y → β = decide (y.id < x.id)) ∧ (¬ a < j → β = false) := by
          by_cases hja : a < j
          · obtain ⟨x, hx⟩ : ∃ x, E[j - 1]? = some x := ⟨_, List.getElem?_eq_getElem (by omega)⟩
            obtain ⟨y, hy⟩ : ∃ y, E[j]? = some y := ⟨_, List.getElem?_eq_getElem (by omega)⟩
            refine ⟨decide (y.id < x.id), fun h => ⟨hja, x, y, hx, hy, by simpa using h⟩, fun h => .inr fun x' y' hx' hy' => ?_, fun _ x' y' hx' hy' => ?_, fun h => absurd hja h⟩
            · rw [hx] at hx'; rw [hy] at hy'
              injection hx' with hx'; injection hy' with hy'
              subst hx' hy'
              have : ¬ y.id < x.id := by simpa using h
              omega
            · rw [hx] at hx'; rw [hy] at hy'
              injection hx' with hx'; injection hy' with hy'
              subst hx' hy'
              rfl
          · exact ⟨false, fun h => absurd h (by decide), fun _ => .inl (by omega), fun h => absurd h hja, fun _ => rfl⟩
        have HB1 := toHid hb1
        have HB2 := toHid hb2
        have HB3 := toHid hb3
        have HB4 := toHid hb4
        clear hb1 hb2 hb3 hb4
        go_upto_region 4 with fail
        go_cut [34] (fun c wz => c = .bool β ∧ Below wr.heap.size wr wz)
        case first =>
          by_cases hja : a < j
          · have hjaI : (a : Int) < (j : Int) := by omega
            obtain ⟨k, hkj⟩ : ∃ k, k = j - 1 := ⟨_, rfl⟩
            obtain ⟨x, hx⟩ : ∃ x, E[k]? = some x := ⟨_, List.getElem?_eq_getElem (by omega)⟩
            obtain ⟨y, hy⟩ : ∃ y, E[j]? = some y := ⟨_, List.getElem?_eq_getElem (by omega)⟩
            have HX := toHid hx
            have HY := toHid hy
            have HKJ := toHid hkj
            have hjl : (j : Int) < (D.length : Int) := by omega
            have hjl2 : (k : Int) < (D.length : Int) := by omega
            have hw1 : IntKind.i64.wrap ((j : Int) - 1) = (k : Int) := by rw [IntKind.wrap_i64]; omega
            have hw3 : wrap64 ((j : Int) - 1) = (k : Int) := (IntWalk.wrap64_in _ ⟨by omega, by omega⟩).trans (by omega)
            have hk0 : (0 : Int) ≤ (k : Int) := by omega
            have hgl : g < wr.heap.size := by obtain ⟨cur, hc, _⟩ := hR.blk; exact (Array.getElem?_eq_some_iff.1 hc).1
            have HS : Hid (∀ W', Below wr.heap.size wr W' → (W'.cell? ⟨g, j * 3, none⟩ = some (.int .i64 y.id) ∧ W'.cell? ⟨g, j * 3 + 1, none⟩ = some (.slice y.la y.ll y.lc) ∧ W'.cell? ⟨g, j * 3 + 2, none⟩ = some (.slice y.pa y.pl y.pc)) ∧ (W'.cell? ⟨g, k * 3, none⟩ = some (.int .i64 x.id) ∧ W'.cell? ⟨g, k * 3 + 1, none⟩ = some (.slice x.la x.ll x.lc) ∧ W'.cell? ⟨g, k * 3 + 2, none⟩ = some (.slice x.pa x.pl x.pc))) := fun W' kk => by
              obtain ⟨y0, y1, y2, _⟩ := (HR.out.below kk).get HY.out
              obtain ⟨x0, x1, x2, _⟩ := (HR.out.below kk).get HX.out
              exact ⟨⟨y0, y1, y2⟩, ⟨x0, x1, x2⟩⟩
            have D0 : Below wr.heap.size wr wr.drew := (Below.refl _ _).drew
            obtain ⟨⟨y0, y1, y2⟩, ⟨x0, x1, x2⟩⟩ := HS.out wr (Below.refl _ _)
            have HCC := toHid (cmpN_any nb y x wr.drew (HCW.out.below D0))
            have HBB := toHid (HB3.out hja x y (by rw [← HKJ.out]; exact HX.out) HY.out)
            clear hM hI hR hk hx hy hEl hkj
            go_region_held3 (fun W' => (W'.cell? ⟨g, j * 3, none⟩ = some (.int .i64 y.id) ∧ W'.cell? ⟨g, j * 3 + 1, none⟩ = some (.slice y.la y.ll y.lc) ∧ W'.cell? ⟨g, j * 3 + 2, none⟩ = some (.slice y.pa y.pl y.pc)) ∧ (W'.cell? ⟨g, k * 3, none⟩ = some (.int .i64 x.id) ∧ W'.cell? ⟨g, k * 3 + 1, none⟩ = some (.slice x.la x.ll x.lc) ∧ W'.cell? ⟨g, k * 3 + 2, none⟩ = some (.slice x.pa x.pl x.pc)))
              (first
                | with_reducible exact HS.out _ k1
                | with_reducible exact HS.out _ D0
                | exact ⟨⟨y0, y1, y2⟩, ⟨x0, x1, x2⟩⟩
                | go_keep)
              (first
                | (go_at_call 101; go_fit HCC.out; rintro e u1 ⟨rfl, h1⟩; have k1 : Below wr.heap.size wr u1 := D0.trans h1))
            all_goals
              go_wp2_with fail
              go_meet
              exact ⟨by rw [HBB.out]; simp [cmpN_lt], k1⟩
          · have hjaI : ¬ (a : Int) < (j : Int) := by omega
            clear hM hI hR hk hEl
            go_quiet (fail)
            go_wp2_with fail
            go_meet
            exact ⟨by rw [HB4.out hja], below_drewN _ _⟩
        case rest =>
          obtain ⟨rfl, kz⟩ := hcut
          have hR2 := hR.below kz
          have hk2 := hk.trans (Rest.of_below (O := fun _ => False) kz) fun _ _ h => h.elim
          generalize wc = wz at *
          cases hbb : β with
          | true =>
            obtain ⟨hja, x, y, hx, hy, hlt2⟩ := HB1.out hbb
            obtain ⟨k, hkj⟩ : ∃ k, k = j - 1 := ⟨_, rfl⟩
            have hx0 := hx
            rw [← hkj] at hx
            have hkj1 : k < j := by omega
            obtain ⟨y0, y1, y2, fy0, fy1, fy2⟩ := hR2.get hy
            obtain ⟨x0, x1, x2, fx0, fx1, fx2⟩ := hR2.get hx
            have HW := toHid (hR2.swap hy hx).drew
            have HI2 := toHid (hI.step hja hji hx0 hy hlt2)
            have HM2 := toHid (hM.trans (swp_mix (a := a) (b := b) hx0 hy (by omega) (by omega) (by omega)))
            have HSW : Hid (swp E j k = swp E (j - 1) j) := by rw [← hkj]; exact swp_comm hx hy (by omega)
            have HK2 := toHid hk2
            have hjl : (j : Int) < (D.length : Int) := by omega
            have hjl2 : (k : Int) < (D.length : Int) := by omega
            have hw1 : IntKind.i64.wrap ((j : Int) - 1) = (k : Int) := by rw [IntKind.wrap_i64]; omega
            have hw3 : wrap64 ((j : Int) - 1) = (k : Int) := (IntWalk.wrap64_in _ ⟨by omega, by omega⟩).trans (by omega)
            have hk0 : (0 : Int) ≤ (k : Int) := by omega
            have hne : j ≠ k := by omega
            have HKJ := toHid hkj
            clear hM hI hR hR2 hk hk2 hx hx0 hy hEl hkj kz hlt2
            go_upto_block 3 with fail
            go_cut [] (fun wq => RowN wq g cap (swp E j k) ∧ Rest (fun j => j = g) w wq)
            case first =>
              go_wp2_with fail
              go_region
              all_goals
                go_wp2_with fail
                go_meet
                exact ⟨HW.out, ((HK2.out.put (j * 3) x.cells).put (k * 3) y.cells).drewS⟩
            case rest =>
              obtain ⟨hz, kq⟩ := hcut
              have HZ := toHid hz
              have HKQ := toHid kq
              clear hz kq
              go_wp2_with fail
              go_roundg (j - 1 - a)
              case measure => omega
              case rel => exact ⟨j - 1, _, by omega, by omega, Nat.le_refl _, by have := HKJ.out; go_num, HM2.out, HI2.out, by rw [← HSW.out]; exact HZ.out, HKQ.out⟩
          | false =>
            have HD := toHid (hI.done (by omega) hji (by omega) (HB2.out hbb))
            have HR2 := toHid hR2
            have HK2 := toHid hk2
            clear hM hI hR hR2 hk hk2 hEl kz
            go_wp2_with fail
            go_roundg (b - (i + 1))
            case measure => omega
            case rel => exact ⟨i + 1, E, by omega, .inl (by omega), Nat.le_refl _, by go_num, HM.out, HD.out, HR2.out, HK2.out⟩
    · have HS : Hid (Ris Nd.id E a b) := by
        rcases hib with h | h
        · have : i = b := by omega
          subst this
          exact hS
        · exact Ris.one (by omega)
      have hltI : ¬ (i : Int) < (b : Int) := by omega
      have HM := toHid hM
      have HR := toHid hR
      have HK := toHid hk
      clear hM hS hR hk
      go_wp2_with fail
      go_end0
      exact ⟨rfl, E, HM.out, HS.out, HR.out, HK.out⟩

set_option linter.unusedVariables false

section
variable {α : Type} (key : α → Int)

/-- All from a to b rises but the one at k; it isn't below those ahead of it, nor below those up to i, nor above those from i on. -/
structure UpI (E : List α) (a b i k : Nat) : Prop where
  all : ∀ (p q : Nat) (x y : α), a ≤ p → p < q → q < b → p ≠ k → q ≠ k → E[p]? = some x → E[q]? = some y → key x ≤ key y
  bef : ∀ (p : Nat) (x y : α), a ≤ p → p < k → E[p]? = some x → E[k]? = some y → key x ≤ key y
  aft : ∀ (q : Nat) (x y : α), i ≤ q → q < b → E[k]? = some x → E[q]? = some y → key x ≤ key y
  mid : ∀ (q : Nat) (x y : α), k < q → q < i → E[q]? = some x → E[k]? = some y → key x ≤ key y

/-- The same from the other side. -/
structure DnI (E : List α) (a b i k : Nat) : Prop where
  all : ∀ (p q : Nat) (x y : α), a ≤ p → p < q → q < b → p ≠ k → q ≠ k → E[p]? = some x → E[q]? = some y → key x ≤ key y
  bef : ∀ (p : Nat) (x y : α), a ≤ p → p < i → E[p]? = some x → E[k]? = some y → key x ≤ key y
  aft : ∀ (q : Nat) (x y : α), k < q → q < b → E[k]? = some x → E[q]? = some y → key x ≤ key y
  mid : ∀ (p : Nat) (x y : α), i ≤ p → p < k → E[k]? = some x → E[p]? = some y → key x ≤ key y

variable {key}

theorem UpI.step {E : List α} {a b i k : Nat} {x y : α} (h : UpI key E a b i k) (hk : k + 1 < i) (ha : a ≤ k) (hib : i ≤ b) (hx : E[k]? = some x) (hy : E[k + 1]? = some y) : UpI key (swp E k (k + 1)) a b i (k + 1) := by
  have g := swp_get hx hy
  have gk : (swp E k (k + 1))[k + 1]? = some x := by rw [g, if_pos rfl]
  have gk0 : (swp E k (k + 1))[k]? = some y := by rw [g, if_neg (by omega), if_pos rfl]
  have go : ∀ p, p ≠ k → p ≠ k + 1 → (swp E k (k + 1))[p]? = E[p]? := fun p h1 h2 => by rw [g, if_neg h2, if_neg h1]
  refine ⟨fun p q u v h1 h2 h3 h4 h5 hu hv => ?_, fun p u v h1 h2 hu hv => ?_, fun q u v h1 h2 hu hv => ?_, fun q u v h1 h2 hu hv => ?_⟩
  · by_cases c1 : p = k
    · subst c1
      rw [gk0] at hu
      injection hu with hu
      subst hu
      rw [go q (by omega) h5] at hv
      exact h.all (p + 1) q y v (by omega) (by omega) h3 (by omega) (by omega) hy hv
    · rw [go p c1 h4] at hu
      by_cases c2 : q = k
      · subst c2
        rw [gk0] at hv
        injection hv with hv
        subst hv
        exact h.all p (q + 1) u y h1 (by omega) (by omega) (by omega) (by omega) hu hy
      · rw [go q c2 h5] at hv
        exact h.all p q u v h1 h2 h3 c1 c2 hu hv
  · rw [gk] at hv
    injection hv with hv
    subst hv
    by_cases c1 : p = k
    · subst c1
      rw [gk0] at hu
      injection hu with hu
      subst hu
      exact h.mid (p + 1) y x (by omega) hk hy hx
    · rw [go p c1 (by omega)] at hu
      exact h.bef p u x h1 (by omega) hu hx
  · rw [gk] at hu
    injection hu with hu
    subst hu
    rw [go q (by omega) (by omega)] at hv
    exact h.aft q x v h1 h2 hx hv
  · rw [gk] at hv
    injection hv with hv
    subst hv
    rw [go q (by omega) (by omega)] at hu
    exact h.mid q u x (by omega) h2 hu hx

theorem UpI.done {E : List α} {a b i k : Nat} (h : UpI key E a b i k) (hk : i ≤ k + 1) : Ris key E a b := fun p q x y h1 h2 h3 hx hy => by
  by_cases c1 : p = k
  · subst c1
    exact h.aft q x y (by omega) h3 hx hy
  · by_cases c2 : q = k
    · subst c2
      exact h.bef p x y h1 h2 hx hy
    · exact h.all p q x y h1 h2 h3 c1 c2 hx hy

theorem DnI.step {E : List α} {a b i k : Nat} {x y : α} (h : DnI key E a b i (k + 1)) (hk : i < k + 1) (ha : a ≤ i) (hkb : k + 1 < b) (hx : E[k]? = some x) (hy : E[k + 1]? = some y) : DnI key (swp E k (k + 1)) a b i k := by
  have g := swp_get hx hy
  have gk : (swp E k (k + 1))[k + 1]? = some x := by rw [g, if_pos rfl]
  have gk0 : (swp E k (k + 1))[k]? = some y := by rw [g, if_neg (by omega), if_pos rfl]
  have go : ∀ p, p ≠ k → p ≠ k + 1 → (swp E k (k + 1))[p]? = E[p]? := fun p h1 h2 => by rw [g, if_neg h2, if_neg h1]
  refine ⟨fun p q u v h1 h2 h3 h4 h5 hu hv => ?_, fun p u v h1 h2 hu hv => ?_, fun q u v h1 h2 hu hv => ?_, fun q u v h1 h2 hu hv => ?_⟩
  · by_cases c1 : p = k + 1
    · subst c1
      rw [gk] at hu
      injection hu with hu
      subst hu
      rw [go q (by omega) (by omega)] at hv
      exact h.all k q x v (by omega) (by omega) h3 (by omega) (by omega) hx hv
    · rw [go p h4 c1] at hu
      by_cases c2 : q = k + 1
      · subst c2
        rw [gk] at hv
        injection hv with hv
        subst hv
        exact h.all p k u x h1 (by omega) (by omega) (by omega) (by omega) hu hx
      · rw [go q h5 c2] at hv
        exact h.all p q u v h1 h2 h3 c1 c2 hu hv
  · rw [gk0] at hv
    injection hv with hv
    subst hv
    rw [go p (by omega) (by omega)] at hu
    exact h.bef p u y h1 h2 hu hy
  · rw [gk0] at hu
    injection hu with hu
    subst hu
    by_cases c1 : q = k + 1
    · subst c1
      rw [gk] at hv
      injection hv with hv
      subst hv
      exact h.mid k y x (by omega) (by omega) hy hx
    · rw [go q (by omega) c1] at hv
      exact h.aft q y v (by omega) h2 hy hv
  · rw [gk0] at hu
    injection hu with hu
    subst hu
    rw [go q (by omega) (by omega)] at hv
    exact h.mid q y v h1 (by omega) hy hv

theorem DnI.done {E : List α} {a b i k : Nat} (h : DnI key E a b i k) (hk : k ≤ i) : Ris key E a b := fun p q x y h1 h2 h3 hx hy => by
  by_cases c1 : p = k
  · subst c1
    exact h.aft q x y h2 h3 hx hy
  · by_cases c2 : q = k
    · subst c2
      exact h.bef p x y h1 (by omega) hx hy
    · exact h.all p q x y h1 h2 h3 c1 c2 hx hy

end
end Go.Proofs.YtdlmlpddkfnfmaaGreatDoor
