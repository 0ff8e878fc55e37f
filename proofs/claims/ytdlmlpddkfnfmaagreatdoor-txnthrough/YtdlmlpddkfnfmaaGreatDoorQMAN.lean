/-
  What is proved here: what the texts HLackT, HPure, KOrd prove, in one text.
-/
import Derived.Test.YtdlmlpddkfnfmaaGreatDoorQMAL
import Derived.Test.YtdlmlpddkfnfmaaGreatDoorQMAM
import Derived.Test.YtdlmlpddkfnfmaaGreatDoorQMAJ
import Derived.Test.YtdlmlpddkfnfmaaGreatDoorQMAH
namespace Go.Proofs.YtdlmlpddkfnfmaaGreatDoor
open Go.RowKit
set_option linter.unusedVariables false

theorem lt_block {w : World} {b : Nat} {o : Obj} (h : w.heap[b]? = some o) : b < w.heap.size := (Array.getElem?_eq_some_iff.1 h).1

/-- Where the first one stands that is meant; -1: none. -/
def idxF {α : Type} (s : α → Bool) : Nat → List α → Int
  | _, [] => -1
  | i, y :: ys => if s y = true then (i : Int) else idxF s (i + 1) ys

theorem idxF_any {α : Type} (s : α → Bool) : ∀ (Y : List α) (i : Nat), (Y.any s = true ∧ 0 ≤ idxF s i Y) ∨ (Y.any s = false ∧ idxF s i Y = -1)
  | [], i => .inr ⟨rfl, rfl⟩
  | y :: ys, i => by
    unfold idxF
    by_cases h : s y = true
    · exact .inl ⟨by simp [h], by rw [if_pos h]; omega⟩
    · rw [if_neg h]
      rcases idxF_any s ys (i + 1) with ⟨h1, h2⟩ | ⟨h1, h2⟩
      · exact .inl ⟨by simp [h1], h2⟩
      · exact .inr ⟨by simp [h1]; simpa using h, h2⟩

/-- Those of A of which B has none the same. -/
def lackL {α : Type} (s : α → α → Bool) (A B : List α) : List α := A.filter fun x => !(B.any (s x))

theorem lackL_cons {α : Type} (s : α → α → Bool) (x : α) (A B : List α) : lackL s (x :: A) B = if B.any (s x) = true then lackL s A B else x :: lackL s A B := by
  unfold lackL
  rw [List.filter_cons]
  cases h : B.any (s x) <;> simp

def LackEndN (W w' : World) (X : List AN) (e : Ending) : Prop := ∃ v, e = .returned v ∧ ∃ N, w'.ownsRow W.heap.size 49 3 v N.length (rowN N) ∧ Pair2 (NdIn W) N X
def LackEndE (W w' : World) (X : List AE) (e : Ending) : Prop := ∃ v, e = .returned v ∧ ∃ N, w'.ownsRow W.heap.size 53 5 v N.length (rowX N) ∧ Pair2 (EdIn W) N X

/-- What lacks can be read. -/
theorem LackEndN.reads {W w' : World} {X : List AN} {e : Ending} (h : LackEndN W w' X e) (k : Below W.heap.size W w') : ∃ a c, e = .returned (.slice a X.length c) ∧ X.length ≤ c ∧ NsAt w' X a X.length := by
  obtain ⟨v, rfl, N, h1, h2⟩ := h
  obtain ⟨a, c, rfl, hc⟩ := slice_of_row h1
  have e1 := h2.1
  refine ⟨a, c, by rw [← e1], by omega, N, ?_, h2.mono fun p x _ _ hp => hp.below k⟩
  rw [← e1]
  exact row_nodes h1

theorem LackEndE.reads {W w' : World} {X : List AE} {e : Ending} (h : LackEndE W w' X e) (k : Below W.heap.size W w') : ∃ a c, e = .returned (.slice a X.length c) ∧ X.length ≤ c ∧ EsAt w' X a X.length := by
  obtain ⟨v, rfl, N, h1, h2⟩ := h
  obtain ⟨a, c, rfl, hc⟩ := slice_of_row h1
  have e1 := h2.1
  refine ⟨a, c, by rw [← e1], by omega, N, ?_, h2.mono fun p x _ _ hp => hp.below k⟩
  rw [← e1]
  refine row_edges h1 fun p hp => ?_
  obtain ⟨i, hi⟩ := List.getElem?_of_mem hp
  obtain ⟨x, _, hx⟩ := h2.left hi
  exact hx.2.2.2.2.1


set_option maxHeartbeats 4000000 in
set_option maxRecDepth 100000 in
theorem lackN_one (p : Nd) (x : AN) (q : Nd) (y : AN) (fb xb : Nat) (w : World) (hp : NdIn w p x) (hq : NdIn w q y) (hx : x.ok) (hy : y.ok) (hfb : w.cell? ⟨fb, 0, none⟩ = some (.func (.func 49) #[] #[])) (hfl : fb < w.heap.size) (hxb : w.heap[xb]? = some (.cells #[.int .i64 p.id, .slice p.la p.ll p.lc, .slice p.pa p.pl p.pc] 49 (0, 0))) :
    Calls Tryz.prog 91 #[.agg #[.int .i64 q.id, .slice q.la q.ll q.lc, .slice q.pa q.pl q.pc], .pointer (some ⟨fb, 0, none⟩), .pointer (some ⟨xb, 0, none⟩)] w fun e w' => e = .returned (.bool (sameN x y)) ∧ Below w.heap.size w w' := by
  have HC : Hid (∀ W, Below w.heap.size w W → Calls Tryz.prog 49 #[.agg #[.int .i64 p.id, .slice p.la p.ll p.lc, .slice p.pa p.pl p.pc], .agg #[.int .i64 q.id, .slice q.la q.ll q.lc, .slice q.pa q.pl q.pc]] W fun e w' => e = .returned (.bool (sameN x y)) ∧ Below W.heap.size W w') := fun W kW => sameNode_any p x q y W (hp.below kW) (hq.below kW) hx hy
  have hxl : xb < w.heap.size := lt_block hxb
  have x0 := cell_of hxb 0
  have x1 := cell_of hxb 1
  have x2 := cell_of hxb 2
  simp at x0 x1 x2
  clear hp hq hx hy hxb
  have hb0 : Below w.heap.size w (w.alloc (.cells #[.int .i64 q.id, .slice q.la q.ll q.lc, .slice q.pa q.pl q.pc] 49)) := (Below.refl _ _).alloc (Nat.le_refl _) _
  have HB0 := toHid hb0
  clear hb0
  go_enter Tryz.func91, Tryz.ntmps91
  go_wp2_with fail
  refine (HC.out _ HB0.out).mono ?_
  rintro e w1 ⟨rfl, k1⟩
  have hb1 := HB0.out.trans (k1.mono HB0.out.size)
  clear k1
  go_wp2_with fail
  go_ret
  exact ⟨rfl, hb1⟩

set_option maxHeartbeats 4000000 in
set_option maxRecDepth 100000 in
theorem lackN_index (p : Nd) (x : AN) (Y : List AN) (a : Option Addr) (l c : Nat) (fb xb : Nat) (w : World) (hp : NdIn w p x) (hY : NsAt w Y a l) (hx : x.ok) (hy : ∀ y ∈ Y, y.ok) (hfb : w.cell? ⟨fb, 0, none⟩ = some (.func (.func 49) #[] #[])) (hfl : fb < w.heap.size) (hxb : w.heap[xb]? = some (.cells #[.int .i64 p.id, .slice p.la p.ll p.lc, .slice p.pa p.pl p.pc] 49 (0, 0))) :
    Calls Tryz.prog 94 #[.slice a l c, .func (.func 91) #[] #[.pointer (some ⟨fb, 0, none⟩), .pointer (some ⟨xb, 0, none⟩)]] w fun e w' => e = .returned (.int .i64 (idxF (sameN x) 0 Y)) ∧ Below w.heap.size w w' := by
  obtain ⟨R, hR⟩ : ∃ R, R = idxF (sameN x) 0 Y := ⟨_, rfl⟩
  rw [← hR]
  obtain ⟨Q, ⟨hl, hmx, hat⟩, hq⟩ := hY
  have HL := toHid hl
  have HAT := toHid hat
  have HQ := toHid hq
  have HYL : Hid (Y.length = l) := by rw [HL.out]; exact HQ.out.1.symm
  have HONE : Hid (∀ W q y, Below w.heap.size w W → y ∈ Y → NdIn w q y → Calls Tryz.prog 91 #[.agg #[.int .i64 q.id, .slice q.la q.ll q.lc, .slice q.pa q.pl q.pc], .pointer (some ⟨fb, 0, none⟩), .pointer (some ⟨xb, 0, none⟩)] W fun e w' => e = .returned (.bool (sameN x y)) ∧ Below W.heap.size W w') := fun W q y kW hm hqy => lackN_one p x q y fb xb W (hp.below kW) (hqy.below kW) hx (hy y hm) ((kW.cell (p := ⟨fb, 0, none⟩) hfl).trans hfb) (Nat.lt_of_lt_of_le hfl kW.size) ((kW.block xb (lt_block hxb)).trans hxb)
  have H3 := toHid (show R = idxF (sameN x) 0 (Y.drop 0) from hR)
  clear hR hl hat hq hp hx hy hfb hfl hxb
  go_enter Tryz.func94, Tryz.ntmps94
  go_wp2_with fail
  go_loopg [8] l (fun g s8 wr => ∃ i : Nat, i ≤ l ∧ l - i ≤ g ∧ s8 = .int .i64 i ∧ Below w.heap.size w wr ∧ R = idxF (sameN x) i (Y.drop i))
  case atStart => exact ⟨0, Nat.zero_le _, by omega, rfl, Below.refl _ _, H3.out⟩
  case round =>
    clear H3
    obtain ⟨i, hi, hg, rfl, hbw, hfe⟩ := hrel
    have HFE := toHid hfe
    clear hfe
    by_cases hlt : i < l
    · obtain ⟨b, off, ha, hb, hc⟩ := HAT.out (by omega)
      subst ha
      obtain ⟨q, hq, _⟩ := drop_get (L := Q) (i := i) (by have := HL.out; omega)
      obtain ⟨y, hy, hqy⟩ := HQ.out.left hq
      obtain ⟨c0, c1, c2⟩ := hc i q hq
      have qq : ∀ o, wr.cell? ⟨b, o, none⟩ = w.cell? ⟨b, o, none⟩ := fun o => hbw.cell (p := ⟨b, o, none⟩) hb
      have d0 := (qq _).trans c0
      have d1 := (qq _).trans c1
      have d2 := (qq _).trans c2
      have hdy : Y.drop i = y :: Y.drop (i + 1) := by
        obtain ⟨z, hz, hd⟩ := drop_get (L := Y) (i := i) (by have := HYL.out; omega)
        rw [hy] at hz
        injection hz with hz
        rw [hz]
        exact hd
      have H4 := toHid (show R = if sameN x y = true then (i : Int) else idxF (sameN x) (i + 1) (Y.drop (i + 1)) by rw [HFE.out, hdy]; rfl)
      have HC := toHid (HONE.out wr q y hbw (List.mem_of_getElem? hy) hqy)
      clear hc hq hy hqy c0 c1 c2 qq hdy HFE
      have hil : (i : Int) < l := by omega
      go_wp2_with fail
      refine HC.out.mono ?_
      rintro e w2 ⟨rfl, k2⟩
      have hb2 := hbw.trans (k2.mono hbw.size)
      clear k2 d0 d1 d2
      cases hs : sameN x y with
      | true =>
        have H5 := toHid (show R = (i : Int) by rw [H4.out, if_pos hs])
        clear H4 hs
        go_wp2_with fail
        go_ret
        exact ⟨ret_int (by rw [H5.out]), hb2⟩
      | false =>
        have H5 := toHid (show R = idxF (sameN x) (i + 1) (Y.drop (i + 1)) by rw [H4.out, if_neg (by rw [hs]; decide)])
        clear H4 hs
        go_wp2_with fail
        go_roundg (l - (i + 1))
        case measure => omega
        case rel => exact ⟨i + 1, by omega, by omega, by go_num, hb2, H5.out⟩
    · have H3 := toHid (show R = -1 by rw [HFE.out, List.drop_eq_nil_of_le (by have := HYL.out; omega)]; rfl)
      clear HFE
      go_wp2_with fail
      go_ret
      exact ⟨ret_int (by rw [H3.out]), hbw⟩

set_option maxHeartbeats 2000000 in
theorem lackN_has (p : Nd) (x : AN) (Y : List AN) (a : Option Addr) (l c : Nat) (fb xb : Nat) (w : World) (hp : NdIn w p x) (hY : NsAt w Y a l) (hx : x.ok) (hy : ∀ y ∈ Y, y.ok) (hfb : w.cell? ⟨fb, 0, none⟩ = some (.func (.func 49) #[] #[])) (hfl : fb < w.heap.size) (hxb : w.heap[xb]? = some (.cells #[.int .i64 p.id, .slice p.la p.ll p.lc, .slice p.pa p.pl p.pc] 49 (0, 0))) :
    Calls Tryz.prog 52 #[.slice a l c, .func (.func 91) #[] #[.pointer (some ⟨fb, 0, none⟩), .pointer (some ⟨xb, 0, none⟩)]] w fun e w' => e = .returned (.bool (Y.any (sameN x))) ∧ Below w.heap.size w w' := by
  have HC := toHid (lackN_index p x Y a l c fb xb w hp hY hx hy hfb hfl hxb)
  have HI := toHid (idxF_any (sameN x) Y 0)
  clear hp hY hx hy hfb hfl hxb
  obtain ⟨z, hz⟩ : ∃ z, z = idxF (sameN x) 0 Y := ⟨_, rfl⟩
  obtain ⟨R, hR⟩ : ∃ R, R = Y.any (sameN x) := ⟨_, rfl⟩
  rw [← hz] at HC HI
  rw [← hR] at HI ⊢
  clear hz hR
  go_enter Tryz.func52, Tryz.ntmps52
  go_wp2_with fail
  refine HC.out.mono ?_
  rintro e w1 ⟨rfl, k1⟩
  rcases HI.out with ⟨h1, h2⟩ | ⟨h1, h2⟩
  · have h3 : z ≥ 0 := h2
    have H1 := toHid h1
    clear h1 h2
    go_wp2_with fail
    go_ret
    exact ⟨ret_bool (by rw [H1.out]), k1⟩
  · have h3 : ¬ z ≥ 0 := by omega
    have H1 := toHid h1
    clear h1 h2
    go_wp2_with fail
    go_ret
    exact ⟨ret_bool (by rw [H1.out]; exact decide_eq_false (by omega)), k1⟩

set_option maxHeartbeats 4000000 in
set_option maxRecDepth 100000 in
theorem lackN_any (X Y : List AN) (a : Option Addr) (l c : Nat) (a' : Option Addr) (l' c' : Nat) (w : World) (hX : NsAt w X a l) (hY : NsAt w Y a' l') (hl : l ≤ 1000) (hx : ∀ x ∈ X, x.ok) (hy : ∀ y ∈ Y, y.ok) :
    Calls Tryz.prog 48 #[.slice a l c, .slice a' l' c', .func (.func 49) #[] #[]] w fun e w' => LackEndN w w' (lackL sameN X Y) e ∧ Below w.heap.size w w' := by
  obtain ⟨A, hA⟩ : ∃ A, A = lackL sameN X Y := ⟨_, rfl⟩
  rw [← hA]
  obtain ⟨P0, ⟨hl0, hmx, hat⟩, hpair⟩ := hX
  have HAT := toHid hat
  have HL := toHid hl0
  have HPAIR := toHid hpair
  have HXL : Hid (X.length = l) := by rw [HL.out]; exact HPAIR.out.1.symm
  have HOK := toHid hx
  have HYA := toHid hY
  have HYO := toHid hy
  have HA := toHid (show A = [] ++ lackL sameN (X.drop 0) Y from hA)
  clear hat hl0 hpair hx hY hy hA
  obtain ⟨i0, hi0, hiz, his, hib⟩ := info_Node
  have HI0 := toHid hi0
  have HIZ := toHid hiz
  have HIS := toHid his
  have HIB := toHid hib
  clear hi0 hiz his hib
  have b0 : Below w.heap.size w (w.alloc (.cells #[.func (.func 49) #[] #[]] 50)) := (Below.refl _ _).alloc (Nat.le_refl _) _
  have z0 : (w.alloc (.cells #[.func (.func 49) #[] #[]] 50)).heap.size = w.heap.size + 1 := by simp
  have hfx := alloc_new w (.cells #[.func (.func 49) #[] #[]] 50)
  have B0 := toHid b0
  have Z0 := toHid z0
  have HFX := toHid (cell_of hfx 0)
  clear b0 z0 hfx
  go_enter Tryz.func48, Tryz.ntmps48
  go_wp2_with fail
  generalize w.alloc (.cells #[.func (.func 49) #[] #[]] 50) = W0 at B0 Z0 HFX ⊢
  go_loopg [7, 12] l (fun g s7 s12 wr => ∃ (i : Nat) (acc : List Nd) (XA : List AN) (ov : Value), i ≤ l ∧ l - i ≤ g ∧ ov = s7 ∧ s12 = .int .i64 i ∧ acc.length ≤ i ∧ wr.ownsRow (w.heap.size + 1) 49 3 ov acc.length (rowN acc) ∧ Below (w.heap.size + 1) W0 wr ∧ Pair2 (NdIn w) acc XA ∧ A = XA ++ lackL sameN (X.drop i) Y)
  case atStart => exact ⟨0, [], [], .slice none 0 0, Nat.zero_le _, by omega, rfl, rfl, Nat.le_refl _, World.ownsRow_nil _ _ _ _, Below.refl _ _, Pair2.nil, HA.out⟩
  case round =>
    clear HA
    obtain ⟨i, acc, XA, ov, hi, hg, rfl, rfl, hai, hown, hbw, hpr, hfe⟩ := hrel
    have HOWN := toHid hown
    have HPR := toHid hpr
    have HFE := toHid hfe
    clear hown hpr hfe
    have hz : w.heap.size + 1 ≤ wr.heap.size := by have := hbw.size; rw [Z0.out] at this; exact this
    have hw0 : Below w.heap.size w wr := B0.out.trans (hbw.mono (by omega))
    have HFB : Hid (wr.cell? ⟨w.heap.size, 0, none⟩ = some (.func (.func 49) #[] #[])) := (hbw.cell (p := ⟨w.heap.size, 0, none⟩) (Nat.lt_succ_self _)).trans HFX.out
    by_cases hlt : i < l
    · obtain ⟨b, off, ha, hb, hc⟩ := HAT.out (by omega)
      subst ha
      obtain ⟨p, hp, _⟩ := drop_get (L := P0) (i := i) (by have := HL.out; omega)
      obtain ⟨x, hx, hpx⟩ := HPAIR.out.left hp
      obtain ⟨c0, c1, c2⟩ := hc i p hp
      have qq : ∀ o, wr.cell? ⟨b, o, none⟩ = w.cell? ⟨b, o, none⟩ := fun o => hw0.cell (p := ⟨b, o, none⟩) hb
      have d0 := (qq _).trans c0
      have d1 := (qq _).trans c1
      have d2 := (qq _).trans c2
      have hdx : X.drop i = x :: X.drop (i + 1) := by
        obtain ⟨z, hz, hd⟩ := drop_get (L := X) (i := i) (by have := HXL.out; omega)
        rw [hx] at hz
        injection hz with hz
        rw [hz]
        exact hd
      have HXO : Hid x.ok := HOK.out x (List.mem_of_getElem? hx)
      have H4 := toHid (show A = XA ++ (if Y.any (sameN x) = true then lackL sameN (X.drop (i + 1)) Y else x :: lackL sameN (X.drop (i + 1)) Y) by rw [HFE.out, hdx, lackL_cons])
      have HPX := toHid hpx
      clear hc hp hx hpx c0 c1 c2 qq hdx HFE
      have hil : (i : Int) < l := by omega
      have hb1 : Below (w.heap.size + 1) W0 (wr.alloc (.cells #[.int .i64 p.id, .slice p.la p.ll p.lc, .slice p.pa p.pl p.pc] 49)) := hbw.alloc hz _
      have hxb := alloc_new wr (.cells #[.int .i64 p.id, .slice p.la p.ll p.lc, .slice p.pa p.pl p.pc] 49)
      have hz1 : (wr.alloc (.cells #[.int .i64 p.id, .slice p.la p.ll p.lc, .slice p.pa p.pl p.pc] 49)).heap.size = wr.heap.size + 1 := by simp
      have HOWN1 := toHid (HOWN.out.alloc (.cells #[.int .i64 p.id, .slice p.la p.ll p.lc, .slice p.pa p.pl p.pc] 49))
      have hfb1 : (wr.alloc (.cells #[.int .i64 p.id, .slice p.la p.ll p.lc, .slice p.pa p.pl p.pc] 49)).cell? ⟨w.heap.size, 0, none⟩ = some (.func (.func 49) #[] #[]) := (((Below.refl wr.heap.size wr).alloc (Nat.le_refl _) _).cell (p := ⟨w.heap.size, 0, none⟩) (by show w.heap.size < wr.heap.size; omega)).trans HFB.out
      have hw1 : Below w.heap.size w (wr.alloc (.cells #[.int .i64 p.id, .slice p.la p.ll p.lc, .slice p.pa p.pl p.pc] 49)) := hw0.alloc (by omega) _
      have HC := toHid (lackN_has p x Y a' l' c' w.heap.size wr.heap.size (wr.alloc (.cells #[.int .i64 p.id, .slice p.la p.ll p.lc, .slice p.pa p.pl p.pc] 49)) (HPX.out.below hw1) (HYA.out.below hw1) HXO.out HYO.out hfb1 (by rw [hz1]; omega) hxb)
      have HB1 := toHid hb1
      have HXB := toHid hxb
      have HZ1 := toHid hz1
      clear hb1 hxb hz1 hfb1 hw1
      go_wp2_with fail
      refine HC.out.mono ?_
      generalize wr.alloc (.cells #[.int .i64 p.id, .slice p.la p.ll p.lc, .slice p.pa p.pl p.pc] 49) = W1 at HB1 HXB HZ1 HOWN1 HC ⊢
      rintro e w2 ⟨rfl, k2⟩
      have hs2 : wr.heap.size + 1 ≤ w2.heap.size := by have := k2.size; rw [HZ1.out] at this; exact this
      have hxb2 := (k2.block wr.heap.size (by rw [HZ1.out]; omega)).trans HXB.out
      have HB2 := toHid (HB1.out.trans (k2.mono (by rw [HZ1.out]; omega)))
      have OWN2 := toHid (row_keep HOWN1.out (w' := w2) (fun g hg hgl => k2.block g hgl))
      clear k2 d0 d1 d2 HC
      cases hs : Y.any (sameN x) with
      | true =>
        have H5 := toHid (show A = XA ++ lackL sameN (X.drop (i + 1)) Y by rw [H4.out, if_pos hs])
        clear H4 hs hxb2
        go_wp2_with fail
        go_roundg (l - (i + 1))
        case measure => omega
        case rel => exact ⟨i + 1, acc, XA, ov, by omega, by omega, rfl, by go_num, by omega, OWN2.out, HB2.out, HPR.out, H5.out⟩
      | false =>
        have H5 := toHid (show A = (XA ++ [x]) ++ lackL sameN (X.drop (i + 1)) Y by rw [H4.out, if_neg (by rw [hs]; decide), List.append_assoc]; rfl)
        clear H4 hs
        have x0 := cell_of hxb2 0
        have x1 := cell_of hxb2 1
        have x2 := cell_of hxb2 2
        simp at x0 x1 x2
        clear hxb2
        have hxl : wr.heap.size < w2.heap.size := by omega
        have HBy : (acc.length + 1) * 56 ≤ 140737488355328 := by omega
        have HBm : acc.length + 1 ≤ maxLen := by unfold maxLen; omega
        go_wp2_with (at_builtin; refine wpList_append_lies _ rfl _ _ 22 rfl (w.heap.size + 1) 49 i0 _ 3 56 Tryz.underlying22 HI0.out HIZ.out HIS.out HIB.out rfl (by omega) ov acc.length (rowN acc) rfl (OWN2.out.alloc _) ⟨w2.heap.size, 0, none⟩ 1 1 [.int .i64 p.id, .slice p.la p.ll p.lc, .slice p.pa p.pl p.pc] rfl rfl (World.news_of_block (cs := #[.int .i64 p.id, .slice p.la p.ll p.lc, .slice p.pa p.pl p.pc]) (t := 49) (fr := (0, 0)) (alloc_new w2 _)) (by simp [Value.oneCell']) (by omega) HBm HBy (by simp; omega) (w2.heap.size + 1) (by simp) ?_)
        intro gg cap w5 hown5 hgrow hat5 hlt5
        have hb6 : Below (w.heap.size + 1) W0 w5 := (HB2.out.alloc (by omega) _).grown hgrow (by simp; omega) (fun j hj => (by
          rcases HOWN.out.2 with ⟨h0, _⟩ | ⟨g', cap, cur, h0, h1, _⟩
          · rw [h0] at hj; cases hj
          · rw [h0] at hj
            have : g' = j := by simpa [Value.ownBlock] using hj
            subst this
            exact h1))
        have HOWN5 : Hid (w5.ownsRow (w.heap.size + 1) 49 3 (.slice (some ⟨gg, 0, none⟩) (acc.length + 1) cap) (acc.length + 1) (rowN (acc ++ [p]))) := by
          rw [rowN_snoc]
          exact hown5
        clear hown5 hgrow hat5 hlt5 x0 x1 x2
        go_wp2_with fail
        go_roundg (l - (i + 1))
        case measure => omega
        case rel => exact ⟨i + 1, acc ++ [p], XA ++ [x], .slice (some ⟨gg, 0, none⟩) (acc.length + 1) cap, by omega, by omega, rfl, by go_num, (by rw [List.length_append, List.length_singleton]; omega), (by rw [List.length_append, List.length_singleton]; exact HOWN5.out), hb6, HPR.out.snoc HPX.out, H5.out⟩
    · have H3 := toHid (show A = XA by rw [HFE.out, List.drop_eq_nil_of_le (by have := HXL.out; omega)]; simp [lackL])
      clear HFE
      have HFIN : Hid (∃ N, wr.ownsRow w.heap.size 49 3 ov N.length (rowN N) ∧ Pair2 (NdIn w) N A) := ⟨acc, ⟨HOWN.out.1, HOWN.out.2.elim .inl (fun ⟨g, cap, cur, e1, e2, e3⟩ => .inr ⟨g, cap, cur, e1, by omega, e3⟩)⟩, by rw [H3.out]; exact HPR.out⟩
      clear HPR HOWN H3
      go_wp2_with fail
      go_ret
      exact ⟨⟨ov, rfl, HFIN.out⟩, hw0⟩

set_option maxHeartbeats 4000000 in
set_option maxRecDepth 100000 in
theorem lackE_one (p : Ed) (x : AE) (q : Ed) (y : AE) (fb xb : Nat) (w : World) (hp : EdIn w p x) (hq : EdIn w q y) (hx : x.ok) (hy : y.ok) (hfb : w.cell? ⟨fb, 0, none⟩ = some (.func (.func 51) #[] #[])) (hfl : fb < w.heap.size) (hxb : w.heap[xb]? = some (.cells #[.int .i64 p.id, .int .i64 p.frm, .int .i64 p.dst, .string p.typ, .slice p.pa p.pl p.pc] 53 (0, 0))) :
    Calls Tryz.prog 93 #[.agg #[.int .i64 q.id, .int .i64 q.frm, .int .i64 q.dst, .string q.typ, .slice q.pa q.pl q.pc], .pointer (some ⟨fb, 0, none⟩), .pointer (some ⟨xb, 0, none⟩)] w fun e w' => e = .returned (.bool (sameE x y)) ∧ Below w.heap.size w w' := by
  have HC : Hid (∀ W, Below w.heap.size w W → Calls Tryz.prog 51 #[.agg #[.int .i64 p.id, .int .i64 p.frm, .int .i64 p.dst, .string p.typ, .slice p.pa p.pl p.pc], .agg #[.int .i64 q.id, .int .i64 q.frm, .int .i64 q.dst, .string q.typ, .slice q.pa q.pl q.pc]] W fun e w' => e = .returned (.bool (sameE x y)) ∧ Below W.heap.size W w') := fun W kW => sameEdge_any p x q y W (hp.below kW) (hq.below kW) hx hy
  have hxl : xb < w.heap.size := lt_block hxb
  have x0 := cell_of hxb 0
  have x1 := cell_of hxb 1
  have x2 := cell_of hxb 2
  have x3 := cell_of hxb 3
  have x4 := cell_of hxb 4
  simp at x0 x1 x2 x3 x4
  clear hp hq hx hy hxb
  have hb0 : Below w.heap.size w (w.alloc (.cells #[.int .i64 q.id, .int .i64 q.frm, .int .i64 q.dst, .string q.typ, .slice q.pa q.pl q.pc] 53)) := (Below.refl _ _).alloc (Nat.le_refl _) _
  have HB0 := toHid hb0
  clear hb0
  go_enter Tryz.func93, Tryz.ntmps93
  go_wp2_with fail
  refine (HC.out _ HB0.out).mono ?_
  rintro e w1 ⟨rfl, k1⟩
  have hb1 := HB0.out.trans (k1.mono HB0.out.size)
  clear k1
  go_wp2_with fail
  go_ret
  exact ⟨rfl, hb1⟩

set_option maxHeartbeats 4000000 in
set_option maxRecDepth 100000 in
theorem lackE_index (p : Ed) (x : AE) (Y : List AE) (a : Option Addr) (l c : Nat) (fb xb : Nat) (w : World) (hp : EdIn w p x) (hY : EsAt w Y a l) (hx : x.ok) (hy : ∀ y ∈ Y, y.ok) (hfb : w.cell? ⟨fb, 0, none⟩ = some (.func (.func 51) #[] #[])) (hfl : fb < w.heap.size) (hxb : w.heap[xb]? = some (.cells #[.int .i64 p.id, .int .i64 p.frm, .int .i64 p.dst, .string p.typ, .slice p.pa p.pl p.pc] 53 (0, 0))) :
    Calls Tryz.prog 95 #[.slice a l c, .func (.func 93) #[] #[.pointer (some ⟨fb, 0, none⟩), .pointer (some ⟨xb, 0, none⟩)]] w fun e w' => e = .returned (.int .i64 (idxF (sameE x) 0 Y)) ∧ Below w.heap.size w w' := by
  obtain ⟨R, hR⟩ : ∃ R, R = idxF (sameE x) 0 Y := ⟨_, rfl⟩
  rw [← hR]
  obtain ⟨Q, ⟨hl, hmx, hat⟩, hq⟩ := hY
  have HL := toHid hl
  have HAT := toHid hat
  have HQ := toHid hq
  have HYL : Hid (Y.length = l) := by rw [HL.out]; exact HQ.out.1.symm
  have HONE : Hid (∀ W q y, Below w.heap.size w W → y ∈ Y → EdIn w q y → Calls Tryz.prog 93 #[.agg #[.int .i64 q.id, .int .i64 q.frm, .int .i64 q.dst, .string q.typ, .slice q.pa q.pl q.pc], .pointer (some ⟨fb, 0, none⟩), .pointer (some ⟨xb, 0, none⟩)] W fun e w' => e = .returned (.bool (sameE x y)) ∧ Below W.heap.size W w') := fun W q y kW hm hqy => lackE_one p x q y fb xb W (hp.below kW) (hqy.below kW) hx (hy y hm) ((kW.cell (p := ⟨fb, 0, none⟩) hfl).trans hfb) (Nat.lt_of_lt_of_le hfl kW.size) ((kW.block xb (lt_block hxb)).trans hxb)
  have H3 := toHid (show R = idxF (sameE x) 0 (Y.drop 0) from hR)
  clear hR hl hat hq hp hx hy hfb hfl hxb
  go_enter Tryz.func95, Tryz.ntmps95
  go_wp2_with fail
  go_loopg [8] l (fun g s8 wr => ∃ i : Nat, i ≤ l ∧ l - i ≤ g ∧ s8 = .int .i64 i ∧ Below w.heap.size w wr ∧ R = idxF (sameE x) i (Y.drop i))
  case atStart => exact ⟨0, Nat.zero_le _, by omega, rfl, Below.refl _ _, H3.out⟩
  case round =>
    clear H3
    obtain ⟨i, hi, hg, rfl, hbw, hfe⟩ := hrel
    have HFE := toHid hfe
    clear hfe
    by_cases hlt : i < l
    · obtain ⟨b, off, ha, hb, hc⟩ := HAT.out (by omega)
      subst ha
      obtain ⟨q, hq, _⟩ := drop_get (L := Q) (i := i) (by have := HL.out; omega)
      obtain ⟨y, hy, hqy⟩ := HQ.out.left hq
      obtain ⟨hsz, c0, c1, c2, c3, c4⟩ := hc i q hq
      have qq : ∀ o, wr.cell? ⟨b, o, none⟩ = w.cell? ⟨b, o, none⟩ := fun o => hbw.cell (p := ⟨b, o, none⟩) hb
      have d0 := (qq _).trans c0
      have d1 := (qq _).trans c1
      have d2 := (qq _).trans c2
      have d3 := (qq _).trans c3
      have d4 := (qq _).trans c4
      have hdy : Y.drop i = y :: Y.drop (i + 1) := by
        obtain ⟨z, hz, hd⟩ := drop_get (L := Y) (i := i) (by have := HYL.out; omega)
        rw [hy] at hz
        injection hz with hz
        rw [hz]
        exact hd
      have H4 := toHid (show R = if sameE x y = true then (i : Int) else idxF (sameE x) (i + 1) (Y.drop (i + 1)) by rw [HFE.out, hdy]; rfl)
      have HC := toHid (HONE.out wr q y hbw (List.mem_of_getElem? hy) hqy)
      clear hc hq hy hqy c0 c1 c2 c3 c4 qq hdy HFE
      have hil : (i : Int) < l := by omega
      go_wp2_with fail
      refine HC.out.mono ?_
      rintro e w2 ⟨rfl, k2⟩
      have hb2 := hbw.trans (k2.mono hbw.size)
      clear k2 d0 d1 d2 d3 d4
      cases hs : sameE x y with
      | true =>
        have H5 := toHid (show R = (i : Int) by rw [H4.out, if_pos hs])
        clear H4 hs
        go_wp2_with fail
        go_ret
        exact ⟨ret_int (by rw [H5.out]), hb2⟩
      | false =>
        have H5 := toHid (show R = idxF (sameE x) (i + 1) (Y.drop (i + 1)) by rw [H4.out, if_neg (by rw [hs]; decide)])
        clear H4 hs
        go_wp2_with fail
        go_roundg (l - (i + 1))
        case measure => omega
        case rel => exact ⟨i + 1, by omega, by omega, by go_num, hb2, H5.out⟩
    · have H3 := toHid (show R = -1 by rw [HFE.out, List.drop_eq_nil_of_le (by have := HYL.out; omega)]; rfl)
      clear HFE
      go_wp2_with fail
      go_ret
      exact ⟨ret_int (by rw [H3.out]), hbw⟩

set_option maxHeartbeats 2000000 in
theorem lackE_has (p : Ed) (x : AE) (Y : List AE) (a : Option Addr) (l c : Nat) (fb xb : Nat) (w : World) (hp : EdIn w p x) (hY : EsAt w Y a l) (hx : x.ok) (hy : ∀ y ∈ Y, y.ok) (hfb : w.cell? ⟨fb, 0, none⟩ = some (.func (.func 51) #[] #[])) (hfl : fb < w.heap.size) (hxb : w.heap[xb]? = some (.cells #[.int .i64 p.id, .int .i64 p.frm, .int .i64 p.dst, .string p.typ, .slice p.pa p.pl p.pc] 53 (0, 0))) :
    Calls Tryz.prog 54 #[.slice a l c, .func (.func 93) #[] #[.pointer (some ⟨fb, 0, none⟩), .pointer (some ⟨xb, 0, none⟩)]] w fun e w' => e = .returned (.bool (Y.any (sameE x))) ∧ Below w.heap.size w w' := by
  have HC := toHid (lackE_index p x Y a l c fb xb w hp hY hx hy hfb hfl hxb)
  have HI := toHid (idxF_any (sameE x) Y 0)
  clear hp hY hx hy hfb hfl hxb
  obtain ⟨z, hz⟩ : ∃ z, z = idxF (sameE x) 0 Y := ⟨_, rfl⟩
  obtain ⟨R, hR⟩ : ∃ R, R = Y.any (sameE x) := ⟨_, rfl⟩
  rw [← hz] at HC HI
  rw [← hR] at HI ⊢
  clear hz hR
  go_enter Tryz.func54, Tryz.ntmps54
  go_wp2_with fail
  refine HC.out.mono ?_
  rintro e w1 ⟨rfl, k1⟩
  rcases HI.out with ⟨h1, h2⟩ | ⟨h1, h2⟩
  · have h3 : z ≥ 0 := h2
    have H1 := toHid h1
    clear h1 h2
    go_wp2_with fail
    go_ret
    exact ⟨ret_bool (by rw [H1.out]), k1⟩
  · have h3 : ¬ z ≥ 0 := by omega
    have H1 := toHid h1
    clear h1 h2
    go_wp2_with fail
    go_ret
    exact ⟨ret_bool (by rw [H1.out]; exact decide_eq_false (by omega)), k1⟩

set_option maxHeartbeats 4000000 in
set_option maxRecDepth 100000 in
theorem lackE_any (X Y : List AE) (a : Option Addr) (l c : Nat) (a' : Option Addr) (l' c' : Nat) (w : World) (hX : EsAt w X a l) (hY : EsAt w Y a' l') (hl : l ≤ 1000) (hx : ∀ x ∈ X, x.ok) (hy : ∀ y ∈ Y, y.ok) :
    Calls Tryz.prog 50 #[.slice a l c, .slice a' l' c', .func (.func 51) #[] #[]] w fun e w' => LackEndE w w' (lackL sameE X Y) e ∧ Below w.heap.size w w' := by
  obtain ⟨A, hA⟩ : ∃ A, A = lackL sameE X Y := ⟨_, rfl⟩
  rw [← hA]
  obtain ⟨P0, ⟨hl0, hmx, hat⟩, hpair⟩ := hX
  have HAT := toHid hat
  have HL := toHid hl0
  have HPAIR := toHid hpair
  have HXL : Hid (X.length = l) := by rw [HL.out]; exact HPAIR.out.1.symm
  have HOK := toHid hx
  have HYA := toHid hY
  have HYO := toHid hy
  have HA := toHid (show A = [] ++ lackL sameE (X.drop 0) Y from hA)
  clear hat hl0 hpair hx hY hy hA
  obtain ⟨i0, hi0, hiz, his, hib⟩ := info_Edge
  have HI0 := toHid hi0
  have HIZ := toHid hiz
  have HIS := toHid his
  have HIB := toHid hib
  clear hi0 hiz his hib
  have b0 : Below w.heap.size w (w.alloc (.cells #[.func (.func 51) #[] #[]] 54)) := (Below.refl _ _).alloc (Nat.le_refl _) _
  have z0 : (w.alloc (.cells #[.func (.func 51) #[] #[]] 54)).heap.size = w.heap.size + 1 := by simp
  have hfx := alloc_new w (.cells #[.func (.func 51) #[] #[]] 54)
  have B0 := toHid b0
  have Z0 := toHid z0
  have HFX := toHid (cell_of hfx 0)
  clear b0 z0 hfx
  go_enter Tryz.func50, Tryz.ntmps50
  go_wp2_with fail
  generalize w.alloc (.cells #[.func (.func 51) #[] #[]] 54) = W0 at B0 Z0 HFX ⊢
  go_loopg [7, 12] l (fun g s7 s12 wr => ∃ (i : Nat) (acc : List Ed) (XA : List AE) (ov : Value), i ≤ l ∧ l - i ≤ g ∧ ov = s7 ∧ s12 = .int .i64 i ∧ acc.length ≤ i ∧ wr.ownsRow (w.heap.size + 1) 53 5 ov acc.length (rowX acc) ∧ Below (w.heap.size + 1) W0 wr ∧ Pair2 (EdIn w) acc XA ∧ A = XA ++ lackL sameE (X.drop i) Y)
  case atStart => exact ⟨0, [], [], .slice none 0 0, Nat.zero_le _, by omega, rfl, rfl, Nat.le_refl _, World.ownsRow_nil _ _ _ _, Below.refl _ _, Pair2.nil, HA.out⟩
  case round =>
    clear HA
    obtain ⟨i, acc, XA, ov, hi, hg, rfl, rfl, hai, hown, hbw, hpr, hfe⟩ := hrel
    have HOWN := toHid hown
    have HPR := toHid hpr
    have HFE := toHid hfe
    clear hown hpr hfe
    have hz : w.heap.size + 1 ≤ wr.heap.size := by have := hbw.size; rw [Z0.out] at this; exact this
    have hw0 : Below w.heap.size w wr := B0.out.trans (hbw.mono (by omega))
    have HFB : Hid (wr.cell? ⟨w.heap.size, 0, none⟩ = some (.func (.func 51) #[] #[])) := (hbw.cell (p := ⟨w.heap.size, 0, none⟩) (Nat.lt_succ_self _)).trans HFX.out
    by_cases hlt : i < l
    · obtain ⟨b, off, ha, hb, hc⟩ := HAT.out (by omega)
      subst ha
      obtain ⟨p, hp, _⟩ := drop_get (L := P0) (i := i) (by have := HL.out; omega)
      obtain ⟨x, hx, hpx⟩ := HPAIR.out.left hp
      obtain ⟨hsz, c0, c1, c2, c3, c4⟩ := hc i p hp
      have qq : ∀ o, wr.cell? ⟨b, o, none⟩ = w.cell? ⟨b, o, none⟩ := fun o => hw0.cell (p := ⟨b, o, none⟩) hb
      have d0 := (qq _).trans c0
      have d1 := (qq _).trans c1
      have d2 := (qq _).trans c2
      have d3 := (qq _).trans c3
      have d4 := (qq _).trans c4
      have hdx : X.drop i = x :: X.drop (i + 1) := by
        obtain ⟨z, hz, hd⟩ := drop_get (L := X) (i := i) (by have := HXL.out; omega)
        rw [hx] at hz
        injection hz with hz
        rw [hz]
        exact hd
      have HXO : Hid x.ok := HOK.out x (List.mem_of_getElem? hx)
      have H4 := toHid (show A = XA ++ (if Y.any (sameE x) = true then lackL sameE (X.drop (i + 1)) Y else x :: lackL sameE (X.drop (i + 1)) Y) by rw [HFE.out, hdx, lackL_cons])
      have HPX := toHid hpx
      clear hc hp hx hpx c0 c1 c2 c3 c4 qq hdx HFE
      have hil : (i : Int) < l := by omega
      have hb1 : Below (w.heap.size + 1) W0 (wr.alloc (.cells #[.int .i64 p.id, .int .i64 p.frm, .int .i64 p.dst, .string p.typ, .slice p.pa p.pl p.pc] 53)) := hbw.alloc hz _
      have hxb := alloc_new wr (.cells #[.int .i64 p.id, .int .i64 p.frm, .int .i64 p.dst, .string p.typ, .slice p.pa p.pl p.pc] 53)
      have hz1 : (wr.alloc (.cells #[.int .i64 p.id, .int .i64 p.frm, .int .i64 p.dst, .string p.typ, .slice p.pa p.pl p.pc] 53)).heap.size = wr.heap.size + 1 := by simp
      have HOWN1 := toHid (HOWN.out.alloc (.cells #[.int .i64 p.id, .int .i64 p.frm, .int .i64 p.dst, .string p.typ, .slice p.pa p.pl p.pc] 53))
      have hfb1 : (wr.alloc (.cells #[.int .i64 p.id, .int .i64 p.frm, .int .i64 p.dst, .string p.typ, .slice p.pa p.pl p.pc] 53)).cell? ⟨w.heap.size, 0, none⟩ = some (.func (.func 51) #[] #[]) := (((Below.refl wr.heap.size wr).alloc (Nat.le_refl _) _).cell (p := ⟨w.heap.size, 0, none⟩) (by show w.heap.size < wr.heap.size; omega)).trans HFB.out
      have hw1 : Below w.heap.size w (wr.alloc (.cells #[.int .i64 p.id, .int .i64 p.frm, .int .i64 p.dst, .string p.typ, .slice p.pa p.pl p.pc] 53)) := hw0.alloc (by omega) _
      have HC := toHid (lackE_has p x Y a' l' c' w.heap.size wr.heap.size (wr.alloc (.cells #[.int .i64 p.id, .int .i64 p.frm, .int .i64 p.dst, .string p.typ, .slice p.pa p.pl p.pc] 53)) (HPX.out.below hw1) (HYA.out.below hw1) HXO.out HYO.out hfb1 (by rw [hz1]; omega) hxb)
      have HB1 := toHid hb1
      have HXB := toHid hxb
      have HZ1 := toHid hz1
      clear hb1 hxb hz1 hfb1 hw1
      go_wp2_with fail
      refine HC.out.mono ?_
      generalize wr.alloc (.cells #[.int .i64 p.id, .int .i64 p.frm, .int .i64 p.dst, .string p.typ, .slice p.pa p.pl p.pc] 53) = W1 at HB1 HXB HZ1 HOWN1 HC ⊢
      rintro e w2 ⟨rfl, k2⟩
      have hs2 : wr.heap.size + 1 ≤ w2.heap.size := by have := k2.size; rw [HZ1.out] at this; exact this
      have hxb2 := (k2.block wr.heap.size (by rw [HZ1.out]; omega)).trans HXB.out
      have HB2 := toHid (HB1.out.trans (k2.mono (by rw [HZ1.out]; omega)))
      have OWN2 := toHid (row_keep HOWN1.out (w' := w2) (fun g hg hgl => k2.block g hgl))
      clear k2 d0 d1 d2 d3 d4 HC
      cases hs : Y.any (sameE x) with
      | true =>
        have H5 := toHid (show A = XA ++ lackL sameE (X.drop (i + 1)) Y by rw [H4.out, if_pos hs])
        clear H4 hs hxb2
        go_wp2_with fail
        go_roundg (l - (i + 1))
        case measure => omega
        case rel => exact ⟨i + 1, acc, XA, ov, by omega, by omega, rfl, by go_num, by omega, OWN2.out, HB2.out, HPR.out, H5.out⟩
      | false =>
        have H5 := toHid (show A = (XA ++ [x]) ++ lackL sameE (X.drop (i + 1)) Y by rw [H4.out, if_neg (by rw [hs]; decide), List.append_assoc]; rfl)
        clear H4 hs
        have x0 := cell_of hxb2 0
        have x1 := cell_of hxb2 1
        have x2 := cell_of hxb2 2
        have x3 := cell_of hxb2 3
        have x4 := cell_of hxb2 4
        simp at x0 x1 x2 x3 x4
        clear hxb2
        have hxl : wr.heap.size < w2.heap.size := by omega
        have HBy : (acc.length + 1) * 64 ≤ 140737488355328 := by omega
        have HBm : acc.length + 1 ≤ maxLen := by unfold maxLen; omega
        go_wp2_with (at_builtin; refine wpList_append_lies _ rfl _ _ 23 rfl (w.heap.size + 1) 53 i0 _ 5 64 Tryz.underlying23 HI0.out HIZ.out HIS.out HIB.out rfl (by omega) ov acc.length (rowX acc) rfl (OWN2.out.alloc _) ⟨w2.heap.size, 0, none⟩ 1 1 [.int .i64 p.id, .int .i64 p.frm, .int .i64 p.dst, .string p.typ, .slice p.pa p.pl p.pc] rfl rfl (World.news_of_block (cs := #[.int .i64 p.id, .int .i64 p.frm, .int .i64 p.dst, .string p.typ, .slice p.pa p.pl p.pc]) (t := 53) (fr := (0, 0)) (alloc_new w2 _)) (by simp [Value.oneCell']) (by omega) HBm HBy (by simp; omega) (w2.heap.size + 1) (by simp) ?_)
        intro gg cap w5 hown5 hgrow hat5 hlt5
        have hb6 : Below (w.heap.size + 1) W0 w5 := (HB2.out.alloc (by omega) _).grown hgrow (by simp; omega) (fun j hj => (by
          rcases HOWN.out.2 with ⟨h0, _⟩ | ⟨g', cap, cur, h0, h1, _⟩
          · rw [h0] at hj; cases hj
          · rw [h0] at hj
            have : g' = j := by simpa [Value.ownBlock] using hj
            subst this
            exact h1))
        have HOWN5 : Hid (w5.ownsRow (w.heap.size + 1) 53 5 (.slice (some ⟨gg, 0, none⟩) (acc.length + 1) cap) (acc.length + 1) (rowX (acc ++ [p]))) := by
          rw [rowX_snoc]
          exact hown5
        clear hown5 hgrow hat5 hlt5 x0 x1 x2 x3 x4
        go_wp2_with fail
        go_roundg (l - (i + 1))
        case measure => omega
        case rel => exact ⟨i + 1, acc ++ [p], XA ++ [x], .slice (some ⟨gg, 0, none⟩) (acc.length + 1) cap, by omega, by omega, rfl, by go_num, (by rw [List.length_append, List.length_singleton]; omega), (by rw [List.length_append, List.length_singleton]; exact HOWN5.out), hb6, HPR.out.snoc HPX.out, H5.out⟩
    · have H3 := toHid (show A = XA by rw [HFE.out, List.drop_eq_nil_of_le (by have := HXL.out; omega)]; simp [lackL])
      clear HFE
      have HFIN : Hid (∃ N, wr.ownsRow w.heap.size 53 5 ov N.length (rowX N) ∧ Pair2 (EdIn w) N A) := ⟨acc, ⟨HOWN.out.1, HOWN.out.2.elim .inl (fun ⟨g, cap, cur, e1, e2, e3⟩ => .inr ⟨g, cap, cur, e1, by omega, e3⟩)⟩, by rw [H3.out]; exact HPR.out⟩
      clear HPR HOWN H3
      go_wp2_with fail
      go_ret
      exact ⟨⟨ov, rfl, HFIN.out⟩, hw0⟩

theorem eqB_self {α : Type} (s : α → α → Bool) (h : ∀ x, s x x = true) : ∀ X : List α, eqB s X X = true
  | [] => rfl
  | x :: X => by
    show (s x x && eqB s X X) = true
    rw [h x, eqB_self s h X]
    rfl

theorem sameP_self (x : AP) : sameP x x = true := by
  unfold sameP
  rw [ordT_self]
  simp

theorem sameN_self (x : AN) : sameN x x = true := by
  unfold sameN eqS
  rw [eqB_self _ (fun y => by simp), eqB_self _ sameP_self]
  simp

theorem sameE_self (x : AE) : sameE x x = true := by
  unfold sameE
  rw [eqB_self _ sameP_self]
  simp

theorem lackL_self {α : Type} (s : α → α → Bool) (h : ∀ x, s x x = true) (X : List α) : lackL s X X = [] := by
  unfold lackL
  rw [List.filter_eq_nil_iff]
  intro x hx
  have : X.any (s x) = true := List.any_eq_true.2 ⟨x, hx, h x⟩
  simp [this]

/-- Three answers (of x and y, y and z, x and z) go through. -/
def TR (x y z : Int) : Prop := (x ≤ 0 → y ≤ 0 → z ≤ 0) ∧ (x < 0 → y ≤ 0 → z < 0) ∧ (x ≤ 0 → y < 0 → z < 0) ∧ (x = 0 → y = 0 → z = 0)

theorem lex_TR {p1 p2 p3 q1 q2 q3 : Int} (h : TR p1 p2 p3) (k : TR q1 q2 q3) : TR (lex p1 q1) (lex p2 q2) (lex p3 q3) := by
  obtain ⟨a1, a2, a3, a4⟩ := h
  obtain ⟨b1, b2, b3, b4⟩ := k
  unfold lex
  refine ⟨?_, ?_, ?_, ?_⟩ <;> intro x y <;> split at x <;> split at y <;> split <;> omega

theorem lex_neg (p q : Int) : lex (-p) (-q) = - lex p q := by
  unfold lex
  by_cases h : p = 0
  · simp [h]
  · have h2 : ¬ -p = 0 := by omega
    simp [h, h2]

theorem cmpI_neg (a b : Int) : cmpI b a = - cmpI a b := by
  unfold cmpI
  repeat' split <;> first | rfl | omega

theorem cmpI_TR (a b c : Int) : TR (cmpI a b) (cmpI b c) (cmpI a c) := by
  unfold TR cmpI
  repeat' split <;> first | omega | skip

theorem cmpB_neg : ∀ x y : List UInt8, cmpB y x = - cmpB x y
  | [], [] => rfl
  | [], _ :: _ => rfl
  | _ :: _, [] => rfl
  | a :: x, b :: y => by unfold cmpB; rw [cmpI_neg, cmpB_neg x y, lex_neg]

theorem cmpB_TR : ∀ x y z : List UInt8, TR (cmpB x y) (cmpB y z) (cmpB x z)
  | [], [], [] => by simp [cmpB, TR]
  | [], [], _ :: _ => by simp [cmpB, TR]
  | [], _ :: _, [] => by simp [cmpB, TR]
  | [], _ :: _, _ :: _ => by simp [cmpB, TR]
  | _ :: _, [], [] => by simp [cmpB, TR]
  | _ :: _, [], _ :: _ => by simp [cmpB, TR]
  | _ :: _, _ :: _, [] => by simp [cmpB, TR]
  | a :: x, b :: y, c :: z => by unfold cmpB; exact lex_TR (cmpI_TR _ _ _) (cmpB_TR x y z)

theorem bytes_ext {a b : ByteArray} (h : a.toList = b.toList) : a = b := by
  rw [ByteArray.toList_eq, ByteArray.toList_eq] at h
  obtain ⟨d⟩ := a
  obtain ⟨d'⟩ := b
  have : d = d' := Array.toList_inj.1 h
  rw [this]

theorem cmpS_neg (a b : ByteArray) : cmpS b a = - cmpS a b := by rw [cmpS_eq, cmpS_eq]; exact cmpB_neg _ _

theorem cmpS_zero {a b : ByteArray} (h : cmpS a b = 0) : a = b := by
  rw [cmpS_eq] at h
  exact bytes_ext (cmpB_zero h)

theorem cmpS_self (a : ByteArray) : cmpS a a = 0 := by rw [cmpS_eq]; exact cmpB_self _

theorem cmpS_trans {a b c : ByteArray} (h : cmpS a b < 0) (k : cmpS b c ≤ 0) : cmpS a c < 0 := by
  rw [cmpS_eq] at h k ⊢
  exact (cmpB_TR _ _ _).2.1 h k

theorem cmpS_trans2 {a b c : ByteArray} (h : cmpS a b ≤ 0) (k : cmpS b c < 0) : cmpS a c < 0 := by
  rw [cmpS_eq] at h k ⊢
  exact (cmpB_TR _ _ _).2.2.1 h k

theorem cmpS_three (a b : ByteArray) : cmpS a b = -1 ∨ cmpS a b = 0 ∨ cmpS a b = 1 := by
  unfold cmpS
  split
  · exact .inl rfl
  · split
    · exact .inr (.inl rfl)
    · exact .inr (.inr rfl)

/-- Names that rise. -/
def RiseS (ns : List ByteArray) : Prop := ∀ (i j : Nat) (x y : ByteArray), i < j → ns[i]? = some x → ns[j]? = some y → cmpS x y < 0

/-- Where a name stands, or where it would. -/
def SpotS (ns : List ByteArray) (t : ByteArray) (i : Nat) (f : Bool) : Prop := i ≤ ns.length ∧ (∀ k x, k < i → ns[k]? = some x → cmpS x t < 0) ∧ (∀ k x, i ≤ k → ns[k]? = some x → cmpS t x ≤ 0) ∧ (f = true → ns[i]? = some t) ∧ (f = false → t ∉ ns)

def FoundS (ns : List ByteArray) (t : ByteArray) (e : Ending) : Prop := ∃ (i : Nat) (f : Bool), e = .returned (.tuple #[.int .i64 i, .bool f]) ∧ SpotS ns t i f
end Go.Proofs.YtdlmlpddkfnfmaaGreatDoor
