/-
  What is proved here: what the texts HSameN, HEachN prove, in one text.
-/
import Derived.Test.YthikpmngcbgbfaaDoorQGAJ
import Derived.Test.YthikpmngcbgbfaaDoorQGAK
namespace Go.Proofs.YthikpmngcbgbfaaDoor
open Go.RowKit
set_option linter.unusedVariables false

def eqS (L M : List ByteArray) : Bool := eqB (fun x y => x.toList == y.toList) L M
def sameN (x y : AN) : Bool := (x.id == y.id) && (eqS x.labs y.labs && eqB sameP x.props y.props)
def sameE (x y : AE) : Bool := (x.id == y.id) && ((x.frm == y.frm) && ((x.dst == y.dst) && ((x.typ.toList == y.typ.toList) && eqB sameP x.props y.props)))

set_option maxHeartbeats 4000000 in
set_option maxRecDepth 100000 in
theorem equal_strs (L M : List ByteArray) (a : Option Addr) (l c : Nat) (a' : Option Addr) (l' c' : Nat) (w : World) (h : StrsAt w L a l) (h' : StrsAt w M a' l') :
    Calls Tryd.prog 51 #[.slice a l c, .slice a' l' c'] w fun e w' => e = .returned (.bool (eqS L M)) ∧ Below w.heap.size w w' := by
  obtain ⟨R, hR⟩ : ∃ R, R = eqS L M := ⟨_, rfl⟩
  rw [← hR]
  have HR := toHid hR
  obtain ⟨hl, hmx, hat⟩ := h
  obtain ⟨hl', hmx', hat'⟩ := h'
  have HL := toHid hl
  have HL' := toHid hl'
  have HAT := toHid hat
  have HAT' := toHid hat'
  clear hR hl hl' hat hat'
  by_cases hne : l = l'
  · have H3 := toHid (show R = eqS (L.drop 0) (M.drop 0) from HR.out)
    clear HR
    subst hne
    go_enter Tryd.func51, Tryd.ntmps51
    go_wp2_with fail
    go_loopg [13] l (fun g s13 wr => ∃ i : Nat, i ≤ l ∧ l - i ≤ g ∧ s13 = .int .i64 i ∧ Below w.heap.size w wr ∧ R = eqS (L.drop i) (M.drop i))
    case atStart => exact ⟨0, Nat.zero_le _, by omega, rfl, Below.refl _ _, H3.out⟩
    case round =>
      clear H3
      obtain ⟨i, hi, hg, rfl, hbw, hfe⟩ := hrel
      have HF := toHid hfe
      clear hfe
      by_cases hlt : i < l
      · obtain ⟨b, off, ha, hb, hc⟩ := HAT.out (by omega)
        obtain ⟨b', off', ha', hb', hc'⟩ := HAT'.out (by omega)
        subst ha ha'
        obtain ⟨x, hx, hd⟩ := drop_get (L := L) (i := i) (by have := HL.out; omega)
        obtain ⟨x', hx', hd'⟩ := drop_get (L := M) (i := i) (by have := HL'.out; omega)
        have d0 := (hbw.cell (p := ⟨b, off + i, none⟩) hb).trans (hc i x hx).2
        have d1 := (hbw.cell (p := ⟨b', off' + i, none⟩) hb').trans (hc' i x' hx').2
        have H4 := toHid (show R = ((x.toList == x'.toList) && eqS (L.drop (i + 1)) (M.drop (i + 1))) by rw [HF.out, hd, hd']; rfl)
        clear hc hc' hd hd' hx hx' HF
        cases hxx : (x.toList == x'.toList) with
        | true =>
          have hq : (x.toList != x'.toList) = false := by simp [bne, hxx]
          have H3 := toHid (show R = eqS (L.drop (i + 1)) (M.drop (i + 1)) by rw [H4.out, hxx]; rfl)
          clear H4
          go_wp2_with fail
          go_quiet (fail)
          go_wp2_with fail
          go_roundg (l - (i + 1))
          case measure => omega
          case rel => exact ⟨i + 1, by omega, by omega, by go_num, hbw.trans ((below_drewN _ _).mono hbw.size), H3.out⟩
        | false =>
          have hq : (x.toList != x'.toList) = true := by simp [bne, hxx]
          have H3 := toHid (show R = false by rw [H4.out, hxx]; rfl)
          clear H4
          go_wp2_with fail
          go_quiet (fail)
          go_wp2_with fail
          go_ret
          exact ⟨ret_bool (by rw [H3.out]), hbw.trans ((below_drewN _ _).mono hbw.size)⟩
      · have H3 := toHid (show R = true by rw [HF.out, List.drop_eq_nil_of_le (by have := HL.out; omega), List.drop_eq_nil_of_le (by have := HL'.out; omega)]; rfl)
        clear HF
        go_wp2_with fail
        go_ret
        exact ⟨ret_bool (by rw [H3.out]), hbw⟩
  · have hne' : ((l : Int) != (l' : Int)) = true := by simp; omega
    have H3 := toHid (show R = false by rw [HR.out]; exact eqB_length _ _ _ (fun h => hne (by have := HL.out; have := HL'.out; omega)))
    clear HR hne
    go_enter Tryd.func51, Tryd.ntmps51
    go_wp2_with fail
    go_ret
    exact ⟨ret_bool (by rw [H3.out]), Below.refl _ _⟩

set_option maxHeartbeats 2000000 in
theorem sameProps_ref (X Y : List AP) (a : Option Addr) (l c : Nat) (a' : Option Addr) (l' c' : Nat) (w : World) (h : PsAt w X a l) (h' : PsAt w Y a' l') (hX : ∀ x ∈ X, x.ok) (hY : ∀ x ∈ Y, x.ok) :
    Calls Tryd.prog 52 #[.slice a l c, .slice a' l' c'] w fun e w' => e = .returned (.bool (eqB sameP X Y)) ∧ Below w.heap.size w w' := by
  have HC := toHid (equalR_any X Y a l c a' l' c' w h h' (fun p x q y W hx hy hp hq => sameRef_any p x q y W hp hq (hX x hx) (hY y hy)))
  clear h h' hX hY
  go_enter Tryd.func52, Tryd.ntmps52
  go_wp2_with fail
  refine HC.out.mono ?_
  rintro e w1 ⟨rfl, k1⟩
  go_wp2_with fail
  go_ret
  exact ⟨rfl, k1⟩

set_option maxHeartbeats 4000000 in
set_option maxRecDepth 100000 in
theorem sameNode_ref (p : Nd) (x : AN) (q : Nd) (y : AN) (w : World) (h : NdIn w p x) (h' : NdIn w q y) (hx : x.ok) (hy : y.ok) :
    Calls Tryd.prog 26 #[.agg #[.int .i64 p.id, .slice p.la p.ll p.lc, .slice p.pa p.pl p.pc], .agg #[.int .i64 q.id, .slice q.la q.ll q.lc, .slice q.pa q.pl q.pc]] w fun e w' => e = .returned (.bool (sameN x y)) ∧ Below w.heap.size w w' := by
  obtain ⟨R, hR⟩ : ∃ R, R = sameN x y := ⟨_, rfl⟩
  rw [← hR]
  obtain ⟨h1, h2, h3, h4, h5⟩ := h
  obtain ⟨g1, g2, g3, g4, g5⟩ := h'
  obtain ⟨s1, hs1⟩ : ∃ z, z = eqS x.labs y.labs := ⟨_, rfl⟩
  obtain ⟨s2, hs2⟩ : ∃ z, z = eqB sameP x.props y.props := ⟨_, rfl⟩
  have HR : Hid (R = ((p.id == q.id) && (s1 && s2))) := by rw [hR, h1, g1, hs1, hs2]; rfl
  have HL : Hid (∀ W, Below w.heap.size w W → Calls Tryd.prog 51 #[.slice p.la p.ll p.lc, .slice q.la q.ll q.lc] W fun e w' => e = .returned (.bool s1) ∧ Below W.heap.size W w') := by
    intro W kW
    rw [hs1, ← h2, ← g2]
    exact equal_strs p.labs q.labs p.la p.ll p.lc q.la q.ll q.lc W (h3.below kW) (g3.below kW)
  have HP : Hid (∀ W, Below w.heap.size w W → Calls Tryd.prog 52 #[.slice p.pa p.pl p.pc, .slice q.pa q.pl q.pc] W fun e w' => e = .returned (.bool s2) ∧ Below W.heap.size W w') := by
    intro W kW
    rw [hs2]
    exact sameProps_ref x.props y.props p.pa p.pl p.pc q.pa q.pl q.pc W (PsAt.below ⟨_, h4, h5⟩ kW) (PsAt.below ⟨_, g4, g5⟩ kW) hx.2.2 hy.2.2
  clear hR h1 h2 h3 h4 h5 g1 g2 g3 g4 g5 hx hy hs1 hs2
  have hb0 : Below w.heap.size w ((w.alloc (.cells #[.int .i64 p.id, .slice p.la p.ll p.lc, .slice p.pa p.pl p.pc] 51)).alloc (.cells #[.int .i64 q.id, .slice q.la q.ll q.lc, .slice q.pa q.pl q.pc] 51)) := ((Below.refl _ _).alloc (Nat.le_refl _) _).alloc (by simp) _
  have HB0 := toHid hb0
  have z0 : ((w.alloc (.cells #[.int .i64 p.id, .slice p.la p.ll p.lc, .slice p.pa p.pl p.pc] 51)).alloc (.cells #[.int .i64 q.id, .slice q.la q.ll q.lc, .slice q.pa q.pl q.pc] 51)).heap.size = w.heap.size + 2 := by simp
  have hu := (Below.heap_alloc (w.alloc (.cells #[.int .i64 p.id, .slice p.la p.ll p.lc, .slice p.pa p.pl p.pc] 51)) (.cells #[.int .i64 q.id, .slice q.la q.ll q.lc, .slice q.pa q.pl q.pc] 51) w.heap.size (by simp)).trans (alloc_new w (.cells #[.int .i64 p.id, .slice p.la p.ll p.lc, .slice p.pa p.pl p.pc] 51))
  have hv := alloc_two w (.cells #[.int .i64 p.id, .slice p.la p.ll p.lc, .slice p.pa p.pl p.pc] 51) (.cells #[.int .i64 q.id, .slice q.la q.ll q.lc, .slice q.pa q.pl q.pc] 51)
  have HU := toHid hu
  have HV := toHid hv
  have HZ := toHid z0
  clear hb0 z0 hu hv
  cases he : (p.id == q.id) with
  | false =>
    have H3 := toHid (show R = false by rw [HR.out, he]; rfl)
    clear HR HL HP
    go_enter Tryd.func26, Tryd.ntmps26
    go_wp2_with fail
    go_ret
    exact ⟨ret_bool (by rw [H3.out]), HB0.out⟩
  | true =>
    go_enter Tryd.func26, Tryd.ntmps26
    go_wp2_with fail
    refine (HL.out _ HB0.out).mono ?_
    generalize (w.alloc (.cells #[.int .i64 p.id, .slice p.la p.ll p.lc, .slice p.pa p.pl p.pc] 51)).alloc (.cells #[.int .i64 q.id, .slice q.la q.ll q.lc, .slice q.pa q.pl q.pc] 51) = W0 at HB0 HU HV HZ ⊢
    rintro e w1 ⟨rfl, k1⟩
    have hb1 := HB0.out.trans (k1.mono HB0.out.size)
    have u2 := cell_of ((k1.block w.heap.size (by rw [HZ.out]; omega)).trans HU.out) 2
    have v2 := cell_of ((k1.block (w.heap.size + 1) (by rw [HZ.out]; omega)).trans HV.out) 2
    simp at u2 v2
    clear k1
    cases s1 with
    | false =>
      have H3 := toHid (show R = false by rw [HR.out, he]; rfl)
      clear HR
      go_wp2_with fail
      go_ret
      exact ⟨ret_bool (by rw [H3.out]), hb1⟩
    | true =>
      have H3 := toHid (show R = s2 by rw [HR.out, he]; rfl)
      clear HR
      go_wp2_with fail
      refine (HP.out _ hb1).mono ?_
      rintro e w2 ⟨rfl, k2⟩
      have hb2 := hb1.trans (k2.mono hb1.size)
      clear k2
      go_wp2_with fail
      go_ret
      exact ⟨ret_bool (by rw [H3.out]), hb2⟩

set_option maxHeartbeats 4000000 in
set_option maxRecDepth 100000 in
theorem sameEdge_ref (p : Ed) (x : AE) (q : Ed) (y : AE) (w : World) (h : EdIn w p x) (h' : EdIn w q y) (hx : x.ok) (hy : y.ok) :
    Calls Tryd.prog 28 #[.agg #[.int .i64 p.id, .int .i64 p.frm, .int .i64 p.dst, .string p.typ, .slice p.pa p.pl p.pc], .agg #[.int .i64 q.id, .int .i64 q.frm, .int .i64 q.dst, .string q.typ, .slice q.pa q.pl q.pc]] w fun e w' => e = .returned (.bool (sameE x y)) ∧ Below w.heap.size w w' := by
  obtain ⟨R, hR⟩ : ∃ R, R = sameE x y := ⟨_, rfl⟩
  rw [← hR]
  obtain ⟨h1, h2, h3, h4, _, h5, h6⟩ := h
  obtain ⟨g1, g2, g3, g4, _, g5, g6⟩ := h'
  obtain ⟨s2, hs2⟩ : ∃ z, z = eqB sameP x.props y.props := ⟨_, rfl⟩
  have HR : Hid (R = ((p.id == q.id) && ((p.frm == q.frm) && ((p.dst == q.dst) && ((p.typ.toList == q.typ.toList) && s2))))) := by rw [hR, h1, g1, h2, g2, h3, g3, h4, g4, hs2]; rfl
  have HP : Hid (∀ W, Below w.heap.size w W → Calls Tryd.prog 52 #[.slice p.pa p.pl p.pc, .slice q.pa q.pl q.pc] W fun e w' => e = .returned (.bool s2) ∧ Below W.heap.size W w') := by
    intro W kW
    rw [hs2]
    exact sameProps_ref x.props y.props p.pa p.pl p.pc q.pa q.pl q.pc W (PsAt.below ⟨_, h5, h6⟩ kW) (PsAt.below ⟨_, g5, g6⟩ kW) hx.2 hy.2
  clear hR h1 h2 h3 h4 h5 h6 g1 g2 g3 g4 g5 g6 hx hy hs2
  have hb0 : Below w.heap.size w ((w.alloc (.cells #[.int .i64 p.id, .int .i64 p.frm, .int .i64 p.dst, .string p.typ, .slice p.pa p.pl p.pc] 71)).alloc (.cells #[.int .i64 q.id, .int .i64 q.frm, .int .i64 q.dst, .string q.typ, .slice q.pa q.pl q.pc] 71)) := ((Below.refl _ _).alloc (Nat.le_refl _) _).alloc (by simp) _
  have HB0 := toHid hb0
  clear hb0
  cases e1 : (p.id == q.id) with
  | false =>
    have H3 := toHid (show R = false by rw [HR.out]; simp [e1])
    clear HR HP
    go_enter Tryd.func28, Tryd.ntmps28
    go_wp2_with fail
    go_ret
    exact ⟨ret_bool (by rw [H3.out]), HB0.out⟩
  | true =>
    cases e2 : (p.frm == q.frm) with
    | false =>
      have H3 := toHid (show R = false by rw [HR.out]; simp [e1, e2])
      clear HR HP
      go_enter Tryd.func28, Tryd.ntmps28
      go_wp2_with fail
      go_ret
      exact ⟨ret_bool (by rw [H3.out]), HB0.out⟩
    | true =>
      cases e3 : (p.dst == q.dst) with
      | false =>
        have H3 := toHid (show R = false by rw [HR.out]; simp [e1, e2, e3])
        clear HR HP
        go_enter Tryd.func28, Tryd.ntmps28
        go_wp2_with fail
        go_ret
        exact ⟨ret_bool (by rw [H3.out]), HB0.out⟩
      | true =>
        cases e4 : (p.typ.toList == q.typ.toList) with
        | false =>
          have H3 := toHid (show R = false by rw [HR.out]; simp [e1, e2, e3, e4])
          clear HR HP
          go_enter Tryd.func28, Tryd.ntmps28
          go_wp2_with fail
          go_ret
          exact ⟨ret_bool (by rw [H3.out]), HB0.out⟩
        | true =>
          have H3 := toHid (show R = s2 by rw [HR.out, e1, e2, e3, e4]; rfl)
          clear HR
          go_enter Tryd.func28, Tryd.ntmps28
          go_wp2_with fail
          refine (HP.out _ HB0.out).mono ?_
          rintro e w2 ⟨rfl, k2⟩
          have hb2 := HB0.out.trans (k2.mono HB0.out.size)
          clear k2
          go_wp2_with fail
          go_ret
          exact ⟨ret_bool (by rw [H3.out]), hb2⟩

set_option maxHeartbeats 4000000 in
set_option maxRecDepth 100000 in
theorem equalN_any (X Y : List AN) (a : Option Addr) (l c : Nat) (a' : Option Addr) (l' c' : Nat) (w : World) (h : NsAt w X a l) (h' : NsAt w Y a' l')
    (hF : ∀ p x q y W, x ∈ X → y ∈ Y → NdIn W p x → NdIn W q y → Calls Tryd.prog 26 #[.agg #[.int .i64 p.id, .slice p.la p.ll p.lc, .slice p.pa p.pl p.pc], .agg #[.int .i64 q.id, .slice q.la q.ll q.lc, .slice q.pa q.pl q.pc]] W fun e w' => e = .returned (.bool (sameN x y)) ∧ Below W.heap.size W w') :
    Calls Tryd.prog 25 #[.slice a l c, .slice a' l' c', .func (.func 26) #[] #[]] w fun e w' => e = .returned (.bool (eqB sameN X Y)) ∧ Below w.heap.size w w' := by
  obtain ⟨R, hR⟩ : ∃ R, R = eqB sameN X Y := ⟨_, rfl⟩
  rw [← hR]
  have HR := toHid hR
  obtain ⟨P, ⟨hl, hmx, hat⟩, hp⟩ := h
  obtain ⟨Q, ⟨hl', hmx', hat'⟩, hq⟩ := h'
  have HL := toHid hl
  have HL' := toHid hl'
  have HAT := toHid hat
  have HAT' := toHid hat'
  have HP := toHid hp
  have HQ := toHid hq
  have HF := toHid hF
  have HXL : Hid (X.length = l) := by rw [HL.out]; exact HP.out.1.symm
  have HYL : Hid (Y.length = l') := by rw [HL'.out]; exact HQ.out.1.symm
  clear hR hl hl' hat hat' hp hq hF
  by_cases hne : l = l'
  · have H3 := toHid (show R = eqB sameN (X.drop 0) (Y.drop 0) from HR.out)
    clear HR
    subst hne
    go_enter Tryd.func25, Tryd.ntmps25
    go_wp2_with fail
    go_loopg [17] l (fun g s17 wr => ∃ i : Nat, i ≤ l ∧ l - i ≤ g ∧ s17 = .int .i64 i ∧ Below w.heap.size w wr ∧ R = eqB sameN (X.drop i) (Y.drop i))
    case atStart => exact ⟨0, Nat.zero_le _, by omega, rfl, Below.refl _ _, H3.out⟩
    case round =>
      clear H3
      obtain ⟨i, hi, hg, rfl, hbw, hfe⟩ := hrel
      have HFE := toHid hfe
      clear hfe
      by_cases hlt : i < l
      · obtain ⟨b, off, ha, hb, hc⟩ := HAT.out (by omega)
        obtain ⟨b', off', ha', hb', hc'⟩ := HAT'.out (by omega)
        subst ha ha'
        obtain ⟨p, hp, _⟩ := drop_get (L := P) (i := i) (by have := HL.out; omega)
        obtain ⟨q, hq, _⟩ := drop_get (L := Q) (i := i) (by have := HL'.out; omega)
        obtain ⟨x, hx, hpx⟩ := HP.out.left hp
        obtain ⟨y, hy, hqy⟩ := HQ.out.left hq
        obtain ⟨c0, c1, c2⟩ := hc i p hp
        obtain ⟨e0, e1, e2⟩ := hc' i q hq
        have qq : ∀ o, wr.cell? ⟨b, o, none⟩ = w.cell? ⟨b, o, none⟩ := fun o => hbw.cell (p := ⟨b, o, none⟩) hb
        have qq2 : ∀ o, wr.cell? ⟨b', o, none⟩ = w.cell? ⟨b', o, none⟩ := fun o => hbw.cell (p := ⟨b', o, none⟩) hb'
        have d0 := (qq _).trans c0
        have d1 := (qq _).trans c1
        have d2 := (qq _).trans c2
        have f0 := (qq2 _).trans e0
        have f1 := (qq2 _).trans e1
        have f2 := (qq2 _).trans e2
        have hdx : X.drop i = x :: X.drop (i + 1) := by
          obtain ⟨z, hz, hd⟩ := drop_get (L := X) (i := i) (by have := HXL.out; omega)
          rw [hx] at hz
          injection hz with hz
          rw [hz]
          exact hd
        have hdy : Y.drop i = y :: Y.drop (i + 1) := by
          obtain ⟨z, hz, hd⟩ := drop_get (L := Y) (i := i) (by have := HYL.out; omega)
          rw [hy] at hz
          injection hz with hz
          rw [hz]
          exact hd
        have H4 := toHid (show R = (sameN x y && eqB sameN (X.drop (i + 1)) (Y.drop (i + 1))) by rw [HFE.out, hdx, hdy]; rfl)
        have HC : Hid (∀ W, Below w.heap.size w W → Calls Tryd.prog 26 #[.agg #[.int .i64 p.id, .slice p.la p.ll p.lc, .slice p.pa p.pl p.pc], .agg #[.int .i64 q.id, .slice q.la q.ll q.lc, .slice q.pa q.pl q.pc]] W fun e w' => e = .returned (.bool (sameN x y)) ∧ Below W.heap.size W w') := fun W kW => HF.out p x q y W (List.mem_of_getElem? hx) (List.mem_of_getElem? hy) (hpx.below kW) (hqy.below kW)
        clear hc hc' hp hq hx hy hpx hqy c0 c1 c2 e0 e1 e2 qq qq2 hdx hdy HFE
        have hil : (i : Int) < l := by omega
        have hz : w.heap.size ≤ wr.heap.size := hbw.size
        have hbr : b' < wr.heap.size := by omega
        have hbx : Below w.heap.size w ((wr.alloc (.cells #[.int .i64 p.id, .slice p.la p.ll p.lc, .slice p.pa p.pl p.pc] 51)).alloc (.cells #[.int .i64 q.id, .slice q.la q.ll q.lc, .slice q.pa q.pl q.pc] 51)) := (hbw.alloc hz _).alloc (by simp; omega) _
        have HBX := toHid hbx
        clear hbx
        go_wp2_with fail
        refine (HC.out _ HBX.out).mono ?_
        rintro e w2 ⟨rfl, k2⟩
        have hb2 := HBX.out.trans (k2.mono HBX.out.size)
        clear k2 d0 d1 d2 f0 f1 f2
        cases hs : sameN x y with
        | true =>
          have H5 := toHid (show R = eqB sameN (X.drop (i + 1)) (Y.drop (i + 1)) by rw [H4.out, hs]; simp)
          clear H4 hs
          go_wp2_with fail
          go_roundg (l - (i + 1))
          case measure => omega
          case rel => exact ⟨i + 1, by omega, by omega, by go_num, hb2, H5.out⟩
        | false =>
          have H5 := toHid (show R = false by rw [H4.out, hs]; simp)
          clear H4 hs
          go_wp2_with fail
          go_ret
          exact ⟨ret_bool (by rw [H5.out]), hb2⟩
      · have H3 := toHid (show R = true by rw [HFE.out, List.drop_eq_nil_of_le (by have := HXL.out; omega), List.drop_eq_nil_of_le (by have := HYL.out; omega)]; rfl)
        clear HFE
        go_wp2_with fail
        go_ret
        exact ⟨ret_bool (by rw [H3.out]), hbw⟩
  · have hne' : ((l : Int) != (l' : Int)) = true := by simp; omega
    have H3 := toHid (show R = false by rw [HR.out]; exact eqB_length _ _ _ (fun h => hne (by have := HXL.out; have := HYL.out; omega)))
    clear HR hne
    go_enter Tryd.func25, Tryd.ntmps25
    go_wp2_with fail
    go_ret
    exact ⟨ret_bool (by rw [H3.out]), Below.refl _ _⟩

set_option maxHeartbeats 4000000 in
set_option maxRecDepth 100000 in
theorem equalE_any (X Y : List AE) (a : Option Addr) (l c : Nat) (a' : Option Addr) (l' c' : Nat) (w : World) (h : EsAt w X a l) (h' : EsAt w Y a' l')
    (hF : ∀ p x q y W, x ∈ X → y ∈ Y → EdIn W p x → EdIn W q y → Calls Tryd.prog 28 #[.agg #[.int .i64 p.id, .int .i64 p.frm, .int .i64 p.dst, .string p.typ, .slice p.pa p.pl p.pc], .agg #[.int .i64 q.id, .int .i64 q.frm, .int .i64 q.dst, .string q.typ, .slice q.pa q.pl q.pc]] W fun e w' => e = .returned (.bool (sameE x y)) ∧ Below W.heap.size W w') :
    Calls Tryd.prog 27 #[.slice a l c, .slice a' l' c', .func (.func 28) #[] #[]] w fun e w' => e = .returned (.bool (eqB sameE X Y)) ∧ Below w.heap.size w w' := by
  obtain ⟨R, hR⟩ : ∃ R, R = eqB sameE X Y := ⟨_, rfl⟩
  rw [← hR]
  have HR := toHid hR
  obtain ⟨P, ⟨hl, hmx, hat⟩, hp⟩ := h
  obtain ⟨Q, ⟨hl', hmx', hat'⟩, hq⟩ := h'
  have HL := toHid hl
  have HL' := toHid hl'
  have HAT := toHid hat
  have HAT' := toHid hat'
  have HP := toHid hp
  have HQ := toHid hq
  have HF := toHid hF
  have HXL : Hid (X.length = l) := by rw [HL.out]; exact HP.out.1.symm
  have HYL : Hid (Y.length = l') := by rw [HL'.out]; exact HQ.out.1.symm
  clear hR hl hl' hat hat' hp hq hF
  by_cases hne : l = l'
  · have H3 := toHid (show R = eqB sameE (X.drop 0) (Y.drop 0) from HR.out)
    clear HR
    subst hne
    go_enter Tryd.func27, Tryd.ntmps27
    go_wp2_with fail
    go_loopg [17] l (fun g s17 wr => ∃ i : Nat, i ≤ l ∧ l - i ≤ g ∧ s17 = .int .i64 i ∧ Below w.heap.size w wr ∧ R = eqB sameE (X.drop i) (Y.drop i))
    case atStart => exact ⟨0, Nat.zero_le _, by omega, rfl, Below.refl _ _, H3.out⟩
    case round =>
      clear H3
      obtain ⟨i, hi, hg, rfl, hbw, hfe⟩ := hrel
      have HFE := toHid hfe
      clear hfe
      by_cases hlt : i < l
      · obtain ⟨b, off, ha, hb, hc⟩ := HAT.out (by omega)
        obtain ⟨b', off', ha', hb', hc'⟩ := HAT'.out (by omega)
        subst ha ha'
        obtain ⟨p, hp, _⟩ := drop_get (L := P) (i := i) (by have := HL.out; omega)
        obtain ⟨q, hq, _⟩ := drop_get (L := Q) (i := i) (by have := HL'.out; omega)
        obtain ⟨x, hx, hpx⟩ := HP.out.left hp
        obtain ⟨y, hy, hqy⟩ := HQ.out.left hq
        obtain ⟨hsz, c0, c1, c2, c3, c4⟩ := hc i p hp
        obtain ⟨hsz2, e0, e1, e2, e3, e4⟩ := hc' i q hq
        have qq : ∀ o, wr.cell? ⟨b, o, none⟩ = w.cell? ⟨b, o, none⟩ := fun o => hbw.cell (p := ⟨b, o, none⟩) hb
        have qq2 : ∀ o, wr.cell? ⟨b', o, none⟩ = w.cell? ⟨b', o, none⟩ := fun o => hbw.cell (p := ⟨b', o, none⟩) hb'
        have d0 := (qq _).trans c0
        have d1 := (qq _).trans c1
        have d2 := (qq _).trans c2
        have d3 := (qq _).trans c3
        have d4 := (qq _).trans c4
        have f0 := (qq2 _).trans e0
        have f1 := (qq2 _).trans e1
        have f2 := (qq2 _).trans e2
        have f3 := (qq2 _).trans e3
        have f4 := (qq2 _).trans e4
        have hdx : X.drop i = x :: X.drop (i + 1) := by
          obtain ⟨z, hz, hd⟩ := drop_get (L := X) (i := i) (by have := HXL.out; omega)
          rw [hx] at hz
          injection hz with hz
          rw [hz]
          exact hd
        have hdy : Y.drop i = y :: Y.drop (i + 1) := by
          obtain ⟨z, hz, hd⟩ := drop_get (L := Y) (i := i) (by have := HYL.out; omega)
          rw [hy] at hz
          injection hz with hz
          rw [hz]
          exact hd
        have H4 := toHid (show R = (sameE x y && eqB sameE (X.drop (i + 1)) (Y.drop (i + 1))) by rw [HFE.out, hdx, hdy]; rfl)
        have HC : Hid (∀ W, Below w.heap.size w W → Calls Tryd.prog 28 #[.agg #[.int .i64 p.id, .int .i64 p.frm, .int .i64 p.dst, .string p.typ, .slice p.pa p.pl p.pc], .agg #[.int .i64 q.id, .int .i64 q.frm, .int .i64 q.dst, .string q.typ, .slice q.pa q.pl q.pc]] W fun e w' => e = .returned (.bool (sameE x y)) ∧ Below W.heap.size W w') := fun W kW => HF.out p x q y W (List.mem_of_getElem? hx) (List.mem_of_getElem? hy) (hpx.below kW) (hqy.below kW)
        clear hc hc' hp hq hx hy hpx hqy c0 c1 c2 c3 c4 e0 e1 e2 e3 e4 qq qq2 hdx hdy HFE
        have hil : (i : Int) < l := by omega
        have hz : w.heap.size ≤ wr.heap.size := hbw.size
        have hbr : b' < wr.heap.size := by omega
        have hbx : Below w.heap.size w ((wr.alloc (.cells #[.int .i64 p.id, .int .i64 p.frm, .int .i64 p.dst, .string p.typ, .slice p.pa p.pl p.pc] 71)).alloc (.cells #[.int .i64 q.id, .int .i64 q.frm, .int .i64 q.dst, .string q.typ, .slice q.pa q.pl q.pc] 71)) := (hbw.alloc hz _).alloc (by simp; omega) _
        have HBX := toHid hbx
        clear hbx
        go_wp2_with fail
        refine (HC.out _ HBX.out).mono ?_
        rintro e w2 ⟨rfl, k2⟩
        have hb2 := HBX.out.trans (k2.mono HBX.out.size)
        clear k2 d0 d1 d2 d3 d4 f0 f1 f2 f3 f4
        cases hs : sameE x y with
        | true =>
          have H5 := toHid (show R = eqB sameE (X.drop (i + 1)) (Y.drop (i + 1)) by rw [H4.out, hs]; simp)
          clear H4 hs
          go_wp2_with fail
          go_roundg (l - (i + 1))
          case measure => omega
          case rel => exact ⟨i + 1, by omega, by omega, by go_num, hb2, H5.out⟩
        | false =>
          have H5 := toHid (show R = false by rw [H4.out, hs]; simp)
          clear H4 hs
          go_wp2_with fail
          go_ret
          exact ⟨ret_bool (by rw [H5.out]), hb2⟩
      · have H3 := toHid (show R = true by rw [HFE.out, List.drop_eq_nil_of_le (by have := HXL.out; omega), List.drop_eq_nil_of_le (by have := HYL.out; omega)]; rfl)
        clear HFE
        go_wp2_with fail
        go_ret
        exact ⟨ret_bool (by rw [H3.out]), hbw⟩
  · have hne' : ((l : Int) != (l' : Int)) = true := by simp; omega
    have H3 := toHid (show R = false by rw [HR.out]; exact eqB_length _ _ _ (fun h => hne (by have := HXL.out; have := HYL.out; omega)))
    clear HR hne
    go_enter Tryd.func27, Tryd.ntmps27
    go_wp2_with fail
    go_ret
    exact ⟨ret_bool (by rw [H3.out]), Below.refl _ _⟩

theorem info_Node0 : (Tryd.prog.info? 51).map (fun i => (i.zero, i.size, i.bytes)) = some (some (.agg #[.int .i64 0, .slice none 0 0, .slice none 0 0]), 3, 56) := by kernel_rfl
theorem info_Node : ∃ i, Tryd.prog.info? 51 = some i ∧ i.zero = some (.agg #[.int .i64 0, .slice none 0 0, .slice none 0 0]) ∧ i.size = 3 ∧ i.bytes = 56 := by
  have h := info_Node0
  cases hi : Tryd.prog.info? 51 with
  | none => rw [hi] at h; cases h
  | some i => rw [hi] at h; simp at h; exact ⟨i, rfl, h.1, h.2.1, h.2.2⟩


/-- The answer of each. -/
def NsOwnEnd (W w' : World) (X : List AN) (e : Ending) : Prop := ∃ v, e = .returned v ∧ NsOwn (fun i => W.heap.size ≤ i) w' X v

set_option maxHeartbeats 4000000 in
set_option maxRecDepth 100000 in
theorem each_nodes (X : List AN) (a : Option Addr) (l c : Nat) (w : World) (h : NsAt w X a l) (hl : l ≤ 1000) (hok : ∀ x ∈ X, x.ok) :
    Calls Tryd.prog 41 #[.slice a l c, .func (.func 42) #[] #[]] w fun e w' => NsOwnEnd w w' X e ∧ Below w.heap.size w w' := by
  obtain ⟨P0, ⟨hl0, hmx, hat⟩, hpair⟩ := h
  have HAT := toHid hat
  have HL := toHid hl0
  have HPAIR := toHid hpair
  have HOK := toHid hok
  clear hat hl0 hpair hok
  obtain ⟨i0, hi0, hiz, his, hib⟩ := info_Node
  have HI0 := toHid hi0
  have HIZ := toHid hiz
  have HIS := toHid his
  have HIB := toHid hib
  clear hi0 hiz his hib
  have HXL : Hid (X.length = l) := by rw [HL.out]; exact HPAIR.out.1.symm
  go_enter Tryd.func41, Tryd.ntmps41
  go_wp2_with fail
  go_loopg [5, 10] l (fun g s5 s10 wr => ∃ (i : Nat) (P : List Nd) (ov : Value), i ≤ l ∧ l - i ≤ g ∧ ov = s5 ∧ s10 = .int .i64 i ∧ P.length = i ∧ wr.ownsRow w.heap.size 51 3 ov i (rowN P) ∧ Below w.heap.size w wr ∧ PairD (fun B => NdOwn B wr) (fun j => w.heap.size ≤ j ∧ ov.ownBlock ≠ some j) P (X.take i))
  case atStart => exact ⟨0, [], .slice none 0 0, Nat.zero_le _, by omega, rfl, rfl, rfl, World.ownsRow_nil _ _ _ _, Below.refl _ _, PairD.nil⟩
  case round =>
    obtain ⟨i, P, ov, hi, hg, rfl, rfl, hPl, hown, hbw, hpr⟩ := hrel
    have HOWN := toHid hown
    have HPR := toHid hpr
    have HPL := toHid hPl
    clear hown hpr hPl
    by_cases hlt : i < l
    · obtain ⟨b, off, ha, hb, hc⟩ := HAT.out (by omega)
      subst ha
      obtain ⟨x, hx, _⟩ := drop_get (L := P0) (i := i) (by have := HL.out; omega)
      obtain ⟨y, hy, hxy⟩ := HPAIR.out.left hx
      have HXY := toHid hxy
      have HY := toHid hy
      have HYO : Hid y.ok := HOK.out y (List.mem_of_getElem? hy)
      obtain ⟨c0, c1, c2⟩ := hc i x hx
      have q : ∀ o, wr.cell? ⟨b, o, none⟩ = w.cell? ⟨b, o, none⟩ := fun o => hbw.cell (p := ⟨b, o, none⟩) hb
      have d0 := (q _).trans c0
      have d1 := (q _).trans c1
      have d2 := (q _).trans c2
      clear hc hx c0 c1 c2 q hxy hy
      have hil : (i : Int) < l := by omega
      have hz : w.heap.size ≤ wr.heap.size := hbw.size
      have HONE : Hid (∀ W, Below w.heap.size w W → Calls Tryd.prog 42 #[.agg #[.int .i64 x.id, .slice x.la x.ll x.lc, .slice x.pa x.pl x.pc]] W fun e w' => NodeEnd W w' y e ∧ Below W.heap.size W w') := fun W kW => node_any x y W (HXY.out.below kW) HYO.out
      go_wp2_with fail
      refine (HONE.out _ (hbw.alloc hz _)).mono ?_
      have hbw1 : Below wr.heap.size wr (wr.alloc (.cells #[.int .i64 x.id, .slice x.la x.ll x.lc, .slice x.pa x.pl x.pc] 51)) := (Below.refl _ _).alloc (Nat.le_refl _) _
      have hz1 : (wr.alloc (.cells #[.int .i64 x.id, .slice x.la x.ll x.lc, .slice x.pa x.pl x.pc] 51)).heap.size = wr.heap.size + 1 := by simp
      generalize wr.alloc (.cells #[.int .i64 x.id, .slice x.la x.ll x.lc, .slice x.pa x.pl x.pc] 51) = W1 at hbw1 hz1 ⊢
      rintro e w2 ⟨⟨y', rfl, hin⟩, k2⟩
      have hs2 : wr.heap.size + 1 ≤ w2.heap.size := by have := k2.size; omega
      have kb2 : Below wr.heap.size wr w2 := hbw1.trans (k2.mono hbw1.size)
      have HIN := toHid hin
      have HKB2 := toHid kb2
      have HZ1 := toHid hz1
      have HB2 := toHid (hbw.trans (kb2.mono hz))
      have hlv : ∀ g, ov.ownBlock = some g → g < wr.heap.size := by
        intro g hg
        rcases HOWN.out.2 with ⟨h0, _⟩ | ⟨g', cap, cur, h0, _, h2, _⟩
        · rw [h0] at hg; cases hg
        · rw [h0] at hg
          have : g' = g := by simpa [Value.ownBlock] using hg
          subst this
          exact (Array.getElem?_eq_some_iff.1 h2).1
      have HLV := toHid hlv
      have OWN2 := toHid (row_keep HOWN.out (w' := w2) (fun g hg _ => kb2.block g (hlv g hg)))
      clear hin kb2 hz1 hbw1 k2 hlv d0 d1 d2 HONE HXY HYO
      unfold Nd.val
      have HBy : (i + 1) * 56 ≤ 140737488355328 := by omega
      have HBm : i + 1 ≤ maxLen := by unfold maxLen; omega
      go_wp2_with (at_builtin; refine wpList_append_lies _ rfl _ _ 23 rfl w.heap.size 51 i0 _ 3 56 Tryd.underlying23 HI0.out HIZ.out HIS.out HIB.out rfl (by omega) ov i (rowN P) rfl (OWN2.out.alloc _) ⟨w2.heap.size, 0, none⟩ 1 1 [.int .i64 y'.id, .slice y'.la y'.ll y'.lc, .slice y'.pa y'.pl y'.pc] rfl rfl (World.news_of_block (cs := #[.int .i64 y'.id, .slice y'.la y'.ll y'.lc, .slice y'.pa y'.pl y'.pc]) (t := 51) (fr := (0, 0)) (alloc_new w2 _)) (by simp [Value.oneCell']) (by omega) HBm HBy (by simp; omega) (w2.heap.size + 1) (by simp) ?_)
      intro gg cap w5 hown5 hgrow hat5 hlt5
      have hb6 : Below w.heap.size w w5 := (HB2.out.alloc (by omega) _).grown hgrow (by simp; omega) (fun j hj => (by
        rcases HOWN.out.2 with ⟨h0, _⟩ | ⟨g', cap, cur, h0, h1, _⟩
        · rw [h0] at hj; cases hj
        · rw [h0] at hj
          have : g' = j := by simpa [Value.ownBlock] using hj
          subst this
          exact h1))
      have hsame : ∀ j, j < w2.heap.size → ov.ownBlock ≠ some j → w5.heap[j]? = w2.heap[j]? := fun j hj hn => (hgrow.block j (by simp; omega) (fun e => hn e.symm)).trans (Below.heap_alloc w2 _ j hj)
      have hsz5 : w2.heap.size ≤ w5.heap.size := Nat.le_trans (by simp) hgrow.size
      have hgg : ∀ j, j < w2.heap.size → ov.ownBlock ≠ some j → (Value.slice (some ⟨gg, 0, none⟩) (i + 1) cap).ownBlock ≠ some j := by
        intro j hj hn he
        have e1 : gg = j := by simpa [Value.ownBlock] using he
        rcases hat5 with h5 | h5
        · rw [e1] at h5; exact hn h5
        · omega
      have HPR5 : Hid (PairD (fun B => NdOwn B w5) (fun j => w.heap.size ≤ j ∧ (Value.slice (some ⟨gg, 0, none⟩) (i + 1) cap).ownBlock ≠ some j) (P ++ [y']) (X.take (i + 1))) := by
        have e1 : X.take (i + 1) = X.take i ++ [y] := by rw [List.take_add_one, HY.out]; rfl
        rw [e1]
        refine (HPR.out.carry (R' := fun B => NdOwn B w5) (A' := fun j => (w.heap.size ≤ j ∧ (Value.slice (some ⟨gg, 0, none⟩) (i + 1) cap).ownBlock ≠ some j) ∧ j < wr.heap.size) (fun j => j < wr.heap.size) (fun B p x hB hp => hp.kept ⟨by have := HKB2.out.size; omega, fun j hj hjl => ⟨⟨hj, hjl⟩, (hsame j (by omega) (hB j hj).2).trans (HKB2.out.block j hjl)⟩⟩) (fun b hb hz => ⟨⟨hb.1, hgg b (by omega) hb.2⟩, hz⟩)).snoc (B := fun j => (w.heap.size ≤ j ∧ (Value.slice (some ⟨gg, 0, none⟩) (i + 1) cap).ownBlock ≠ some j) ∧ wr.heap.size ≤ j) (HIN.out.kept ⟨hsz5, fun j hj hjl => ?_⟩) (fun b hb => hb.1) (fun b hb => hb.1) (fun b hb hb' => by have h1 := hb.2; have h2 := hb'.2; omega)
        have hj' : wr.heap.size + 1 ≤ j := by have := HZ1.out; omega
        have hn : ov.ownBlock ≠ some j := fun e => by have := HLV.out j e; omega
        exact ⟨⟨⟨by omega, hgg j hjl hn⟩, by omega⟩, hsame j hjl hn⟩
      have HOWN5 : Hid (w5.ownsRow w.heap.size 51 3 (.slice (some ⟨gg, 0, none⟩) (i + 1) cap) (i + 1) (rowN (P ++ [y']))) := by
        rw [rowN_snoc]
        exact hown5
      clear hown5 hgrow hat5 hlt5 hsame hsz5 hgg
      go_wp2_with fail
      go_roundg (l - (i + 1))
      case measure => omega
      case rel => exact ⟨i + 1, P ++ [y'], .slice (some ⟨gg, 0, none⟩) (i + 1) cap, by omega, by omega, rfl, by go_num, by rw [List.length_append, List.length_singleton, HPL.out], HOWN5.out, hb6, HPR5.out⟩
    · have hil : i = l := by omega
      subst hil
      have HFIN : Hid (NsOwn (fun j => w.heap.size ≤ j) wr X ov) := by
        refine ⟨fun g hg => ?_, P, ?_, ?_⟩
        · rcases HOWN.out.2 with ⟨h0, _⟩ | ⟨g', cap, cur, h0, h1, _⟩
          · rw [h0] at hg; cases hg
          · rw [h0] at hg
            have : g' = g := by simpa [Value.ownBlock] using hg
            subst this
            exact h1
        · rw [HPL.out]
          exact ⟨HOWN.out.1, HOWN.out.2.elim .inl (fun ⟨g, cap, cur, e1, e2, e3⟩ => .inr ⟨g, cap, cur, e1, Nat.zero_le _, e3⟩)⟩
        · have := HPR.out
          rw [List.take_of_length_le (by rw [HXL.out]; exact Nat.le_refl _)] at this
          exact this
      clear HPR HOWN
      go_wp2_with fail
      go_ret
      exact ⟨⟨ov, rfl, HFIN.out⟩, hbw⟩
end Go.Proofs.YthikpmngcbgbfaaDoor
