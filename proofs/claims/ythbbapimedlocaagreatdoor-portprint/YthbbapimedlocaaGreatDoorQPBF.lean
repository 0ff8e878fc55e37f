/-
  What is proved here: what the texts HSame, HSameN prove, in one text.
-/
import Derived.Test.YthbbapimedlocaaGreatDoorQPBA
import Derived.Test.YthbbapimedlocaaGreatDoorQPBD
namespace Go.Proofs.YthbbapimedlocaaGreatDoor
open Go.RowKit
set_option linter.unusedVariables false

/-- Two lists of one length, the same one by one. -/
def eqB {α β : Type} (r : α → β → Bool) : List α → List β → Bool
  | [], [] => true
  | x :: xs, y :: ys => r x y && eqB r xs ys
  | _, _ => false

theorem eqB_length {α β : Type} (r : α → β → Bool) : ∀ (X : List α) (Y : List β), X.length ≠ Y.length → eqB r X Y = false
  | [], [], h => absurd rfl h
  | [], _ :: _, _ => rfl
  | _ :: _, [], _ => rfl
  | x :: xs, y :: ys, h => by
    show (r x y && eqB r xs ys) = false
    rw [eqB_length r xs ys (fun e => h (by simp [e]))]
    simp

def sameP (x y : AP) : Bool := (x.name.toList == y.name.toList) && (ordT x.t y.t == 0)


set_option maxHeartbeats 4000000 in
set_option maxRecDepth 100000 in
theorem sameRef_any (p : Pr) (x : AP) (q : Pr) (y : AP) (w : World) (h : PrIn AnyB w p x) (h' : PrIn AnyB w q y) (hx : x.ok) (hy : y.ok) :
    Calls Tryz.prog 72 #[.agg #[.string p.name, .int .i64 p.k, .int .i64 p.n, .string p.s, .slice p.a p.l p.c], .agg #[.string q.name, .int .i64 q.k, .int .i64 q.n, .string q.s, .slice q.a q.l q.c]] w fun e w' => e = .returned (.bool (sameP x y)) ∧ Below w.heap.size w w' := by
  obtain ⟨R, hR⟩ : ∃ R, R = sameP x y := ⟨_, rfl⟩
  rw [← hR]
  have HR := toHid hR
  clear hR
  obtain ⟨h1, _, _, h2, Lt, h3, h4⟩ := h
  obtain ⟨g1, _, _, g2, Lu, g3, g4⟩ := h'
  have HW : Hid (wtL Lt ≤ 1099511627776 ∧ wtL Lu ≤ 1099511627776) := by
    unfold AP.ok at hx hy
    rw [h3] at hx
    rw [g3] at hy
    unfold wtT at hx hy
    exact toHid ⟨by omega, by omega⟩
  obtain ⟨z, hz⟩ : ∃ z, z = ordT x.t y.t := ⟨_, rfl⟩
  have HC : Hid (∀ W, Below w.heap.size w W → Calls Tryz.prog 73 #[.agg #[.int .i64 p.k, .int .i64 p.n, .string p.s, .slice p.a p.l p.c], .agg #[.int .i64 q.k, .int .i64 q.n, .string q.s, .slice q.a q.l q.c]] W fun e w' => e = .returned (.bool ((z == 0))) ∧ Below W.heap.size W w') := by
    intro W kW
    rw [hz, h3, g3]
    exact same_of p.k p.n p.s p.a p.l p.c q.k q.n q.s q.a q.l q.c (ordT (.node p.k p.n p.s Lt) (.node q.k q.n q.s Lu)) W fun W' kW' => ref_ord63 (wtL Lt) p.k p.n p.s p.a p.l p.c Lt q.k q.n q.s q.a q.l q.c Lu W' (Nat.le_refl _) (by have := HW.out.1; omega) (by have := HW.out.2; omega) (((LieA.lies _ _ _ h4).below kW).below kW') (((LieA.lies _ _ _ g4).below kW).below kW')
  have HZ := toHid hz
  have HN : Hid (R = ((p.name.toList == q.name.toList) && (z == 0))) := by rw [HR.out, HZ.out, h1, g1]; rfl
  clear HR h1 h2 h3 h4 g1 g2 g3 g4 hx hy hz
  cases he : (p.name.toList == q.name.toList) with
  | false =>
    have H3 := toHid (show R = false by rw [HN.out, he]; rfl)
    clear HN HC
    go_enter Tryz.func72, Tryz.ntmps72
    go_wp2_with fail
    go_ret
    exact ⟨ret_bool (by rw [H3.out]), ((Below.refl _ _).alloc (Nat.le_refl _) _).alloc (by simp) _⟩
  | true =>
    have H3 := toHid (show R = (z == 0) by rw [HN.out, he]; rfl)
    clear HN
    go_enter Tryz.func72, Tryz.ntmps72
    go_wp2_with fail
    have hb0 : Below w.heap.size w ((w.alloc (.cells #[.string p.name, .int .i64 p.k, .int .i64 p.n, .string p.s, .slice p.a p.l p.c] 62)).alloc (.cells #[.string q.name, .int .i64 q.k, .int .i64 q.n, .string q.s, .slice q.a q.l q.c] 62)) := ((Below.refl _ _).alloc (Nat.le_refl _) _).alloc (by simp) _
    refine (HC.out _ hb0).mono ?_
    rintro e w1 ⟨rfl, k1⟩
    have hb1 := hb0.trans (k1.mono hb0.size)
    clear hb0 k1
    go_wp2_with fail
    go_ret
    exact ⟨ret_bool (by rw [H3.out]), hb1⟩

set_option maxHeartbeats 4000000 in
set_option maxRecDepth 100000 in
theorem equalR_any (X Y : List AP) (a : Option Addr) (l c : Nat) (a' : Option Addr) (l' c' : Nat) (w : World) (h : PsAt w X a l) (h' : PsAt w Y a' l')
    (hF : ∀ p x q y W, x ∈ X → y ∈ Y → PrIn AnyB W p x → PrIn AnyB W q y → Calls Tryz.prog 72 #[.agg #[.string p.name, .int .i64 p.k, .int .i64 p.n, .string p.s, .slice p.a p.l p.c], .agg #[.string q.name, .int .i64 q.k, .int .i64 q.n, .string q.s, .slice q.a q.l q.c]] W fun e w' => e = .returned (.bool (sameP x y)) ∧ Below W.heap.size W w') :
    Calls Tryz.prog 71 #[.slice a l c, .slice a' l' c', .func (.func 72) #[] #[]] w fun e w' => e = .returned (.bool (eqB sameP X Y)) ∧ Below w.heap.size w w' := by
  obtain ⟨R, hR⟩ : ∃ R, R = eqB sameP X Y := ⟨_, rfl⟩
  rw [← hR]
  have HR := toHid hR
  obtain ⟨P, ⟨hl, hmx, hat⟩, hp⟩ := h
  obtain ⟨Q, ⟨hl', hmx', hat'⟩, hq⟩ := h'
  have HL := toHid hl
  have HL' := toHid hl'
  have HAT := toHid hat
  have HAT' := toHid hat'
  have HP := toHid hp
  have HQ := toHid hq
  have HF := toHid hF
  have HXL : Hid (X.length = l) := by rw [HL.out]; exact HP.out.1.symm
  have HYL : Hid (Y.length = l') := by rw [HL'.out]; exact HQ.out.1.symm
  clear hR hl hl' hat hat' hp hq hF
  by_cases hne : l = l'
  · have H3 := toHid (show R = eqB sameP (X.drop 0) (Y.drop 0) from HR.out)
    clear HR
    subst hne
    go_enter Tryz.func71, Tryz.ntmps71
    go_wp2_with fail
    go_loopg [17] l (fun g s17 wr => ∃ i : Nat, i ≤ l ∧ l - i ≤ g ∧ s17 = .int .i64 i ∧ Below w.heap.size w wr ∧ R = eqB sameP (X.drop i) (Y.drop i))
    case atStart => exact ⟨0, Nat.zero_le _, by omega, rfl, Below.refl _ _, H3.out⟩
    case round =>
      clear H3
      obtain ⟨i, hi, hg, rfl, hbw, hfe⟩ := hrel
      have HFE := toHid hfe
      clear hfe
      by_cases hlt : i < l
      · obtain ⟨b, off, ha, hb, hc⟩ := HAT.out (by omega)
        obtain ⟨b', off', ha', hb', hc'⟩ := HAT'.out (by omega)
        subst ha ha'
        obtain ⟨p, hp, _⟩ := drop_get (L := P) (i := i) (by have := HL.out; omega)
        obtain ⟨q, hq, _⟩ := drop_get (L := Q) (i := i) (by have := HL'.out; omega)
        obtain ⟨x, hx, hpx⟩ := HP.out.left hp
        obtain ⟨y, hy, hqy⟩ := HQ.out.left hq
        obtain ⟨hsz, c0, c1, c2, c3, c4⟩ := hc i p hp
        obtain ⟨hsz2, e0, e1, e2, e3, e4⟩ := hc' i q hq
        have qq : ∀ o, wr.cell? ⟨b, o, none⟩ = w.cell? ⟨b, o, none⟩ := fun o => hbw.cell (p := ⟨b, o, none⟩) hb
        have qq2 : ∀ o, wr.cell? ⟨b', o, none⟩ = w.cell? ⟨b', o, none⟩ := fun o => hbw.cell (p := ⟨b', o, none⟩) hb'
        have d0 := (qq _).trans c0
        have d1 := (qq _).trans c1
        have d2 := (qq _).trans c2
        have d3 := (qq _).trans c3
        have d4 := (qq _).trans c4
        have f0 := (qq2 _).trans e0
        have f1 := (qq2 _).trans e1
        have f2 := (qq2 _).trans e2
        have f3 := (qq2 _).trans e3
        have f4 := (qq2 _).trans e4
        have hdx : X.drop i = x :: X.drop (i + 1) := by
          obtain ⟨z, hz, hd⟩ := drop_get (L := X) (i := i) (by have := HXL.out; omega)
          rw [hx] at hz
          injection hz with hz
          rw [hz]
          exact hd
        have hdy : Y.drop i = y :: Y.drop (i + 1) := by
          obtain ⟨z, hz, hd⟩ := drop_get (L := Y) (i := i) (by have := HYL.out; omega)
          rw [hy] at hz
          injection hz with hz
          rw [hz]
          exact hd
        have H4 := toHid (show R = (sameP x y && eqB sameP (X.drop (i + 1)) (Y.drop (i + 1))) by rw [HFE.out, hdx, hdy]; rfl)
        have HC : Hid (∀ W, Below w.heap.size w W → Calls Tryz.prog 72 #[.agg #[.string p.name, .int .i64 p.k, .int .i64 p.n, .string p.s, .slice p.a p.l p.c], .agg #[.string q.name, .int .i64 q.k, .int .i64 q.n, .string q.s, .slice q.a q.l q.c]] W fun e w' => e = .returned (.bool (sameP x y)) ∧ Below W.heap.size W w') := fun W kW => HF.out p x q y W (List.mem_of_getElem? hx) (List.mem_of_getElem? hy) (hpx.below kW) (hqy.below kW)
        clear hc hc' hp hq hx hy hpx hqy c0 c1 c2 c3 c4 e0 e1 e2 e3 e4 qq qq2 hdx hdy HFE
        have hil : (i : Int) < l := by omega
        have hz : w.heap.size ≤ wr.heap.size := hbw.size
        have hbr : b' < wr.heap.size := by omega
        have hbx : Below w.heap.size w ((wr.alloc (.cells #[.string p.name, .int .i64 p.k, .int .i64 p.n, .string p.s, .slice p.a p.l p.c] 62)).alloc (.cells #[.string q.name, .int .i64 q.k, .int .i64 q.n, .string q.s, .slice q.a q.l q.c] 62)) := (hbw.alloc hz _).alloc (by simp; omega) _
        have HBX := toHid hbx
        clear hbx
        go_wp2_with fail
        refine (HC.out _ HBX.out).mono ?_
        rintro e w2 ⟨rfl, k2⟩
        have hb2 := HBX.out.trans (k2.mono HBX.out.size)
        clear k2 d0 d1 d2 d3 d4 f0 f1 f2 f3 f4
        cases hs : sameP x y with
        | true =>
          have H5 := toHid (show R = eqB sameP (X.drop (i + 1)) (Y.drop (i + 1)) by rw [H4.out, hs]; simp)
          clear H4 hs
          go_wp2_with fail
          go_roundg (l - (i + 1))
          case measure => omega
          case rel => exact ⟨i + 1, by omega, by omega, by go_num, hb2, H5.out⟩
        | false =>
          have H5 := toHid (show R = false by rw [H4.out, hs]; simp)
          clear H4 hs
          go_wp2_with fail
          go_ret
          exact ⟨ret_bool (by rw [H5.out]), hb2⟩
      · have H3 := toHid (show R = true by rw [HFE.out, List.drop_eq_nil_of_le (by have := HXL.out; omega), List.drop_eq_nil_of_le (by have := HYL.out; omega)]; rfl)
        clear HFE
        go_wp2_with fail
        go_ret
        exact ⟨ret_bool (by rw [H3.out]), hbw⟩
  · have hne' : ((l : Int) != (l' : Int)) = true := by simp; omega
    have H3 := toHid (show R = false by rw [HR.out]; exact eqB_length _ _ _ (fun h => hne (by have := HXL.out; have := HYL.out; omega)))
    clear HR hne
    go_enter Tryz.func71, Tryz.ntmps71
    go_wp2_with fail
    go_ret
    exact ⟨ret_bool (by rw [H3.out]), Below.refl _ _⟩

def eqS (L M : List ByteArray) : Bool := eqB (fun x y => x.toList == y.toList) L M
def sameN (x y : AN) : Bool := (x.id == y.id) && (eqS x.labs y.labs && eqB sameP x.props y.props)
def sameE (x y : AE) : Bool := (x.id == y.id) && ((x.frm == y.frm) && ((x.dst == y.dst) && ((x.typ.toList == y.typ.toList) && eqB sameP x.props y.props)))

set_option maxHeartbeats 4000000 in
set_option maxRecDepth 100000 in
theorem equal_strs (L M : List ByteArray) (a : Option Addr) (l c : Nat) (a' : Option Addr) (l' c' : Nat) (w : World) (h : StrsAt w L a l) (h' : StrsAt w M a' l') :
    Calls Tryz.prog 42 #[.slice a l c, .slice a' l' c'] w fun e w' => e = .returned (.bool (eqS L M)) ∧ Below w.heap.size w w' := by
  obtain ⟨R, hR⟩ : ∃ R, R = eqS L M := ⟨_, rfl⟩
  rw [← hR]
  have HR := toHid hR
  obtain ⟨hl, hmx, hat⟩ := h
  obtain ⟨hl', hmx', hat'⟩ := h'
  have HL := toHid hl
  have HL' := toHid hl'
  have HAT := toHid hat
  have HAT' := toHid hat'
  clear hR hl hl' hat hat'
  by_cases hne : l = l'
  · have H3 := toHid (show R = eqS (L.drop 0) (M.drop 0) from HR.out)
    clear HR
    subst hne
    go_enter Tryz.func42, Tryz.ntmps42
    go_wp2_with fail
    go_loopg [13] l (fun g s13 wr => ∃ i : Nat, i ≤ l ∧ l - i ≤ g ∧ s13 = .int .i64 i ∧ Below w.heap.size w wr ∧ R = eqS (L.drop i) (M.drop i))
    case atStart => exact ⟨0, Nat.zero_le _, by omega, rfl, Below.refl _ _, H3.out⟩
    case round =>
      clear H3
      obtain ⟨i, hi, hg, rfl, hbw, hfe⟩ := hrel
      have HF := toHid hfe
      clear hfe
      by_cases hlt : i < l
      · obtain ⟨b, off, ha, hb, hc⟩ := HAT.out (by omega)
        obtain ⟨b', off', ha', hb', hc'⟩ := HAT'.out (by omega)
        subst ha ha'
        obtain ⟨x, hx, hd⟩ := drop_get (L := L) (i := i) (by have := HL.out; omega)
        obtain ⟨x', hx', hd'⟩ := drop_get (L := M) (i := i) (by have := HL'.out; omega)
        have d0 := (hbw.cell (p := ⟨b, off + i, none⟩) hb).trans (hc i x hx).2
        have d1 := (hbw.cell (p := ⟨b', off' + i, none⟩) hb').trans (hc' i x' hx').2
        have H4 := toHid (show R = ((x.toList == x'.toList) && eqS (L.drop (i + 1)) (M.drop (i + 1))) by rw [HF.out, hd, hd']; rfl)
        clear hc hc' hd hd' hx hx' HF
        cases hxx : (x.toList == x'.toList) with
        | true =>
          have hq : (x.toList != x'.toList) = false := by simp [bne, hxx]
          have H3 := toHid (show R = eqS (L.drop (i + 1)) (M.drop (i + 1)) by rw [H4.out, hxx]; rfl)
          clear H4
          go_wp2_with fail
          go_quiet (fail)
          go_wp2_with fail
          go_roundg (l - (i + 1))
          case measure => omega
          case rel => exact ⟨i + 1, by omega, by omega, by go_num, hbw.trans ((below_drewN _ _).mono hbw.size), H3.out⟩
        | false =>
          have hq : (x.toList != x'.toList) = true := by simp [bne, hxx]
          have H3 := toHid (show R = false by rw [H4.out, hxx]; rfl)
          clear H4
          go_wp2_with fail
          go_quiet (fail)
          go_wp2_with fail
          go_ret
          exact ⟨ret_bool (by rw [H3.out]), hbw.trans ((below_drewN _ _).mono hbw.size)⟩
      · have H3 := toHid (show R = true by rw [HF.out, List.drop_eq_nil_of_le (by have := HL.out; omega), List.drop_eq_nil_of_le (by have := HL'.out; omega)]; rfl)
        clear HF
        go_wp2_with fail
        go_ret
        exact ⟨ret_bool (by rw [H3.out]), hbw⟩
  · have hne' : ((l : Int) != (l' : Int)) = true := by simp; omega
    have H3 := toHid (show R = false by rw [HR.out]; exact eqB_length _ _ _ (fun h => hne (by have := HL.out; have := HL'.out; omega)))
    clear HR hne
    go_enter Tryz.func42, Tryz.ntmps42
    go_wp2_with fail
    go_ret
    exact ⟨ret_bool (by rw [H3.out]), Below.refl _ _⟩

set_option maxHeartbeats 2000000 in
theorem sameProps_ref (X Y : List AP) (a : Option Addr) (l c : Nat) (a' : Option Addr) (l' c' : Nat) (w : World) (h : PsAt w X a l) (h' : PsAt w Y a' l') (hX : ∀ x ∈ X, x.ok) (hY : ∀ x ∈ Y, x.ok) :
    Calls Tryz.prog 43 #[.slice a l c, .slice a' l' c'] w fun e w' => e = .returned (.bool (eqB sameP X Y)) ∧ Below w.heap.size w w' := by
  have HC := toHid (equalR_any X Y a l c a' l' c' w h h' (fun p x q y W hx hy hp hq => sameRef_any p x q y W hp hq (hX x hx) (hY y hy)))
  clear h h' hX hY
  go_enter Tryz.func43, Tryz.ntmps43
  go_wp2_with fail
  refine HC.out.mono ?_
  rintro e w1 ⟨rfl, k1⟩
  go_wp2_with fail
  go_ret
  exact ⟨rfl, k1⟩

set_option maxHeartbeats 4000000 in
set_option maxRecDepth 100000 in
theorem sameNode_ref (p : Nd) (x : AN) (q : Nd) (y : AN) (w : World) (h : NdIn w p x) (h' : NdIn w q y) (hx : x.ok) (hy : y.ok) :
    Calls Tryz.prog 26 #[.agg #[.int .i64 p.id, .slice p.la p.ll p.lc, .slice p.pa p.pl p.pc], .agg #[.int .i64 q.id, .slice q.la q.ll q.lc, .slice q.pa q.pl q.pc]] w fun e w' => e = .returned (.bool (sameN x y)) ∧ Below w.heap.size w w' := by
  obtain ⟨R, hR⟩ : ∃ R, R = sameN x y := ⟨_, rfl⟩
  rw [← hR]
  obtain ⟨h1, h2, h3, h4, h5⟩ := h
  obtain ⟨g1, g2, g3, g4, g5⟩ := h'
  obtain ⟨s1, hs1⟩ : ∃ z, z = eqS x.labs y.labs := ⟨_, rfl⟩
  obtain ⟨s2, hs2⟩ : ∃ z, z = eqB sameP x.props y.props := ⟨_, rfl⟩
  have HR : Hid (R = ((p.id == q.id) && (s1 && s2))) := by rw [hR, h1, g1, hs1, hs2]; rfl
  have HL : Hid (∀ W, Below w.heap.size w W → Calls Tryz.prog 42 #[.slice p.la p.ll p.lc, .slice q.la q.ll q.lc] W fun e w' => e = .returned (.bool s1) ∧ Below W.heap.size W w') := by
    intro W kW
    rw [hs1, ← h2, ← g2]
    exact equal_strs p.labs q.labs p.la p.ll p.lc q.la q.ll q.lc W (h3.below kW) (g3.below kW)
  have HP : Hid (∀ W, Below w.heap.size w W → Calls Tryz.prog 43 #[.slice p.pa p.pl p.pc, .slice q.pa q.pl q.pc] W fun e w' => e = .returned (.bool s2) ∧ Below W.heap.size W w') := by
    intro W kW
    rw [hs2]
    exact sameProps_ref x.props y.props p.pa p.pl p.pc q.pa q.pl q.pc W (PsAt.below ⟨_, h4, h5⟩ kW) (PsAt.below ⟨_, g4, g5⟩ kW) hx.2.2 hy.2.2
  clear hR h1 h2 h3 h4 h5 g1 g2 g3 g4 g5 hx hy hs1 hs2
  have hb0 : Below w.heap.size w ((w.alloc (.cells #[.int .i64 p.id, .slice p.la p.ll p.lc, .slice p.pa p.pl p.pc] 49)).alloc (.cells #[.int .i64 q.id, .slice q.la q.ll q.lc, .slice q.pa q.pl q.pc] 49)) := ((Below.refl _ _).alloc (Nat.le_refl _) _).alloc (by simp) _
  have HB0 := toHid hb0
  have z0 : ((w.alloc (.cells #[.int .i64 p.id, .slice p.la p.ll p.lc, .slice p.pa p.pl p.pc] 49)).alloc (.cells #[.int .i64 q.id, .slice q.la q.ll q.lc, .slice q.pa q.pl q.pc] 49)).heap.size = w.heap.size + 2 := by simp
  have hu := (Below.heap_alloc (w.alloc (.cells #[.int .i64 p.id, .slice p.la p.ll p.lc, .slice p.pa p.pl p.pc] 49)) (.cells #[.int .i64 q.id, .slice q.la q.ll q.lc, .slice q.pa q.pl q.pc] 49) w.heap.size (by simp)).trans (alloc_new w (.cells #[.int .i64 p.id, .slice p.la p.ll p.lc, .slice p.pa p.pl p.pc] 49))
  have hv := alloc_two w (.cells #[.int .i64 p.id, .slice p.la p.ll p.lc, .slice p.pa p.pl p.pc] 49) (.cells #[.int .i64 q.id, .slice q.la q.ll q.lc, .slice q.pa q.pl q.pc] 49)
  have HU := toHid hu
  have HV := toHid hv
  have HZ := toHid z0
  clear hb0 z0 hu hv
  cases he : (p.id == q.id) with
  | false =>
    have H3 := toHid (show R = false by rw [HR.out, he]; rfl)
    clear HR HL HP
    go_enter Tryz.func26, Tryz.ntmps26
    go_wp2_with fail
    go_ret
    exact ⟨ret_bool (by rw [H3.out]), HB0.out⟩
  | true =>
    go_enter Tryz.func26, Tryz.ntmps26
    go_wp2_with fail
    refine (HL.out _ HB0.out).mono ?_
    generalize (w.alloc (.cells #[.int .i64 p.id, .slice p.la p.ll p.lc, .slice p.pa p.pl p.pc] 49)).alloc (.cells #[.int .i64 q.id, .slice q.la q.ll q.lc, .slice q.pa q.pl q.pc] 49) = W0 at HB0 HU HV HZ ⊢
    rintro e w1 ⟨rfl, k1⟩
    have hb1 := HB0.out.trans (k1.mono HB0.out.size)
    have u2 := cell_of ((k1.block w.heap.size (by rw [HZ.out]; omega)).trans HU.out) 2
    have v2 := cell_of ((k1.block (w.heap.size + 1) (by rw [HZ.out]; omega)).trans HV.out) 2
    simp at u2 v2
    clear k1
    cases s1 with
    | false =>
      have H3 := toHid (show R = false by rw [HR.out, he]; rfl)
      clear HR
      go_wp2_with fail
      go_ret
      exact ⟨ret_bool (by rw [H3.out]), hb1⟩
    | true =>
      have H3 := toHid (show R = s2 by rw [HR.out, he]; rfl)
      clear HR
      go_wp2_with fail
      refine (HP.out _ hb1).mono ?_
      rintro e w2 ⟨rfl, k2⟩
      have hb2 := hb1.trans (k2.mono hb1.size)
      clear k2
      go_wp2_with fail
      go_ret
      exact ⟨ret_bool (by rw [H3.out]), hb2⟩

set_option maxHeartbeats 4000000 in
set_option maxRecDepth 100000 in
theorem sameEdge_ref (p : Ed) (x : AE) (q : Ed) (y : AE) (w : World) (h : EdIn w p x) (h' : EdIn w q y) (hx : x.ok) (hy : y.ok) :
    Calls Tryz.prog 28 #[.agg #[.int .i64 p.id, .int .i64 p.frm, .int .i64 p.dst, .string p.typ, .slice p.pa p.pl p.pc], .agg #[.int .i64 q.id, .int .i64 q.frm, .int .i64 q.dst, .string q.typ, .slice q.pa q.pl q.pc]] w fun e w' => e = .returned (.bool (sameE x y)) ∧ Below w.heap.size w w' := by
  obtain ⟨R, hR⟩ : ∃ R, R = sameE x y := ⟨_, rfl⟩
  rw [← hR]
  obtain ⟨h1, h2, h3, h4, _, h5, h6⟩ := h
  obtain ⟨g1, g2, g3, g4, _, g5, g6⟩ := h'
  obtain ⟨s2, hs2⟩ : ∃ z, z = eqB sameP x.props y.props := ⟨_, rfl⟩
  have HR : Hid (R = ((p.id == q.id) && ((p.frm == q.frm) && ((p.dst == q.dst) && ((p.typ.toList == q.typ.toList) && s2))))) := by rw [hR, h1, g1, h2, g2, h3, g3, h4, g4, hs2]; rfl
  have HP : Hid (∀ W, Below w.heap.size w W → Calls Tryz.prog 43 #[.slice p.pa p.pl p.pc, .slice q.pa q.pl q.pc] W fun e w' => e = .returned (.bool s2) ∧ Below W.heap.size W w') := by
    intro W kW
    rw [hs2]
    exact sameProps_ref x.props y.props p.pa p.pl p.pc q.pa q.pl q.pc W (PsAt.below ⟨_, h5, h6⟩ kW) (PsAt.below ⟨_, g5, g6⟩ kW) hx.2 hy.2
  clear hR h1 h2 h3 h4 h5 h6 g1 g2 g3 g4 g5 g6 hx hy hs2
  have hb0 : Below w.heap.size w ((w.alloc (.cells #[.int .i64 p.id, .int .i64 p.frm, .int .i64 p.dst, .string p.typ, .slice p.pa p.pl p.pc] 53)).alloc (.cells #[.int .i64 q.id, .int .i64 q.frm, .int .i64 q.dst, .string q.typ, .slice q.pa q.pl q.pc] 53)) := ((Below.refl _ _).alloc (Nat.le_refl _) _).alloc (by simp) _
  have HB0 := toHid hb0
  clear hb0
  cases e1 : (p.id == q.id) with
  | false =>
    have H3 := toHid (show R = false by rw [HR.out]; simp [e1])
    clear HR HP
    go_enter Tryz.func28, Tryz.ntmps28
    go_wp2_with fail
    go_ret
    exact ⟨ret_bool (by rw [H3.out]), HB0.out⟩
  | true =>
    cases e2 : (p.frm == q.frm) with
    | false =>
      have H3 := toHid (show R = false by rw [HR.out]; simp [e1, e2])
      clear HR HP
      go_enter Tryz.func28, Tryz.ntmps28
      go_wp2_with fail
      go_ret
      exact ⟨ret_bool (by rw [H3.out]), HB0.out⟩
    | true =>
      cases e3 : (p.dst == q.dst) with
      | false =>
        have H3 := toHid (show R = false by rw [HR.out]; simp [e1, e2, e3])
        clear HR HP
        go_enter Tryz.func28, Tryz.ntmps28
        go_wp2_with fail
        go_ret
        exact ⟨ret_bool (by rw [H3.out]), HB0.out⟩
      | true =>
        cases e4 : (p.typ.toList == q.typ.toList) with
        | false =>
          have H3 := toHid (show R = false by rw [HR.out]; simp [e1, e2, e3, e4])
          clear HR HP
          go_enter Tryz.func28, Tryz.ntmps28
          go_wp2_with fail
          go_ret
          exact ⟨ret_bool (by rw [H3.out]), HB0.out⟩
        | true =>
          have H3 := toHid (show R = s2 by rw [HR.out, e1, e2, e3, e4]; rfl)
          clear HR
          go_enter Tryz.func28, Tryz.ntmps28
          go_wp2_with fail
          refine (HP.out _ HB0.out).mono ?_
          rintro e w2 ⟨rfl, k2⟩
          have hb2 := HB0.out.trans (k2.mono HB0.out.size)
          clear k2
          go_wp2_with fail
          go_ret
          exact ⟨ret_bool (by rw [H3.out]), hb2⟩

set_option maxHeartbeats 4000000 in
set_option maxRecDepth 100000 in
theorem equalN_any (X Y : List AN) (a : Option Addr) (l c : Nat) (a' : Option Addr) (l' c' : Nat) (w : World) (h : NsAt w X a l) (h' : NsAt w Y a' l')
    (hF : ∀ p x q y W, x ∈ X → y ∈ Y → NdIn W p x → NdIn W q y → Calls Tryz.prog 26 #[.agg #[.int .i64 p.id, .slice p.la p.ll p.lc, .slice p.pa p.pl p.pc], .agg #[.int .i64 q.id, .slice q.la q.ll q.lc, .slice q.pa q.pl q.pc]] W fun e w' => e = .returned (.bool (sameN x y)) ∧ Below W.heap.size W w') :
    Calls Tryz.prog 25 #[.slice a l c, .slice a' l' c', .func (.func 26) #[] #[]] w fun e w' => e = .returned (.bool (eqB sameN X Y)) ∧ Below w.heap.size w w' := by
  obtain ⟨R, hR⟩ : ∃ R, R = eqB sameN X Y := ⟨_, rfl⟩
  rw [← hR]
  have HR := toHid hR
  obtain ⟨P, ⟨hl, hmx, hat⟩, hp⟩ := h
  obtain ⟨Q, ⟨hl', hmx', hat'⟩, hq⟩ := h'
  have HL := toHid hl
  have HL' := toHid hl'
  have HAT := toHid hat
  have HAT' := toHid hat'
  have HP := toHid hp
  have HQ := toHid hq
  have HF := toHid hF
  have HXL : Hid (X.length = l) := by rw [HL.out]; exact HP.out.1.symm
  have HYL : Hid (Y.length = l') := by rw [HL'.out]; exact HQ.out.1.symm
  clear hR hl hl' hat hat' hp hq hF
  by_cases hne : l = l'
  · have H3 := toHid (show R = eqB sameN (X.drop 0) (Y.drop 0) from HR.out)
    clear HR
    subst hne
    go_enter Tryz.func25, Tryz.ntmps25
    go_wp2_with fail
    go_loopg [17] l (fun g s17 wr => ∃ i : Nat, i ≤ l ∧ l - i ≤ g ∧ s17 = .int .i64 i ∧ Below w.heap.size w wr ∧ R = eqB sameN (X.drop i) (Y.drop i))
    case atStart => exact ⟨0, Nat.zero_le _, by omega, rfl, Below.refl _ _, H3.out⟩
    case round =>
      clear H3
      obtain ⟨i, hi, hg, rfl, hbw, hfe⟩ := hrel
      have HFE := toHid hfe
      clear hfe
      by_cases hlt : i < l
      · obtain ⟨b, off, ha, hb, hc⟩ := HAT.out (by omega)
        obtain ⟨b', off', ha', hb', hc'⟩ := HAT'.out (by omega)
        subst ha ha'
        obtain ⟨p, hp, _⟩ := drop_get (L := P) (i := i) (by have := HL.out; omega)
        obtain ⟨q, hq, _⟩ := drop_get (L := Q) (i := i) (by have := HL'.out; omega)
        obtain ⟨x, hx, hpx⟩ := HP.out.left hp
        obtain ⟨y, hy, hqy⟩ := HQ.out.left hq
        obtain ⟨c0, c1, c2⟩ := hc i p hp
        obtain ⟨e0, e1, e2⟩ := hc' i q hq
        have qq : ∀ o, wr.cell? ⟨b, o, none⟩ = w.cell? ⟨b, o, none⟩ := fun o => hbw.cell (p := ⟨b, o, none⟩) hb
        have qq2 : ∀ o, wr.cell? ⟨b', o, none⟩ = w.cell? ⟨b', o, none⟩ := fun o => hbw.cell (p := ⟨b', o, none⟩) hb'
        have d0 := (qq _).trans c0
        have d1 := (qq _).trans c1
        have d2 := (qq _).trans c2
        have f0 := (qq2 _).trans e0
        have f1 := (qq2 _).trans e1
        have f2 := (qq2 _).trans e2
        have hdx : X.drop i = x :: X.drop (i + 1) := by
          obtain ⟨z, hz, hd⟩ := drop_get (L := X) (i := i) (by have := HXL.out; omega)
          rw [hx] at hz
          injection hz with hz
          rw [hz]
          exact hd
        have hdy : Y.drop i = y :: Y.drop (i + 1) := by
          obtain ⟨z, hz, hd⟩ := drop_get (L := Y) (i := i) (by have := HYL.out; omega)
          rw [hy] at hz
          injection hz with hz
          rw [hz]
          exact hd
        have H4 := toHid (show R = (sameN x y && eqB sameN (X.drop (i + 1)) (Y.drop (i + 1))) by rw [HFE.out, hdx, hdy]; rfl)
        have HC : Hid (∀ W, Below w.heap.size w W → Calls Tryz.prog 26 #[.agg #[.int .i64 p.id, .slice p.la p.ll p.lc, .slice p.pa p.pl p.pc], .agg #[.int .i64 q.id, .slice q.la q.ll q.lc, .slice q.pa q.pl q.pc]] W fun e w' => e = .returned (.bool (sameN x y)) ∧ Below W.heap.size W w') := fun W kW => HF.out p x q y W (List.mem_of_getElem? hx) (List.mem_of_getElem? hy) (hpx.below kW) (hqy.below kW)
        clear hc hc' hp hq hx hy hpx hqy c0 c1 c2 e0 e1 e2 qq qq2 hdx hdy HFE
        have hil : (i : Int) < l := by omega
        have hz : w.heap.size ≤ wr.heap.size := hbw.size
        have hbr : b' < wr.heap.size := by omega
        have hbx : Below w.heap.size w ((wr.alloc (.cells #[.int .i64 p.id, .slice p.la p.ll p.lc, .slice p.pa p.pl p.pc] 49)).alloc (.cells #[.int .i64 q.id, .slice q.la q.ll q.lc, .slice q.pa q.pl q.pc] 49)) := (hbw.alloc hz _).alloc (by simp; omega) _
        have HBX := toHid hbx
        clear hbx
        go_wp2_with fail
        refine (HC.out _ HBX.out).mono ?_
        rintro e w2 ⟨rfl, k2⟩
        have hb2 := HBX.out.trans (k2.mono HBX.out.size)
        clear k2 d0 d1 d2 f0 f1 f2
        cases hs : sameN x y with
        | true =>
          have H5 := toHid (show R = eqB sameN (X.drop (i + 1)) (Y.drop (i + 1)) by rw [H4.out, hs]; simp)
          clear H4 hs
          go_wp2_with fail
          go_roundg (l - (i + 1))
          case measure => omega
          case rel => exact ⟨i + 1, by omega, by omega, by go_num, hb2, H5.out⟩
        | false =>
          have H5 := toHid (show R = false by rw [H4.out, hs]; simp)
          clear H4 hs
          go_wp2_with fail
          go_ret
          exact ⟨ret_bool (by rw [H5.out]), hb2⟩
      · have H3 := toHid (show R = true by rw [HFE.out, List.drop_eq_nil_of_le (by have := HXL.out; omega), List.drop_eq_nil_of_le (by have := HYL.out; omega)]; rfl)
        clear HFE
        go_wp2_with fail
        go_ret
        exact ⟨ret_bool (by rw [H3.out]), hbw⟩
  · have hne' : ((l : Int) != (l' : Int)) = true := by simp; omega
    have H3 := toHid (show R = false by rw [HR.out]; exact eqB_length _ _ _ (fun h => hne (by have := HXL.out; have := HYL.out; omega)))
    clear HR hne
    go_enter Tryz.func25, Tryz.ntmps25
    go_wp2_with fail
    go_ret
    exact ⟨ret_bool (by rw [H3.out]), Below.refl _ _⟩

set_option maxHeartbeats 4000000 in
set_option maxRecDepth 100000 in
theorem equalE_any (X Y : List AE) (a : Option Addr) (l c : Nat) (a' : Option Addr) (l' c' : Nat) (w : World) (h : EsAt w X a l) (h' : EsAt w Y a' l')
    (hF : ∀ p x q y W, x ∈ X → y ∈ Y → EdIn W p x → EdIn W q y → Calls Tryz.prog 28 #[.agg #[.int .i64 p.id, .int .i64 p.frm, .int .i64 p.dst, .string p.typ, .slice p.pa p.pl p.pc], .agg #[.int .i64 q.id, .int .i64 q.frm, .int .i64 q.dst, .string q.typ, .slice q.pa q.pl q.pc]] W fun e w' => e = .returned (.bool (sameE x y)) ∧ Below W.heap.size W w') :
    Calls Tryz.prog 27 #[.slice a l c, .slice a' l' c', .func (.func 28) #[] #[]] w fun e w' => e = .returned (.bool (eqB sameE X Y)) ∧ Below w.heap.size w w' := by
  obtain ⟨R, hR⟩ : ∃ R, R = eqB sameE X Y := ⟨_, rfl⟩
  rw [← hR]
  have HR := toHid hR
  obtain ⟨P, ⟨hl, hmx, hat⟩, hp⟩ := h
  obtain ⟨Q, ⟨hl', hmx', hat'⟩, hq⟩ := h'
  have HL := toHid hl
  have HL' := toHid hl'
  have HAT := toHid hat
  have HAT' := toHid hat'
  have HP := toHid hp
  have HQ := toHid hq
  have HF := toHid hF
  have HXL : Hid (X.length = l) := by rw [HL.out]; exact HP.out.1.symm
  have HYL : Hid (Y.length = l') := by rw [HL'.out]; exact HQ.out.1.symm
  clear hR hl hl' hat hat' hp hq hF
  by_cases hne : l = l'
  · have H3 := toHid (show R = eqB sameE (X.drop 0) (Y.drop 0) from HR.out)
    clear HR
    subst hne
    go_enter Tryz.func27, Tryz.ntmps27
    go_wp2_with fail
    go_loopg [17] l (fun g s17 wr => ∃ i : Nat, i ≤ l ∧ l - i ≤ g ∧ s17 = .int .i64 i ∧ Below w.heap.size w wr ∧ R = eqB sameE (X.drop i) (Y.drop i))
    case atStart => exact ⟨0, Nat.zero_le _, by omega, rfl, Below.refl _ _, H3.out⟩
    case round =>
      clear H3
      obtain ⟨i, hi, hg, rfl, hbw, hfe⟩ := hrel
      have HFE := toHid hfe
      clear hfe
      by_cases hlt : i < l
      · obtain ⟨b, off, ha, hb, hc⟩ := HAT.out (by omega)
        obtain ⟨b', off', ha', hb', hc'⟩ := HAT'.out (by omega)
        subst ha ha'
        obtain ⟨p, hp, _⟩ := drop_get (L := P) (i := i) (by have := HL.out; omega)
        obtain ⟨q, hq, _⟩ := drop_get (L := Q) (i := i) (by have := HL'.out; omega)
        obtain ⟨x, hx, hpx⟩ := HP.out.left hp
        obtain ⟨y, hy, hqy⟩ := HQ.out.left hq
        obtain ⟨hsz, c0, c1, c2, c3, c4⟩ := hc i p hp
        obtain ⟨hsz2, e0, e1, e2, e3, e4⟩ := hc' i q hq
        have qq : ∀ o, wr.cell? ⟨b, o, none⟩ = w.cell? ⟨b, o, none⟩ := fun o => hbw.cell (p := ⟨b, o, none⟩) hb
        have qq2 : ∀ o, wr.cell? ⟨b', o, none⟩ = w.cell? ⟨b', o, none⟩ := fun o => hbw.cell (p := ⟨b', o, none⟩) hb'
        have d0 := (qq _).trans c0
        have d1 := (qq _).trans c1
        have d2 := (qq _).trans c2
        have d3 := (qq _).trans c3
        have d4 := (qq _).trans c4
        have f0 := (qq2 _).trans e0
        have f1 := (qq2 _).trans e1
        have f2 := (qq2 _).trans e2
        have f3 := (qq2 _).trans e3
        have f4 := (qq2 _).trans e4
        have hdx : X.drop i = x :: X.drop (i + 1) := by
          obtain ⟨z, hz, hd⟩ := drop_get (L := X) (i := i) (by have := HXL.out; omega)
          rw [hx] at hz
          injection hz with hz
          rw [hz]
          exact hd
        have hdy : Y.drop i = y :: Y.drop (i + 1) := by
          obtain ⟨z, hz, hd⟩ := drop_get (L := Y) (i := i) (by have := HYL.out; omega)
          rw [hy] at hz
          injection hz with hz
          rw [hz]
          exact hd
        have H4 := toHid (show R = (sameE x y && eqB sameE (X.drop (i + 1)) (Y.drop (i + 1))) by rw [HFE.out, hdx, hdy]; rfl)
        have HC : Hid (∀ W, Below w.heap.size w W → Calls Tryz.prog 28 #[.agg #[.int .i64 p.id, .int .i64 p.frm, .int .i64 p.dst, .string p.typ, .slice p.pa p.pl p.pc], .agg #[.int .i64 q.id, .int .i64 q.frm, .int .i64 q.dst, .string q.typ, .slice q.pa q.pl q.pc]] W fun e w' => e = .returned (.bool (sameE x y)) ∧ Below W.heap.size W w') := fun W kW => HF.out p x q y W (List.mem_of_getElem? hx) (List.mem_of_getElem? hy) (hpx.below kW) (hqy.below kW)
        clear hc hc' hp hq hx hy hpx hqy c0 c1 c2 c3 c4 e0 e1 e2 e3 e4 qq qq2 hdx hdy HFE
        have hil : (i : Int) < l := by omega
        have hz : w.heap.size ≤ wr.heap.size := hbw.size
        have hbr : b' < wr.heap.size := by omega
        have hbx : Below w.heap.size w ((wr.alloc (.cells #[.int .i64 p.id, .int .i64 p.frm, .int .i64 p.dst, .string p.typ, .slice p.pa p.pl p.pc] 53)).alloc (.cells #[.int .i64 q.id, .int .i64 q.frm, .int .i64 q.dst, .string q.typ, .slice q.pa q.pl q.pc] 53)) := (hbw.alloc hz _).alloc (by simp; omega) _
        have HBX := toHid hbx
        clear hbx
        go_wp2_with fail
        refine (HC.out _ HBX.out).mono ?_
        rintro e w2 ⟨rfl, k2⟩
        have hb2 := HBX.out.trans (k2.mono HBX.out.size)
        clear k2 d0 d1 d2 d3 d4 f0 f1 f2 f3 f4
        cases hs : sameE x y with
        | true =>
          have H5 := toHid (show R = eqB sameE (X.drop (i + 1)) (Y.drop (i + 1)) by rw [H4.out, hs]; simp)
          clear H4 hs
          go_wp2_with fail
          go_roundg (l - (i + 1))
          case measure => omega
          case rel => exact ⟨i + 1, by omega, by omega, by go_num, hb2, H5.out⟩
        | false =>
          have H5 := toHid (show R = false by rw [H4.out, hs]; simp)
          clear H4 hs
          go_wp2_with fail
          go_ret
          exact ⟨ret_bool (by rw [H5.out]), hb2⟩
      · have H3 := toHid (show R = true by rw [HFE.out, List.drop_eq_nil_of_le (by have := HXL.out; omega), List.drop_eq_nil_of_le (by have := HYL.out; omega)]; rfl)
        clear HFE
        go_wp2_with fail
        go_ret
        exact ⟨ret_bool (by rw [H3.out]), hbw⟩
  · have hne' : ((l : Int) != (l' : Int)) = true := by simp; omega
    have H3 := toHid (show R = false by rw [HR.out]; exact eqB_length _ _ _ (fun h => hne (by have := HXL.out; have := HYL.out; omega)))
    clear HR hne
    go_enter Tryz.func27, Tryz.ntmps27
    go_wp2_with fail
    go_ret
    exact ⟨ret_bool (by rw [H3.out]), Below.refl _ _⟩
end Go.Proofs.YthbbapimedlocaaGreatDoor
