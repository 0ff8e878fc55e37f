/-
  What is proved here: what txn.sameProp and espalierref.SameProps' test answer of two properties, and slices.EqualFunc of two rows of them: one plain function.
-/
import Derived.Test.YtakpifphpojbjaaGreatDoorHEachP
import Derived.Test.YtakpifphpojbjaaGreatDoorHOrder
import Derived.Test.YtakpifphpojbjaaGreatDoorGSame
namespace Go.Proofs.YtakpifphpojbjaaGreatDoor
open Go.RowKit
set_option linter.unusedVariables false

/-- Two lists of one length, the same one by one. -/
def eqB {α β : Type} (r : α → β → Bool) : List α → List β → Bool
  | [], [] => true
  | x :: xs, y :: ys => r x y && eqB r xs ys
  | _, _ => false

theorem eqB_length {α β : Type} (r : α → β → Bool) : ∀ (X : List α) (Y : List β), X.length ≠ Y.length → eqB r X Y = false
  | [], [], h => absurd rfl h
  | [], _ :: _, _ => rfl
  | _ :: _, [], _ => rfl
  | x :: xs, y :: ys, h => by
    show (r x y && eqB r xs ys) = false
    rw [eqB_length r xs ys (fun e => h (by simp [e]))]
    simp

def sameP (x y : AP) : Bool := (x.name.toList == y.name.toList) && (ordT x.t y.t == 0)


set_option maxHeartbeats 4000000 in
set_option maxRecDepth 100000 in
theorem sameProp_any (p : Pr) (x : AP) (q : Pr) (y : AP) (w : World) (h : PrIn AnyB w p x) (h' : PrIn AnyB w q y) (hx : x.ok) (hy : y.ok) :
    Calls Tryz.prog 92 #[.agg #[.string p.name, .int .i64 p.k, .int .i64 p.n, .string p.s, .slice p.a p.l p.c], .agg #[.string q.name, .int .i64 q.k, .int .i64 q.n, .string q.s, .slice q.a q.l q.c]] w fun e w' => e = .returned (.bool (sameP x y)) ∧ Below w.heap.size w w' := by
  obtain ⟨R, hR⟩ : ∃ R, R = sameP x y := ⟨_, rfl⟩
  rw [← hR]
  have HR := toHid hR
  clear hR
  obtain ⟨h1, _, _, h2, Lt, h3, h4⟩ := h
  obtain ⟨g1, _, _, g2, Lu, g3, g4⟩ := h'
  have HW : Hid (wtL Lt ≤ 1099511627776 ∧ wtL Lu ≤ 1099511627776) := by
    unfold AP.ok at hx hy
    rw [h3] at hx
    rw [g3] at hy
    unfold wtT at hx hy
    exact toHid ⟨by omega, by omega⟩
  obtain ⟨z, hz⟩ : ∃ z, z = ordT x.t y.t := ⟨_, rfl⟩
  have HC : Hid (∀ W, Below w.heap.size w W → Calls Tryz.prog 141 #[.agg #[.int .i64 p.k, .int .i64 p.n, .string p.s, .slice p.a p.l p.c], .agg #[.int .i64 q.k, .int .i64 q.n, .string q.s, .slice q.a q.l q.c]] W fun e w' => e = .returned (.int .i64 z) ∧ Below W.heap.size W w') := by
    intro W kW
    rw [hz, h3, g3]
    exact order_any p.k p.n p.s p.a p.l p.c q.k q.n q.s q.a q.l q.c Lt Lu W ((LieA.lies _ _ _ h4).below kW) ((LieA.lies _ _ _ g4).below kW) h2 g2 HW.out.1
  have HZ := toHid hz
  have HN : Hid (R = ((p.name.toList == q.name.toList) && (z == 0))) := by rw [HR.out, HZ.out, h1, g1]; rfl
  clear HR h1 h2 h3 h4 g1 g2 g3 g4 hx hy hz
  cases he : (p.name.toList == q.name.toList) with
  | false =>
    have H3 := toHid (show R = false by rw [HN.out, he]; rfl)
    clear HN HC
    go_enter Tryz.func92, Tryz.ntmps92
    go_wp2_with fail
    go_ret
    exact ⟨ret_bool (by rw [H3.out]), ((Below.refl _ _).alloc (Nat.le_refl _) _).alloc (by simp) _⟩
  | true =>
    have H3 := toHid (show R = (z == 0) by rw [HN.out, he]; rfl)
    clear HN
    go_enter Tryz.func92, Tryz.ntmps92
    go_wp2_with fail
    have hb0 : Below w.heap.size w ((w.alloc (.cells #[.string p.name, .int .i64 p.k, .int .i64 p.n, .string p.s, .slice p.a p.l p.c] 99)).alloc (.cells #[.string q.name, .int .i64 q.k, .int .i64 q.n, .string q.s, .slice q.a q.l q.c] 99)) := ((Below.refl _ _).alloc (Nat.le_refl _) _).alloc (by simp) _
    refine (HC.out _ hb0).mono ?_
    rintro e w1 ⟨rfl, k1⟩
    have hb1 := hb0.trans (k1.mono hb0.size)
    clear hb0 k1
    go_wp2_with fail
    go_ret
    exact ⟨ret_bool (by rw [H3.out]), hb1⟩

set_option maxHeartbeats 4000000 in
set_option maxRecDepth 100000 in
theorem sameRef_any (p : Pr) (x : AP) (q : Pr) (y : AP) (w : World) (h : PrIn AnyB w p x) (h' : PrIn AnyB w q y) (hx : x.ok) (hy : y.ok) :
    Calls Tryz.prog 77 #[.agg #[.string p.name, .int .i64 p.k, .int .i64 p.n, .string p.s, .slice p.a p.l p.c], .agg #[.string q.name, .int .i64 q.k, .int .i64 q.n, .string q.s, .slice q.a q.l q.c]] w fun e w' => e = .returned (.bool (sameP x y)) ∧ Below w.heap.size w w' := by
  obtain ⟨R, hR⟩ : ∃ R, R = sameP x y := ⟨_, rfl⟩
  rw [← hR]
  have HR := toHid hR
  clear hR
  obtain ⟨h1, _, _, h2, Lt, h3, h4⟩ := h
  obtain ⟨g1, _, _, g2, Lu, g3, g4⟩ := h'
  have HW : Hid (wtL Lt ≤ 1099511627776 ∧ wtL Lu ≤ 1099511627776) := by
    unfold AP.ok at hx hy
    rw [h3] at hx
    rw [g3] at hy
    unfold wtT at hx hy
    exact toHid ⟨by omega, by omega⟩
  obtain ⟨z, hz⟩ : ∃ z, z = ordT x.t y.t := ⟨_, rfl⟩
  have HC : Hid (∀ W, Below w.heap.size w W → Calls Tryz.prog 38 #[.agg #[.int .i64 p.k, .int .i64 p.n, .string p.s, .slice p.a p.l p.c], .agg #[.int .i64 q.k, .int .i64 q.n, .string q.s, .slice q.a q.l q.c]] W fun e w' => e = .returned (.bool ((z == 0))) ∧ Below W.heap.size W w') := by
    intro W kW
    rw [hz, h3, g3]
    exact same_of p.k p.n p.s p.a p.l p.c q.k q.n q.s q.a q.l q.c (ordT (.node p.k p.n p.s Lt) (.node q.k q.n q.s Lu)) W fun W' kW' => ref_ord63 (wtL Lt) p.k p.n p.s p.a p.l p.c Lt q.k q.n q.s q.a q.l q.c Lu W' (Nat.le_refl _) (by have := HW.out.1; omega) (by have := HW.out.2; omega) (((LieA.lies _ _ _ h4).below kW).below kW') (((LieA.lies _ _ _ g4).below kW).below kW')
  have HZ := toHid hz
  have HN : Hid (R = ((p.name.toList == q.name.toList) && (z == 0))) := by rw [HR.out, HZ.out, h1, g1]; rfl
  clear HR h1 h2 h3 h4 g1 g2 g3 g4 hx hy hz
  cases he : (p.name.toList == q.name.toList) with
  | false =>
    have H3 := toHid (show R = false by rw [HN.out, he]; rfl)
    clear HN HC
    go_enter Tryz.func77, Tryz.ntmps77
    go_wp2_with fail
    go_ret
    exact ⟨ret_bool (by rw [H3.out]), ((Below.refl _ _).alloc (Nat.le_refl _) _).alloc (by simp) _⟩
  | true =>
    have H3 := toHid (show R = (z == 0) by rw [HN.out, he]; rfl)
    clear HN
    go_enter Tryz.func77, Tryz.ntmps77
    go_wp2_with fail
    have hb0 : Below w.heap.size w ((w.alloc (.cells #[.string p.name, .int .i64 p.k, .int .i64 p.n, .string p.s, .slice p.a p.l p.c] 99)).alloc (.cells #[.string q.name, .int .i64 q.k, .int .i64 q.n, .string q.s, .slice q.a q.l q.c] 99)) := ((Below.refl _ _).alloc (Nat.le_refl _) _).alloc (by simp) _
    refine (HC.out _ hb0).mono ?_
    rintro e w1 ⟨rfl, k1⟩
    have hb1 := hb0.trans (k1.mono hb0.size)
    clear hb0 k1
    go_wp2_with fail
    go_ret
    exact ⟨ret_bool (by rw [H3.out]), hb1⟩

set_option maxHeartbeats 4000000 in
set_option maxRecDepth 100000 in
theorem equalP_any (X Y : List AP) (a : Option Addr) (l c : Nat) (a' : Option Addr) (l' c' : Nat) (w : World) (h : PsAt w X a l) (h' : PsAt w Y a' l')
    (hF : ∀ p x q y W, x ∈ X → y ∈ Y → PrIn AnyB W p x → PrIn AnyB W q y → Calls Tryz.prog 92 #[.agg #[.string p.name, .int .i64 p.k, .int .i64 p.n, .string p.s, .slice p.a p.l p.c], .agg #[.string q.name, .int .i64 q.k, .int .i64 q.n, .string q.s, .slice q.a q.l q.c]] W fun e w' => e = .returned (.bool (sameP x y)) ∧ Below W.heap.size W w') :
    Calls Tryz.prog 76 #[.slice a l c, .slice a' l' c', .func (.func 92) #[] #[]] w fun e w' => e = .returned (.bool (eqB sameP X Y)) ∧ Below w.heap.size w w' := by
  obtain ⟨R, hR⟩ : ∃ R, R = eqB sameP X Y := ⟨_, rfl⟩
  rw [← hR]
  have HR := toHid hR
  obtain ⟨P, ⟨hl, hmx, hat⟩, hp⟩ := h
  obtain ⟨Q, ⟨hl', hmx', hat'⟩, hq⟩ := h'
  have HL := toHid hl
  have HL' := toHid hl'
  have HAT := toHid hat
  have HAT' := toHid hat'
  have HP := toHid hp
  have HQ := toHid hq
  have HF := toHid hF
  have HXL : Hid (X.length = l) := by rw [HL.out]; exact HP.out.1.symm
  have HYL : Hid (Y.length = l') := by rw [HL'.out]; exact HQ.out.1.symm
  clear hR hl hl' hat hat' hp hq hF
  by_cases hne : l = l'
  · have H3 := toHid (show R = eqB sameP (X.drop 0) (Y.drop 0) from HR.out)
    clear HR
    subst hne
    go_enter Tryz.func76, Tryz.ntmps76
    go_wp2_with fail
    go_loopg [17] l (fun g s17 wr => ∃ i : Nat, i ≤ l ∧ l - i ≤ g ∧ s17 = .int .i64 i ∧ Below w.heap.size w wr ∧ R = eqB sameP (X.drop i) (Y.drop i))
    case atStart => exact ⟨0, Nat.zero_le _, by omega, rfl, Below.refl _ _, H3.out⟩
    case round =>
      clear H3
      obtain ⟨i, hi, hg, rfl, hbw, hfe⟩ := hrel
      have HFE := toHid hfe
      clear hfe
      by_cases hlt : i < l
      · obtain ⟨b, off, ha, hb, hc⟩ := HAT.out (by omega)
        obtain ⟨b', off', ha', hb', hc'⟩ := HAT'.out (by omega)
        subst ha ha'
        obtain ⟨p, hp, _⟩ := drop_get (L := P) (i := i) (by have := HL.out; omega)
        obtain ⟨q, hq, _⟩ := drop_get (L := Q) (i := i) (by have := HL'.out; omega)
        obtain ⟨x, hx, hpx⟩ := HP.out.left hp
        obtain ⟨y, hy, hqy⟩ := HQ.out.left hq
        obtain ⟨hsz, c0, c1, c2, c3, c4⟩ := hc i p hp
        obtain ⟨hsz2, e0, e1, e2, e3, e4⟩ := hc' i q hq
        have qq : ∀ o, wr.cell? ⟨b, o, none⟩ = w.cell? ⟨b, o, none⟩ := fun o => hbw.cell (p := ⟨b, o, none⟩) hb
        have qq2 : ∀ o, wr.cell? ⟨b', o, none⟩ = w.cell? ⟨b', o, none⟩ := fun o => hbw.cell (p := ⟨b', o, none⟩) hb'
        have d0 := (qq _).trans c0
        have d1 := (qq _).trans c1
        have d2 := (qq _).trans c2
        have d3 := (qq _).trans c3
        have d4 := (qq _).trans c4
        have f0 := (qq2 _).trans e0
        have f1 := (qq2 _).trans e1
        have f2 := (qq2 _).trans e2
        have f3 := (qq2 _).trans e3
        have f4 := (qq2 _).trans e4
        have hdx : X.drop i = x :: X.drop (i + 1) := by
          obtain ⟨z, hz, hd⟩ := drop_get (L := X) (i := i) (by have := HXL.out; omega)
          rw [hx] at hz
          injection hz with hz
          rw [hz]
          exact hd
        have hdy : Y.drop i = y :: Y.drop (i + 1) := by
          obtain ⟨z, hz, hd⟩ := drop_get (L := Y) (i := i) (by have := HYL.out; omega)
          rw [hy] at hz
          injection hz with hz
          rw [hz]
          exact hd
        have H4 := toHid (show R = (sameP x y && eqB sameP (X.drop (i + 1)) (Y.drop (i + 1))) by rw [HFE.out, hdx, hdy]; rfl)
        have HC : Hid (∀ W, Below w.heap.size w W → Calls Tryz.prog 92 #[.agg #[.string p.name, .int .i64 p.k, .int .i64 p.n, .string p.s, .slice p.a p.l p.c], .agg #[.string q.name, .int .i64 q.k, .int .i64 q.n, .string q.s, .slice q.a q.l q.c]] W fun e w' => e = .returned (.bool (sameP x y)) ∧ Below W.heap.size W w') := fun W kW => HF.out p x q y W (List.mem_of_getElem? hx) (List.mem_of_getElem? hy) (hpx.below kW) (hqy.below kW)
        clear hc hc' hp hq hx hy hpx hqy c0 c1 c2 c3 c4 e0 e1 e2 e3 e4 qq qq2 hdx hdy HFE
        have hil : (i : Int) < l := by omega
        have hz : w.heap.size ≤ wr.heap.size := hbw.size
        have hbr : b' < wr.heap.size := by omega
        have hbx : Below w.heap.size w ((wr.alloc (.cells #[.string p.name, .int .i64 p.k, .int .i64 p.n, .string p.s, .slice p.a p.l p.c] 99)).alloc (.cells #[.string q.name, .int .i64 q.k, .int .i64 q.n, .string q.s, .slice q.a q.l q.c] 99)) := (hbw.alloc hz _).alloc (by simp; omega) _
        have HBX := toHid hbx
        clear hbx
        go_wp2_with fail
        refine (HC.out _ HBX.out).mono ?_
        rintro e w2 ⟨rfl, k2⟩
        have hb2 := HBX.out.trans (k2.mono HBX.out.size)
        clear k2 d0 d1 d2 d3 d4 f0 f1 f2 f3 f4
        cases hs : sameP x y with
        | true =>
          have H5 := toHid (show R = eqB sameP (X.drop (i + 1)) (Y.drop (i + 1)) by rw [H4.out, hs]; simp)
          clear H4 hs
          go_wp2_with fail
          go_roundg (l - (i + 1))
          case measure => omega
          case rel => exact ⟨i + 1, by omega, by omega, by go_num, hb2, H5.out⟩
        | false =>
          have H5 := toHid (show R = false by rw [H4.out, hs]; simp)
          clear H4 hs
          go_wp2_with fail
          go_ret
          exact ⟨ret_bool (by rw [H5.out]), hb2⟩
      · have H3 := toHid (show R = true by rw [HFE.out, List.drop_eq_nil_of_le (by have := HXL.out; omega), List.drop_eq_nil_of_le (by have := HYL.out; omega)]; rfl)
        clear HFE
        go_wp2_with fail
        go_ret
        exact ⟨ret_bool (by rw [H3.out]), hbw⟩
  · have hne' : ((l : Int) != (l' : Int)) = true := by simp; omega
    have H3 := toHid (show R = false by rw [HR.out]; exact eqB_length _ _ _ (fun h => hne (by have := HXL.out; have := HYL.out; omega)))
    clear HR hne
    go_enter Tryz.func76, Tryz.ntmps76
    go_wp2_with fail
    go_ret
    exact ⟨ret_bool (by rw [H3.out]), Below.refl _ _⟩

set_option maxHeartbeats 4000000 in
set_option maxRecDepth 100000 in
theorem equalR_any (X Y : List AP) (a : Option Addr) (l c : Nat) (a' : Option Addr) (l' c' : Nat) (w : World) (h : PsAt w X a l) (h' : PsAt w Y a' l')
    (hF : ∀ p x q y W, x ∈ X → y ∈ Y → PrIn AnyB W p x → PrIn AnyB W q y → Calls Tryz.prog 77 #[.agg #[.string p.name, .int .i64 p.k, .int .i64 p.n, .string p.s, .slice p.a p.l p.c], .agg #[.string q.name, .int .i64 q.k, .int .i64 q.n, .string q.s, .slice q.a q.l q.c]] W fun e w' => e = .returned (.bool (sameP x y)) ∧ Below W.heap.size W w') :
    Calls Tryz.prog 76 #[.slice a l c, .slice a' l' c', .func (.func 77) #[] #[]] w fun e w' => e = .returned (.bool (eqB sameP X Y)) ∧ Below w.heap.size w w' := by
  obtain ⟨R, hR⟩ : ∃ R, R = eqB sameP X Y := ⟨_, rfl⟩
  rw [← hR]
  have HR := toHid hR
  obtain ⟨P, ⟨hl, hmx, hat⟩, hp⟩ := h
  obtain ⟨Q, ⟨hl', hmx', hat'⟩, hq⟩ := h'
  have HL := toHid hl
  have HL' := toHid hl'
  have HAT := toHid hat
  have HAT' := toHid hat'
  have HP := toHid hp
  have HQ := toHid hq
  have HF := toHid hF
  have HXL : Hid (X.length = l) := by rw [HL.out]; exact HP.out.1.symm
  have HYL : Hid (Y.length = l') := by rw [HL'.out]; exact HQ.out.1.symm
  clear hR hl hl' hat hat' hp hq hF
  by_cases hne : l = l'
  · have H3 := toHid (show R = eqB sameP (X.drop 0) (Y.drop 0) from HR.out)
    clear HR
    subst hne
    go_enter Tryz.func76, Tryz.ntmps76
    go_wp2_with fail
    go_loopg [17] l (fun g s17 wr => ∃ i : Nat, i ≤ l ∧ l - i ≤ g ∧ s17 = .int .i64 i ∧ Below w.heap.size w wr ∧ R = eqB sameP (X.drop i) (Y.drop i))
    case atStart => exact ⟨0, Nat.zero_le _, by omega, rfl, Below.refl _ _, H3.out⟩
    case round =>
      clear H3
      obtain ⟨i, hi, hg, rfl, hbw, hfe⟩ := hrel
      have HFE := toHid hfe
      clear hfe
      by_cases hlt : i < l
      · obtain ⟨b, off, ha, hb, hc⟩ := HAT.out (by omega)
        obtain ⟨b', off', ha', hb', hc'⟩ := HAT'.out (by omega)
        subst ha ha'
        obtain ⟨p, hp, _⟩ := drop_get (L := P) (i := i) (by have := HL.out; omega)
        obtain ⟨q, hq, _⟩ := drop_get (L := Q) (i := i) (by have := HL'.out; omega)
        obtain ⟨x, hx, hpx⟩ := HP.out.left hp
        obtain ⟨y, hy, hqy⟩ := HQ.out.left hq
        obtain ⟨hsz, c0, c1, c2, c3, c4⟩ := hc i p hp
        obtain ⟨hsz2, e0, e1, e2, e3, e4⟩ := hc' i q hq
        have qq : ∀ o, wr.cell? ⟨b, o, none⟩ = w.cell? ⟨b, o, none⟩ := fun o => hbw.cell (p := ⟨b, o, none⟩) hb
        have qq2 : ∀ o, wr.cell? ⟨b', o, none⟩ = w.cell? ⟨b', o, none⟩ := fun o => hbw.cell (p := ⟨b', o, none⟩) hb'
        have d0 := (qq _).trans c0
        have d1 := (qq _).trans c1
        have d2 := (qq _).trans c2
        have d3 := (qq _).trans c3
        have d4 := (qq _).trans c4
        have f0 := (qq2 _).trans e0
        have f1 := (qq2 _).trans e1
        have f2 := (qq2 _).trans e2
        have f3 := (qq2 _).trans e3
        have f4 := (qq2 _).trans e4
        have hdx : X.drop i = x :: X.drop (i + 1) := by
          obtain ⟨z, hz, hd⟩ := drop_get (L := X) (i := i) (by have := HXL.out; omega)
          rw [hx] at hz
          injection hz with hz
          rw [hz]
          exact hd
        have hdy : Y.drop i = y :: Y.drop (i + 1) := by
          obtain ⟨z, hz, hd⟩ := drop_get (L := Y) (i := i) (by have := HYL.out; omega)
          rw [hy] at hz
          injection hz with hz
          rw [hz]
          exact hd
        have H4 := toHid (show R = (sameP x y && eqB sameP (X.drop (i + 1)) (Y.drop (i + 1))) by rw [HFE.out, hdx, hdy]; rfl)
        have HC : Hid (∀ W, Below w.heap.size w W → Calls Tryz.prog 77 #[.agg #[.string p.name, .int .i64 p.k, .int .i64 p.n, .string p.s, .slice p.a p.l p.c], .agg #[.string q.name, .int .i64 q.k, .int .i64 q.n, .string q.s, .slice q.a q.l q.c]] W fun e w' => e = .returned (.bool (sameP x y)) ∧ Below W.heap.size W w') := fun W kW => HF.out p x q y W (List.mem_of_getElem? hx) (List.mem_of_getElem? hy) (hpx.below kW) (hqy.below kW)
        clear hc hc' hp hq hx hy hpx hqy c0 c1 c2 c3 c4 e0 e1 e2 e3 e4 qq qq2 hdx hdy HFE
        have hil : (i : Int) < l := by omega
        have hz : w.heap.size ≤ wr.heap.size := hbw.size
        have hbr : b' < wr.heap.size := by omega
        have hbx : Below w.heap.size w ((wr.alloc (.cells #[.string p.name, .int .i64 p.k, .int .i64 p.n, .string p.s, .slice p.a p.l p.c] 99)).alloc (.cells #[.string q.name, .int .i64 q.k, .int .i64 q.n, .string q.s, .slice q.a q.l q.c] 99)) := (hbw.alloc hz _).alloc (by simp; omega) _
        have HBX := toHid hbx
        clear hbx
        go_wp2_with fail
        refine (HC.out _ HBX.out).mono ?_
        rintro e w2 ⟨rfl, k2⟩
        have hb2 := HBX.out.trans (k2.mono HBX.out.size)
        clear k2 d0 d1 d2 d3 d4 f0 f1 f2 f3 f4
        cases hs : sameP x y with
        | true =>
          have H5 := toHid (show R = eqB sameP (X.drop (i + 1)) (Y.drop (i + 1)) by rw [H4.out, hs]; simp)
          clear H4 hs
          go_wp2_with fail
          go_roundg (l - (i + 1))
          case measure => omega
          case rel => exact ⟨i + 1, by omega, by omega, by go_num, hb2, H5.out⟩
        | false =>
          have H5 := toHid (show R = false by rw [H4.out, hs]; simp)
          clear H4 hs
          go_wp2_with fail
          go_ret
          exact ⟨ret_bool (by rw [H5.out]), hb2⟩
      · have H3 := toHid (show R = true by rw [HFE.out, List.drop_eq_nil_of_le (by have := HXL.out; omega), List.drop_eq_nil_of_le (by have := HYL.out; omega)]; rfl)
        clear HFE
        go_wp2_with fail
        go_ret
        exact ⟨ret_bool (by rw [H3.out]), hbw⟩
  · have hne' : ((l : Int) != (l' : Int)) = true := by simp; omega
    have H3 := toHid (show R = false by rw [HR.out]; exact eqB_length _ _ _ (fun h => hne (by have := HXL.out; have := HYL.out; omega)))
    clear HR hne
    go_enter Tryz.func76, Tryz.ntmps76
    go_wp2_with fail
    go_ret
    exact ⟨ret_bool (by rw [H3.out]), Below.refl _ _⟩

end Go.Proofs.YtakpifphpojbjaaGreatDoor
