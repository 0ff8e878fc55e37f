/-
  What is proved here: what the texts KkLaw, GLaid prove, in one text.
-/
import Derived.Test.YtgldelbbfgnndaaDoorQKAO
import Derived.Test.YtgldelbbfgnndaaDoorQKAP
import Derived.Test.YtgldelbbfgnndaaDoorQKAA
import Derived.Test.YtgldelbbfgnndaaDoorShelf
import Derived.PinnedBridge
import Derived.Lib.LaidU8T
import Derived.Lib.LaidTab
import Derived.Lay
namespace Go.Proofs.YtgldelbbfgnndaaDoor
open Go.RowKit
set_option linter.unusedVariables false

theorem gB_same (nx mx : Int) (XN YN : List AN) (XE YE : List AE) (hN : ∀ x ∈ XN, NodeW x) (hE : ∀ x ∈ XE, EdgeW x) (hM : ∀ x ∈ YN, NodeW x) (hF : ∀ x ∈ YE, EdgeW x) :
    ((⟨(gB nx XN XE).toArray⟩ : ByteArray).toList == (⟨(gB mx YN YE).toArray⟩ : ByteArray).toList) = ((nx == mx) && (eqB sameN XN YN && eqB sameE XE YE)) := by
  rw [ByteArray.toList_eq, ByteArray.toList_eq]
  show ((gB nx XN XE).toArray.toList == (gB mx YN YE).toArray.toList) = _
  rw [List.toList_toArray, List.toList_toArray, Bool.eq_iff_iff]
  constructor
  · intro h
    obtain ⟨h1, h2, h3⟩ := gB_inj (fun x hx p hp => ((hN x hx).2.2 p hp).2) (fun x hx p hp => ((hE x hx).2.2 p hp).2) (fun x hx p hp => ((hM x hx).2.2 p hp).2) (fun x hx p hp => ((hF x hx).2.2 p hp).2) (by simpa using h)
    subst h1 h2 h3
    rw [eqB_self _ sameN_self, eqB_self _ sameE_self]
    simp
  · intro h
    simp only [Bool.and_eq_true, beq_iff_eq] at h
    obtain ⟨h1, h2, h3⟩ := h
    have e1 := eqB_eq (fun x y h => (sameN_iff x y).1 h) _ _ h2
    have e2 := eqB_eq (fun x y h => (sameE_iff x y).1 h) _ _ h3
    subst h1 e1 e2
    simp

set_option maxHeartbeats 4000000 in
set_option maxRecDepth 100000 in
theorem law_packOne (N : List Nd) (E : List Ed) (na : Option Addr) (nl nc : Nat) (ea : Option Addr) (el ec : Nat) (nx : Int) (N1 : List Nd) (E1 : List Ed) (ma : Option Addr) (ml mc : Nat) (fa : Option Addr) (fl fc : Nat) (mx : Int) (w : World)
    (hG : GrOk w N E na nl ea el) (hG1 : GrOk w N1 E1 ma ml fa fl) (u1 : ∀ x ∈ N, ∀ p ∈ x.props, PrOkU w 1048576 p) (u2 : ∀ x ∈ E, ∀ p ∈ x.props, PrOkU w 1048576 p) (v1 : ∀ x ∈ N1, ∀ p ∈ x.props, PrOkU w 1048576 p) (v2 : ∀ x ∈ E1, ∀ p ∈ x.props, PrOkU w 1048576 p) :
    Calls Tryd.prog 3 #[.agg #[.slice na nl nc, .slice ea el ec, .int .i64 nx], .agg #[.slice ma ml mc, .slice fa fl fc, .int .i64 mx]] w fun e w' => e = .returned (.bool true) ∧ Below w.heap.size w w' := by
  obtain ⟨o, ho⟩ : ∃ o : World → Obj → World, o = World.alloc := ⟨_, rfl⟩
  have kA : Below w.heap.size w ((w.alloc (.cells #[.slice na nl nc, .slice ea el ec, .int .i64 nx] 25)).alloc (.cells #[.slice ma ml mc, .slice fa fl fc, .int .i64 mx] 25)) := ((Below.refl _ _).alloc (Nat.le_refl _) _).alloc (by simp) _
  have HA := toHid ((Below.heap_alloc (w.alloc (.cells #[.slice na nl nc, .slice ea el ec, .int .i64 nx] 25)) (.cells #[.slice ma ml mc, .slice fa fl fc, .int .i64 mx] 25) w.heap.size (by simp)).trans (alloc_new w (.cells #[.slice na nl nc, .slice ea el ec, .int .i64 nx] 25)))
  have HB := toHid (alloc_two w (.cells #[.slice na nl nc, .slice ea el ec, .int .i64 nx] 25) (.cells #[.slice ma ml mc, .slice fa fl fc, .int .i64 mx] 25))
  have hz : ((w.alloc (.cells #[.slice na nl nc, .slice ea el ec, .int .i64 nx] 25)).alloc (.cells #[.slice ma ml mc, .slice fa fl fc, .int .i64 mx] 25)).heap.size = w.heap.size + 2 := by simp
  have HZ := toHid hz
  clear hz ho o

  obtain ⟨s, er, HP1, hE1⟩ : ∃ (s : ByteArray) (er : Int), Hid (∀ W, Below w.heap.size w W → Calls Tryd.prog 4 #[.agg #[.slice na nl nc, .slice ea el ec, .int .i64 nx]] W fun e w' => e = .returned (.tuple #[.string s, .int .i64 er]) ∧ Below W.heap.size W w') ∧ (er = 0 → ∃ XN XE, s = ⟨(gB nx XN XE).toArray⟩ ∧ NsAt w XN na nl ∧ EsAt w XE ea el ∧ ∀ made, Rt ⟨XN, XE, nx, made⟩) := by
    by_cases h0 : gE N E nx = 0
    · obtain ⟨XN, XE, a1, a2, a3, a4, a5⟩ := gr_rightU hG h0 1048576 u1 u2
      have r := rt_w (a3 [])
      have hx := (a3 []).next
      have hx0 := (a3 []).pos
      refine ⟨_, 0, fun W kW => pack_good W na nl nc ea el ec nx XN XE (fun W' kW' => by have := check_ok hG nc ec nx W' (below2 kW kW'); rw [h0] at this; exact this) (a1.below kW) (a2.below kW) r.1 r.2 ⟨by show _ ≤ nx; have : (0 : Int) < nx := hx0; omega, by have : nx ≤ 1099511627776 := hx; omega⟩ (gB_len (a3 []) a4 a5), fun _ => ⟨XN, XE, rfl, a1, a2, a3⟩⟩
    · exact ⟨_, _, fun W kW => pack_bad W na nl nc ea el ec nx _ h0 (fun W' kW' => check_ok hG nc ec nx W' (below2 kW kW')), fun h => absurd h h0⟩
  obtain ⟨t, fr, HP2, hE2⟩ : ∃ (t : ByteArray) (fr : Int), Hid (∀ W, Below w.heap.size w W → Calls Tryd.prog 4 #[.agg #[.slice ma ml mc, .slice fa fl fc, .int .i64 mx]] W fun e w' => e = .returned (.tuple #[.string t, .int .i64 fr]) ∧ Below W.heap.size W w') ∧ (fr = 0 → ∃ XN XE, t = ⟨(gB mx XN XE).toArray⟩ ∧ NsAt w XN ma ml ∧ EsAt w XE fa fl ∧ ∀ made, Rt ⟨XN, XE, mx, made⟩) := by
    by_cases h0 : gE N1 E1 mx = 0
    · obtain ⟨XN, XE, a1, a2, a3, a4, a5⟩ := gr_rightU hG1 h0 1048576 v1 v2
      have r := rt_w (a3 [])
      have hx := (a3 []).next
      have hx0 := (a3 []).pos
      refine ⟨_, 0, fun W kW => pack_good W ma ml mc fa fl fc mx XN XE (fun W' kW' => by have := check_ok hG1 mc fc mx W' (below2 kW kW'); rw [h0] at this; exact this) (a1.below kW) (a2.below kW) r.1 r.2 ⟨by show _ ≤ mx; have : (0 : Int) < mx := hx0; omega, by have : mx ≤ 1099511627776 := hx; omega⟩ (gB_len (a3 []) a4 a5), fun _ => ⟨XN, XE, rfl, a1, a2, a3⟩⟩
    · exact ⟨_, _, fun W kW => pack_bad W ma ml mc fa fl fc mx _ h0 (fun W' kW' => check_ok hG1 mc fc mx W' (below2 kW kW')), fun h => absurd h h0⟩
  have HSG : Hid (er = 0 → fr = 0 → ∀ W, Below w.heap.size w W → Calls Tryd.prog 6 #[.agg #[.slice na nl nc, .slice ea el ec, .int .i64 nx], .agg #[.slice ma ml mc, .slice fa fl fc, .int .i64 mx]] W fun e w' => e = .returned (.bool (s.toList == t.toList)) ∧ Below W.heap.size W w') := fun h1 h2 W kW => by
    obtain ⟨XN, XE, rfl, a1, a2, a3⟩ := hE1 h1
    obtain ⟨YN, YE, rfl, b1, b2, b3⟩ := hE2 h2
    have r := rt_w (a3 [])
    have r' := rt_w (b3 [])
    rw [gB_same nx mx XN YN XE YE r.1 r.2 r'.1 r'.2]
    exact sameGraph_ref XN YN XE YE na nl nc ea el ec nx ma ml mc fa fl fc mx W (a1.below kW) (a2.below kW) (b1.below kW) (b2.below kW) (a3 []).nok (a3 []).eok (b3 []).nok (b3 []).eok
  clear hE1 hE2 hG hG1 u1 u2 v1 v2
  go_enter Tryd.func3, Tryd.ntmps3
  go_upto_region 1 with fail
  generalize (w.alloc (.cells #[.slice na nl nc, .slice ea el ec, .int .i64 nx] 25)).alloc (.cells #[.slice ma ml mc, .slice fa fl fc, .int .i64 mx] 25) = W0 at kA HA HB HZ ⊢
  have z0 : w.heap.size + 1 < W0.heap.size := by rw [HZ.out]; omega
  have z1 : w.heap.size < W0.heap.size := by omega
  have r0 := cell_of HA.out 0
  have r1 := cell_of HA.out 1
  have r2 := cell_of HA.out 2
  simp at r0 r1 r2
  go_wp2_with fail
  refine (HP1.out W0 kA).mono ?_
  rintro e w1 ⟨rfl, k1⟩
  have HA1 := toHid ((k1.block w.heap.size z1).trans HA.out)
  have HB1 := toHid ((k1.block (w.heap.size + 1) z0).trans HB.out)
  have HK1 := toHid (below2 kA k1)
  have z2 : w.heap.size + 1 < w1.heap.size := (Array.getElem?_eq_some_iff.1 HB1.out).1
  clear r0 r1 r2 k1
  have r0 := cell_of HB1.out 0
  have r1 := cell_of HB1.out 1
  have r2 := cell_of HB1.out 2
  simp at r0 r1 r2
  go_wp2_with fail
  refine (HP2.out w1 HK1.out).mono ?_
  rintro e w2 ⟨rfl, k2⟩
  have HA2 := toHid ((k2.block w.heap.size (by omega)).trans HA1.out)
  have HB2 := toHid ((k2.block (w.heap.size + 1) z2).trans HB1.out)
  have HK2 := toHid (below2 HK1.out k2)
  have z3 : w.heap.size + 1 < w2.heap.size := (Array.getElem?_eq_some_iff.1 HB2.out).1
  clear r0 r1 r2 k2
  go_wp2_with fail
  refine (packed_true w2).mono ?_
  rintro e w3 ⟨rfl, k3⟩
  have HA3 := toHid ((k3.block w.heap.size (by omega)).trans HA2.out)
  have HB3 := toHid ((k3.block (w.heap.size + 1) z3).trans HB2.out)
  have HK3 := toHid (below2 HK2.out k3)
  have z4 : w.heap.size + 1 < w3.heap.size := (Array.getElem?_eq_some_iff.1 HB3.out).1
  have z5 : w.heap.size < w3.heap.size := by omega
  clear k3
  by_cases h1 : er = 0
  · have e1 : (er != 0) = false := by simp [h1]
    by_cases h2 : fr = 0
    · have e2 : (fr != 0) = false := by simp [h2]
      have HSS := toHid (HSG.out h1 h2 w3 HK3.out)
      have r0 := cell_of HA3.out 0
      have r1 := cell_of HA3.out 1
      have r2 := cell_of HA3.out 2
      have q0 := cell_of HB3.out 0
      have q1 := cell_of HB3.out 1
      have q2 := cell_of HB3.out 2
      simp at r0 r1 r2 q0 q1 q2
      clear h1 h2 HSG
      go_wp2_with fail
      refine HSS.out.mono ?_
      rintro e w4 ⟨rfl, k4⟩
      have HK4 := toHid (below2 HK3.out k4)
      clear k4
      go_wp2_with fail
      go_ret
      exact ⟨ret_bool (by simp), HK4.out⟩
    · have e2 : (fr != 0) = true := by simp [h2]
      go_wp2_with fail
      go_ret
      exact ⟨rfl, HK3.out⟩
  · have e1 : (er != 0) = true := by simp [h1]
    go_wp2_with fail
    go_ret
    exact ⟨rfl, HK3.out⟩

open Go.RowKit Go.Lib
set_option linter.unusedVariables false

theorem accept_eq : (Rows.laid_unicode_utf8_acceptRanges : DataW Unit) = acceptData := by kernel_rfl
theorem first_eq : (Rows.laid_unicode_utf8_first : DataW Unit) = firstData := Pinned.utf8First_eq

theorem u8extra : U8Extra Tryd.prog Tryd.lays196_ren := ⟨by kernel_rfl, by kernel_rfl, by kernel_rfl, by kernel_rfl, by kernel_rfl, by kernel_rfl, by kernel_rfl⟩

theorem tabs_of {l : List (String × DataW Unit)} (hf : ("unicode/utf8.first", Rows.laid_unicode_utf8_first) ∈ l) (ha : ("unicode/utf8.acceptRanges", Rows.laid_unicode_utf8_acceptRanges) ∈ l) {W : World} (h : laidMet Tryd.prog l W) : Tabs W.heap.size W := by
  have h0 : Lib.Utf8Tabs 1 2 W := utf8Tabs_of_readsT (U8Types.of196 Tryd.lays196) u8extra
    (first_eq ▸ Lib.laidMet.reads h hf)
    (accept_eq ▸ Lib.laidMet.reads h ha)
  have b0 : 1 < W.heap.size := World.block_lt_of_cell? W _ (h0.1 0 (by decide))
  have b1 : 2 < W.heap.size := World.block_lt_of_cell? W _ (h0.2 0 (by decide)).1
  intro w' hb
  refine ⟨fun c hc => ?_, fun i hi => ⟨?_, ?_⟩⟩
  · rw [hb.cell (p := ⟨1, c, none⟩) b0]; exact h0.1 c hc
  · rw [hb.cell (p := ⟨2, 2 * i, none⟩) b1]; exact (h0.2 i hi).1
  · rw [hb.cell (p := ⟨2, 2 * i + 1, none⟩) b1]; exact (h0.2 i hi).2
end Go.Proofs.YtgldelbbfgnndaaDoor
