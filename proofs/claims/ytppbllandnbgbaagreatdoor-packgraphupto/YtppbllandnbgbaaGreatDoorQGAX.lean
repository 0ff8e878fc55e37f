/-
  What is proved here: what the texts KpLaw, GLaid prove, in one text.
-/
import Derived.Test.YtppbllandnbgbaaGreatDoorQGAW
import Derived.Test.YtppbllandnbgbaaGreatDoorQGAA
import Derived.Test.YtppbllandnbgbaaGreatDoorShelf
import Derived.PinnedBridge
import Derived.Lib.LaidU8T
import Derived.Lib.LaidTab
import Derived.Lay
namespace Go.Proofs.YtppbllandnbgbaaGreatDoor
open Go.RowKit
set_option linter.unusedVariables false

set_option maxHeartbeats 4000000 in
set_option maxRecDepth 100000 in
theorem law_packGraph (B : Nat) (N : List Nd) (E : List Ed) (na : Option Addr) (nl nc : Nat) (ea : Option Addr) (el ec : Nat) (nx : Int) (L : List UInt8) (hlen : L.length ≤ 1048576) (w : World) (hB : B ≤ w.heap.size) (hT : Tabs B w)
    (hG : GrOk w N E na nl ea el) (u1 : ∀ x ∈ N, ∀ p ∈ x.props, PrOkU w 1048576 p) (u2 : ∀ x ∈ E, ∀ p ∈ x.props, PrOkU w 1048576 p) :
    Calls Tryz.prog 3 #[.agg #[.slice na nl nc, .slice ea el ec, .int .i64 nx], .string ⟨L.toArray⟩] w fun e w' => e = .returned (.bool true) ∧ Below w.heap.size w w' := by
  have kA : Below w.heap.size w (w.alloc (.cells #[.slice na nl nc, .slice ea el ec, .int .i64 nx] 25)) := (Below.refl _ _).alloc (Nat.le_refl _) _
  have HA := toHid (alloc_new w (.cells #[.slice na nl nc, .slice ea el ec, .int .i64 nx] 25))
  have hz : (w.alloc (.cells #[.slice na nl nc, .slice ea el ec, .int .i64 nx] 25)).heap.size = w.heap.size + 1 := by simp
  have HZ0 := toHid hz
  obtain ⟨s, hp, ho, he⟩ := says_back B hB hT hG nc ec nx u1 u2
  have HC : Hid (∀ W, Below w.heap.size w W → Calls Tryz.prog 8 #[.agg #[.slice na nl nc, .slice ea el ec, .int .i64 nx]] W fun e w' => e = .returned (.int .i64 (gE N E nx)) ∧ Below W.heap.size W w') := fun W k => checkGraph_ok hG nc ec nx W k
  have HP := toHid hp
  have HO := toHid ho
  have HE := toHid he
  clear hp ho he hz hG u1 u2
  generalize gE N E nx = er at HP HO HE HC
  have HY : Hid (∀ W, Below w.heap.size w W → Calls Tryz.prog 5 #[.string ⟨L.toArray⟩] W fun e w' => OfEnd w' L e ∧ Below W.heap.size W w') := fun W k => ofGraph_gen B W (Nat.le_trans hB k.size) (hT.below (k.mono hB)) L (by omega) (grLow_short hlen)
  have HW : Hid (∀ {W W' : World} {ma : Option Addr} {ml mc : Nat} {fa : Option Addr} {fl fc : Nat} {mx : Int} {XN : List AN} {XE : List AE}, Below w.heap.size w W → Below W.heap.size W W' → (∀ made, Rt ⟨XN, XE, mx, made⟩) → NsAt W XN ma ml → EsAt W XE fa fl → gB mx XN XE = L → Calls Tryz.prog 4 #[.agg #[.slice ma ml mc, .slice fa fl fc, .int .i64 mx]] W' fun e w' => e = .returned (.tuple #[.string ⟨L.toArray⟩, .int .i64 0]) ∧ Below W'.heap.size W' w') := fun k k' hr a1 a2 hl => by
    have kk := below2 k k'
    rw [← hl]
    exact pack_own B (Nat.le_trans hB kk.size) (hT.below (kk.mono hB)) (hr []) (a1.below k') (a2.below k') (by rw [hl]; omega)
  clear hB hT hlen
  generalize (⟨L.toArray⟩ : ByteArray) = b at HY HW ⊢
  go_enter Tryz.func3, Tryz.ntmps3
  go_upto_region 1 with fail
  generalize w.alloc (.cells #[.slice na nl nc, .slice ea el ec, .int .i64 nx] 25) = W0 at kA HA HZ0 ⊢
  have z0 : w.heap.size < W0.heap.size := by rw [HZ0.out]; omega
  have r0 := cell_of HA.out 0
  have r1 := cell_of HA.out 1
  have r2 := cell_of HA.out 2
  simp at r0 r1 r2
  go_wp2_with fail
  refine (HP.out W0 kA).mono ?_
  rintro e w1 ⟨rfl, k1⟩
  have HA1 := toHid ((k1.block w.heap.size z0).trans HA.out)
  have HK1 := toHid (below2 kA k1)
  have z1 : w.heap.size < w1.heap.size := (Array.getElem?_eq_some_iff.1 HA1.out).1
  clear r0 r1 r2 k1
  go_wp2_with fail
  refine (HY.out w1 HK1.out).mono ?_
  rintro e w2 ⟨⟨ma, ml, mc, fa, fl, fc, mx, XN, XE, rfl, b1, b2, b3, b4⟩ | ⟨rfl, _⟩, k2⟩
  · have HA2 := toHid ((k2.block w.heap.size z1).trans HA1.out)
    have HK2 := toHid (below2 HK1.out k2)
    have z2 : w.heap.size < w2.heap.size := (Array.getElem?_eq_some_iff.1 HA2.out).1
    have kD : Below w2.heap.size w2 (w2.alloc (.cells #[.slice ma ml mc, .slice fa fl fc, .int .i64 mx] 25)) := (Below.refl _ _).alloc (Nat.le_refl _) _
    have HD := toHid (alloc_new w2 (.cells #[.slice ma ml mc, .slice fa fl fc, .int .i64 mx] 25))
    have hz : (w2.alloc (.cells #[.slice ma ml mc, .slice fa fl fc, .int .i64 mx] 25)).heap.size = w2.heap.size + 1 := by simp
    have HZ2 := toHid hz
    have HG2 : Hid (∀ W', Below w2.heap.size w2 W' → Calls Tryz.prog 4 #[.agg #[.slice ma ml mc, .slice fa fl fc, .int .i64 mx]] W' fun e w' => e = .returned (.tuple #[.string b, .int .i64 0]) ∧ Below W'.heap.size W' w') := fun W' k' => HW.out HK2.out k' b3 b1 b2 b4
    clear b1 b2 b3 b4 k2 hz
    go_upto_region 2 with fail
    generalize w2.alloc (.cells #[.slice ma ml mc, .slice fa fl fc, .int .i64 mx] 25) = WD at kD HD HZ2 ⊢
    have HA3 := toHid ((kD.block w.heap.size z2).trans HA2.out)
    have HK3 := toHid (below2 HK2.out kD)
    have z3 : w2.heap.size < WD.heap.size := by rw [HZ2.out]; omega
    have z3' : w.heap.size < WD.heap.size := by omega
    go_wp2_with fail
    refine (packed_true WD).mono ?_
    rintro e w4 ⟨rfl, k4⟩
    have HA4 := toHid ((k4.block w.heap.size z3').trans HA3.out)
    have HD4 := toHid ((k4.block w2.heap.size z3).trans HD.out)
    have HK4 := toHid (below2 HK3.out k4)
    have HU4 := toHid (below2 kD k4)
    have z4 : w2.heap.size < w4.heap.size := (Array.getElem?_eq_some_iff.1 HD4.out).1
    clear k4
    have r0 := cell_of HD4.out 0
    have r1 := cell_of HD4.out 1
    have r2 := cell_of HD4.out 2
    simp at r0 r1 r2
    have HGG := toHid (HG2.out w4 HU4.out)
    go_wp2_with fail
    refine HGG.out.mono ?_
    rintro e w5 ⟨rfl, k5⟩
    have HA5 := toHid ((k5.block w.heap.size (by omega)).trans HA4.out)
    have HK5 := toHid (below2 HK4.out k5)
    have z5 : w.heap.size < w5.heap.size := (Array.getElem?_eq_some_iff.1 HA5.out).1
    clear k5 r0 r1 r2 HGG
    have r0 := cell_of HA5.out 0
    have r1 := cell_of HA5.out 1
    have r2 := cell_of HA5.out 2
    simp at r0 r1 r2
    have HCK := toHid (HC.out w5 HK5.out)
    go_wp2_with fail
    refine HCK.out.mono ?_
    rintro e v1 ⟨rfl, j1⟩
    have HAv := toHid ((j1.block w.heap.size z5).trans HA5.out)
    have HKv := toHid (below2 HK5.out j1)
    have zv : w.heap.size < v1.heap.size := (Array.getElem?_eq_some_iff.1 HAv.out).1
    clear r0 r1 r2 j1 HCK
    by_cases h0 : er = 0
    · have e0 : (er != 0) = false := by simp [h0]
      have HB := toHid (HO.out h0 v1 HKv.out)
      go_wp2_with fail
      refine HB.out.mono ?_
      rintro e v2 ⟨qa, ql, qc, pa, pl, pc, px, rfl, j2, hsm⟩
      have HAw := toHid ((j2.block w.heap.size zv).trans HAv.out)
      have HKw := toHid (below2 HKv.out j2)
      have zw : w.heap.size < v2.heap.size := (Array.getElem?_eq_some_iff.1 HAw.out).1
      have HSM := toHid hsm
      have kZ : Below v2.heap.size v2 (v2.alloc (.cells #[.slice qa ql qc, .slice pa pl pc, .int .i64 px] 25)) := (Below.refl _ _).alloc (Nat.le_refl _) _
      have HZ := toHid (alloc_new v2 (.cells #[.slice qa ql qc, .slice pa pl pc, .int .i64 px] 25))
      clear hsm j2 HB
      go_upto_region 15 with fail
      generalize v2.alloc (.cells #[.slice qa ql qc, .slice pa pl pc, .int .i64 px] 25) = W3 at kZ HZ ⊢
      have HAx := toHid ((kZ.block w.heap.size zw).trans HAw.out)
      have HKx := toHid (below2 HKw.out kZ)
      have HSS := toHid (HSM.out W3 kZ)
      have r0 := cell_of HAx.out 0
      have r1 := cell_of HAx.out 1
      have r2 := cell_of HAx.out 2
      have q0 := cell_of HZ.out 0
      have q1 := cell_of HZ.out 1
      have q2 := cell_of HZ.out 2
      simp at r0 r1 r2 q0 q1 q2
      go_wp2_with fail
      refine HSS.out.mono ?_
      rintro e v4 ⟨rfl, j4⟩
      have HKy := toHid (below2 HKx.out j4)
      clear j4
      go_wp2_with fail
      go_ret
      exact ⟨rfl, HKy.out⟩
    · have e0 : (er != 0) = true := by simp [h0]
      have es := HE.out h0
      go_wp2_with fail
      go_ret
      exact ⟨rfl, HKv.out⟩
  · have HA2 := toHid ((k2.block w.heap.size z1).trans HA1.out)
    have HK2 := toHid (below2 HK1.out k2)
    have z2 : w.heap.size < w2.heap.size := (Array.getElem?_eq_some_iff.1 HA2.out).1
    have kD : Below w2.heap.size w2 (w2.alloc (.cells #[.slice none 0 0, .slice none 0 0, .int .i64 0] 25)) := (Below.refl _ _).alloc (Nat.le_refl _) _
    have HD := toHid (alloc_new w2 (.cells #[.slice none 0 0, .slice none 0 0, .int .i64 0] 25))
    have hz : (w2.alloc (.cells #[.slice none 0 0, .slice none 0 0, .int .i64 0] 25)).heap.size = w2.heap.size + 1 := by simp
    have HZ2 := toHid hz
    clear k2 hz
    go_upto_region 2 with fail
    generalize w2.alloc (.cells #[.slice none 0 0, .slice none 0 0, .int .i64 0] 25) = WD at kD HD HZ2 ⊢
    have HA3 := toHid ((kD.block w.heap.size z2).trans HA2.out)
    have HK3 := toHid (below2 HK2.out kD)
    have z3 : w2.heap.size < WD.heap.size := by rw [HZ2.out]; omega
    have z3' : w.heap.size < WD.heap.size := by omega
    go_wp2_with fail
    refine (packed_true WD).mono ?_
    rintro e w4 ⟨rfl, k4⟩
    have HA4 := toHid ((k4.block w.heap.size z3').trans HA3.out)
    have HD4 := toHid ((k4.block w2.heap.size z3).trans HD.out)
    have HK4 := toHid (below2 HK3.out k4)
    have z4 : w2.heap.size < w4.heap.size := (Array.getElem?_eq_some_iff.1 HD4.out).1
    clear k4
    have r0 := cell_of HD4.out 0
    have r1 := cell_of HD4.out 1
    have r2 := cell_of HD4.out 2
    simp at r0 r1 r2
    go_wp2_with fail
    refine (noGraph_true w4).mono ?_
    rintro e w5 ⟨rfl, k5⟩
    have HA5 := toHid ((k5.block w.heap.size (by omega)).trans HA4.out)
    have HK5 := toHid (below2 HK4.out k5)
    have z5 : w.heap.size < w5.heap.size := (Array.getElem?_eq_some_iff.1 HA5.out).1
    clear k5 r0 r1 r2
    have r0 := cell_of HA5.out 0
    have r1 := cell_of HA5.out 1
    have r2 := cell_of HA5.out 2
    simp at r0 r1 r2
    have HCK := toHid (HC.out w5 HK5.out)
    go_wp2_with fail
    refine HCK.out.mono ?_
    rintro e v1 ⟨rfl, j1⟩
    have HAv := toHid ((j1.block w.heap.size z5).trans HA5.out)
    have HKv := toHid (below2 HK5.out j1)
    have zv : w.heap.size < v1.heap.size := (Array.getElem?_eq_some_iff.1 HAv.out).1
    clear r0 r1 r2 j1 HCK
    by_cases h0 : er = 0
    · have e0 : (er != 0) = false := by simp [h0]
      have HB := toHid (HO.out h0 v1 HKv.out)
      go_wp2_with fail
      refine HB.out.mono ?_
      rintro e v2 ⟨qa, ql, qc, pa, pl, pc, px, rfl, j2, hsm⟩
      have HAw := toHid ((j2.block w.heap.size zv).trans HAv.out)
      have HKw := toHid (below2 HKv.out j2)
      have zw : w.heap.size < v2.heap.size := (Array.getElem?_eq_some_iff.1 HAw.out).1
      have HSM := toHid hsm
      have kZ : Below v2.heap.size v2 (v2.alloc (.cells #[.slice qa ql qc, .slice pa pl pc, .int .i64 px] 25)) := (Below.refl _ _).alloc (Nat.le_refl _) _
      have HZ := toHid (alloc_new v2 (.cells #[.slice qa ql qc, .slice pa pl pc, .int .i64 px] 25))
      clear hsm j2 HB
      go_upto_region 15 with fail
      generalize v2.alloc (.cells #[.slice qa ql qc, .slice pa pl pc, .int .i64 px] 25) = W3 at kZ HZ ⊢
      have HAx := toHid ((kZ.block w.heap.size zw).trans HAw.out)
      have HKx := toHid (below2 HKw.out kZ)
      have HSS := toHid (HSM.out W3 kZ)
      have r0 := cell_of HAx.out 0
      have r1 := cell_of HAx.out 1
      have r2 := cell_of HAx.out 2
      have q0 := cell_of HZ.out 0
      have q1 := cell_of HZ.out 1
      have q2 := cell_of HZ.out 2
      simp at r0 r1 r2 q0 q1 q2
      go_wp2_with fail
      refine HSS.out.mono ?_
      rintro e v4 ⟨rfl, j4⟩
      have HKy := toHid (below2 HKx.out j4)
      clear j4
      go_wp2_with fail
      go_ret
      exact ⟨rfl, HKy.out⟩
    · have e0 : (er != 0) = true := by simp [h0]
      have es := HE.out h0
      go_wp2_with fail
      go_ret
      exact ⟨rfl, HKv.out⟩

open Go.RowKit Go.Lib
set_option linter.unusedVariables false

theorem accept_eq : (Rows.laid_unicode_utf8_acceptRanges : DataW Unit) = acceptData := by kernel_rfl
theorem first_eq : (Rows.laid_unicode_utf8_first : DataW Unit) = firstData := Pinned.utf8First_eq

theorem u8extra : U8Extra Tryz.prog Tryz.lays196_ren := ⟨by kernel_rfl, by kernel_rfl, by kernel_rfl, by kernel_rfl, by kernel_rfl, by kernel_rfl, by kernel_rfl⟩

theorem tabs_of {l : List (String × DataW Unit)} (hf : ("unicode/utf8.first", Rows.laid_unicode_utf8_first) ∈ l) (ha : ("unicode/utf8.acceptRanges", Rows.laid_unicode_utf8_acceptRanges) ∈ l) {W : World} (h : laidMet Tryz.prog l W) : Tabs W.heap.size W := by
  have h0 : Lib.Utf8Tabs 0 1 W := utf8Tabs_of_readsT (U8Types.of196 Tryz.lays196) u8extra
    (first_eq ▸ Lib.laidMet.reads h hf)
    (accept_eq ▸ Lib.laidMet.reads h ha)
  have b0 : 0 < W.heap.size := World.block_lt_of_cell? W _ (h0.1 0 (by decide))
  have b1 : 1 < W.heap.size := World.block_lt_of_cell? W _ (h0.2 0 (by decide)).1
  intro w' hb
  refine ⟨fun c hc => ?_, fun i hi => ⟨?_, ?_⟩⟩
  · rw [hb.cell (p := ⟨0, c, none⟩) b0]; exact h0.1 c hc
  · rw [hb.cell (p := ⟨1, 2 * i, none⟩) b1]; exact (h0.2 i hi).1
  · rw [hb.cell (p := ⟨1, 2 * i + 1, none⟩) b1]; exact (h0.2 i hi).2
end Go.Proofs.YtppbllandnbgbaaGreatDoor
