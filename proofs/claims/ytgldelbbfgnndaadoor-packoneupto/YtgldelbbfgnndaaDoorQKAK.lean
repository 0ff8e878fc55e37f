/-
  What is proved here: what the texts KrBits, KrVal, KrLS, KrProp, KrLP prove, in one text.
-/
import Derived.Test.YtgldelbbfgnndaaDoorQKAJ
import Derived.Laws.ShiftsVarLaws
import Derived.Test.YtgldelbbfgnndaaDoorQKAE
namespace Go.Proofs.YtgldelbbfgnndaaDoor
open Go.RowKit
set_option linter.unusedVariables false

theorem and127 (x : Nat) (h : x < 256) : bits .and .u8 (x : Int) 127 = ((x % 128 : Nat) : Int) := by
  have e := u8_and_nat x 127 h (by omega)
  have e2 : x &&& 127 = x % 128 := Nat.and_two_pow_sub_one_eq_mod x 7
  rw [e2] at e
  exact e

theorem acc_eq (n k x : Nat) (hn : n ≤ 18446744073709551615) (hx : x < 256) (hm : x % 128 = n / 128 ^ k % 128) :
    bits .or .u64 ((n % 128 ^ k : Nat) : Int) (IntKind.u64.wrap (IntKind.u64.wrap (bits .and .u8 (x : Int) 127) * 2 ^ (7 * k))) = ((n % 128 ^ (k + 1) : Nat) : Int) := by
  have hp : (128 : Nat) ^ k = 2 ^ (7 * k) := by rw [Nat.pow_mul]
  have hpos : 0 < 128 ^ k := Nat.pow_pos (by omega)
  have hle : 128 ^ k * (n / 128 ^ k % 128) ≤ n := Nat.le_trans (Nat.mul_le_mul_left _ (Nat.mod_le _ _)) (Nat.mul_div_le _ _)
  have hq : n % 128 ^ k < 128 ^ k := Nat.mod_lt _ hpos
  rw [and127 x hx, hm, IntKind.wrap_u64, IntKind.wrap_u64]
  obtain ⟨y, hy⟩ : ∃ y, y = n / 128 ^ k % 128 := ⟨_, rfl⟩
  have hy2 : y < 128 := by omega
  rw [← hy] at hle
  have e1 : (((y : Nat) : Int) % 18446744073709551616 * 2 ^ (7 * k)) % 18446744073709551616 = ((2 ^ (7 * k) * y : Nat) : Int) := by
    have e0 : ((y : Nat) : Int) % 18446744073709551616 = y := Int.emod_eq_of_lt (by omega) (by omega)
    have e2 : ((y : Nat) : Int) * 2 ^ (7 * k) = ((2 ^ (7 * k) * y : Nat) : Int) := by
      rw [Int.natCast_mul, Int.mul_comm]
      simp
    rw [e0, e2, ← hp]
    exact Int.emod_eq_of_lt (by omega) (by omega)
  rw [← hy]
  have hq2 : n % 128 ^ k ≤ n := Nat.mod_le _ _
  rw [e1, u64_or_nat _ _ (by omega) (by rw [← hp]; omega), Nat.or_comm, ← Nat.two_pow_add_eq_or_of_lt (by rw [← hp]; exact hq), Nat.mod_pow_succ, ← hp, ← hy, Nat.add_comm]

theorem top_eq (n k : Nat) (h : n / 128 ^ k < 128) : n % 128 ^ (k + 1) = n := by
  apply Nat.mod_eq_of_lt
  have hpos : 0 < 128 ^ k := Nat.pow_pos (by omega)
  rw [Nat.pow_succ, Nat.mul_comm]
  exact (Nat.div_lt_iff_lt_mul hpos).1 h

theorem few_eq (n k : Nat) (hn : n ≤ 18446744073709551615) (hk : k ≤ 9) (h : ¬ n / 128 ^ k < 128) : k + 1 ≤ 9 := by
  rcases Nat.lt_or_ge k 9 with h9 | h9
  · omega
  · exfalso
    obtain rfl : k = 9 := by omega
    apply h
    exact Nat.lt_of_le_of_lt (Nat.div_le_div_right hn) (by decide)

set_option maxHeartbeats 4000000 in
set_option maxRecDepth 100000 in
theorem rbits_any (b : Nat) (w : World) (n : Nat) (r : List UInt8) (d : Int) (hn : n ≤ 18446744073709551615) (h : Rd b w (bts n ++ r) d) :
    Calls Tryd.prog 51 #[.pointer (some ⟨b, 0, none⟩)] w fun e w' => e = .returned (.int .u64 n) ∧ Rd b w' r d ∧ Below b w w' ∧ Rf b w w' := by
  have H := toHid h
  clear h
  go_enter Tryd.func51, Tryd.ntmps51
  go_wp2_with fail
  go_loopg [3, 4] 10 (fun g s3 s4 wr => ∃ (k : Nat), k ≤ 9 ∧ 10 - k ≤ g ∧ s4 = .int .i64 (7 * k : Nat) ∧ s3 = .int .u64 (n % 128 ^ k : Nat) ∧ Rd b wr (bts (n / 128 ^ k) ++ r) d ∧ Below b w wr ∧ Rf b w wr)
  case atStart => exact ⟨0, by omega, by omega, by go_num, by simp [Nat.mod_one], by simpa using H.out, Below.refl _ _, Rf.refl _ _⟩
  case round =>
    clear H
    obtain ⟨k, hk, hg, rfl, rfl, hR, hb, hf⟩ := hrel
    obtain ⟨m, hm⟩ : ∃ m, m = n / 128 ^ k := ⟨_, rfl⟩
    obtain ⟨q, hq⟩ : ∃ q, q = n % 128 ^ k := ⟨_, rfl⟩
    rw [← hm] at hR
    rw [← hq]
    have HM := toHid hm
    have HQ := toHid hq
    obtain ⟨x, t, hx⟩ : ∃ x t, bts m = x :: t := by
      by_cases h : m < 128
      · exact ⟨_, _, bts_lt h⟩
      · exact ⟨_, _, bts_ge h⟩
    have HX := toHid hx
    rw [hx, List.cons_append] at hR
    have hbl := hR.lt
    have HC := toHid (cut_any b wr [x] (t ++ r) d hR)
    have hlow : ((7 * k : Nat) : Int) < 64 := by omega
    have hx256 : x.toNat < 256 := x.toNat_lt
    have hxm : x.toNat % 128 = m % 128 ∧ (x.toNat < 128 ↔ m < 128) := by
      by_cases h : m < 128
      · rw [bts_lt h] at hx
        injection hx with e1 e2
        rw [← e1, UInt8.toNat_ofNat']
        omega
      · rw [bts_ge h] at hx
        injection hx with e1 e2
        rw [← e1, UInt8.toNat_ofNat']
        omega
    have HACC : Hid (bits .or .u64 (q : Int) (IntKind.u64.wrap (IntKind.u64.wrap (bits .and .u8 (x.toNat : Int) 127) * 2 ^ (7 * k))) = ((n % 128 ^ (k + 1) : Nat) : Int)) := by
      show _ = _
      rw [hq]
      exact acc_eq n k x.toNat hn hx256 (by rw [← hm]; exact hxm.1)
    have hx2 := hxm.2
    clear hm hq hx hR hxm
    go_wp2_with fail
    refine HC.out.mono ?_
    rintro e u1 ⟨⟨g0, off, c, rfl, hc, hgb, hbt, hR1, hs1⟩, hb1, hf1⟩
    have y0 := hbt 0 x rfl
    rw [Nat.add_zero] at y0
    have hg1 : g0 < u1.heap.size := by omega
    have HR1 := toHid hR1
    have HB1 := toHid (hb.trans hb1)
    have HF1 := toHid (hf.trans hb.size hf1)
    clear hbt hR1 hb1 hf1 HC
    by_cases h : m < 128
    · have h1 : (x.toNat : Int) < 128 := by omega
      go_wp2_with fail
      go_ret
      have ht : t = [] := by
        have := HX.out
        rw [bts_lt h] at this
        injection this with _ e
        exact e.symm
      exact ⟨by rw [HACC.out, top_eq n k (by rw [← HM.out]; exact h)]; rfl, by have := HR1.out; rw [ht] at this; exact this, HB1.out, HF1.out⟩
    · have h1 : ¬ (x.toNat : Int) < 128 := by omega
      have h9 : k + 1 ≤ 9 := few_eq n k hn hk (by rw [← HM.out]; exact h)
      have ht : t = bts (m / 128) := by
        have := HX.out
        rw [bts_ge h] at this
        injection this with _ e
        exact e.symm
      have HT := toHid ht
      clear ht
      go_wp2_with fail
      go_roundg (10 - (k + 1))
      case measure => omega
      case rel => exact ⟨k + 1, h9, by omega, by go_num, by rw [HACC.out], by have := HR1.out; rw [HT.out, HM.out, Nat.div_div_eq_div_mul, ← Nat.pow_succ] at this; exact this, HB1.out, HF1.out⟩

theorem back_eq (z : Int) (h0 : 0 ≤ z) (h1 : z ≤ 1099511627776) : bits .xor .i64 (max z 0) (wrap64 (-wrap64 (bits .and .u64 (2 * max z 0) 1))) = z := by
  have e0 : max z 0 = z := by omega
  have e1 : bits .and .u64 (2 * z) 1 = 0 := by
    have e := u64_and_nat (2 * z.toNat) 1 (by omega) (by omega)
    have e2 : (2 * z.toNat) &&& 1 = 0 := by rw [Nat.and_one_is_mod]; omega
    rw [e2] at e
    rw [show (2 * z : Int) = ((2 * z.toNat : Nat) : Int) from by omega]
    exact e
  rw [e0, e1]
  have e3 : wrap64 (-wrap64 0) = 0 := by unfold wrap64; omega
  rw [e3]
  show IntKind.i64.wrap ((BitVec.ofInt 64 z ^^^ BitVec.ofInt 64 0).toNat : Int) = _
  obtain ⟨A, rfl⟩ := Int.eq_ofNat_of_zero_le h0
  rw [BitVec.toNat_xor, ofInt_u64 A (by omega), show (BitVec.ofInt 64 0).toNat = 0 from rfl, Nat.xor_zero]
  have e4 : IntKind.i64.wrap (A : Int) = wrap64 A := by simp [IntKind.wrap, IntKind.bits, IntKind.signed, wrap64]; omega
  rw [e4]
  unfold wrap64
  omega

set_option maxHeartbeats 4000000 in
set_option maxRecDepth 100000 in
theorem rnumber_any (b : Nat) (w : World) (z : Int) (r : List UInt8) (d : Int) (h0 : 0 ≤ z) (h1 : z ≤ 1099511627776) (h : Rd b w (numB z ++ r) d) :
    Calls Tryd.prog 38 #[.pointer (some ⟨b, 0, none⟩)] w fun e w' => e = .returned (.int .i64 z) ∧ Rd b w' r d ∧ Below b w w' ∧ Rf b w w' := by
  have HB := toHid (rbits_any b w (zig z) r d (zig_le z (by omega) (by omega)) h)
  have hz : zig z = 2 * z.toNat := by unfold zig; rw [if_pos h0]; omega
  rw [hz] at HB
  clear h hz
  go_enter Tryd.func38, Tryd.ntmps38
  go_wp2_with fail
  refine HB.out.mono ?_
  rintro e u1 ⟨rfl, hR1, hb1, hf1⟩
  go_wp2_with fail
  rw [back_eq z h0 h1]
  go_ret
  exact ⟨rfl, hR1, hb1, hf1⟩

set_option maxHeartbeats 4000000 in
set_option maxRecDepth 100000 in
theorem rtext_any (b : Nat) (w : World) (s : ByteArray) (r : List UInt8) (d : Int) (hs : s.size ≤ 1000000) (h : Rd b w (txB s ++ r) d) :
    Calls Tryd.prog 53 #[.pointer (some ⟨b, 0, none⟩)] w fun e w' => e = .returned (.string s) ∧ Rd b w' r d ∧ Below b w w' ∧ Rf b w w' := by
  have h' : Rd b w (bts s.size ++ (s.data.toList ++ r)) d := by unfold txB at h; rw [List.append_assoc] at h; exact h
  have HB := toHid (rbits_any b w s.size _ d (by omega) h')
  clear h h'
  go_enter Tryd.func53, Tryd.ntmps53
  go_wp2_with fail
  refine HB.out.mono ?_
  rintro e u1 ⟨rfl, hR1, hb1, hf1⟩
  have HC := toHid (cut_any b u1 s.data.toList r d hR1)
  have hl : s.data.toList.length = s.size := by simp
  rw [hl] at HC
  have hs1 := hb1.size
  clear hR1
  go_wp2_with fail
  refine HC.out.mono ?_
  rintro e u2 ⟨⟨g0, off, c, rfl, hc, hgb, hbt, hR2, hs2⟩, hb2, hf2⟩
  rw [hl] at hc ⊢
  have hcv : (convert 33 9 (.slice (some ⟨g0, off, none⟩) s.size c)).run Tryd.prog u2 = .ok (.string s) u2 := by
    have e := run_convert_bytes_back (P := Tryd.prog) u2 33 9 BE ⟨g0, off, none⟩ c s.data.toList Tryd.underlying33 Tryd.underlying5 Tryd.underlying9 (fun j hj => by
      have := hbt j _ (List.getElem?_eq_getElem hj)
      rw [add_none]
      exact this)
    rw [hl] at e
    simpa using e
  clear hbt
  go_wp2_with fail
  go_ret
  exact ⟨rfl, hR2, hb1.trans hb2, hf1.trans hs1 hf2⟩

set_option maxHeartbeats 4000000 in
set_option maxRecDepth 100000 in
theorem rvalue_int (b : Nat) (w : World) (n : Int) (r : List UInt8) (d : Int) (h0 : 0 ≤ n) (h1 : n ≤ 1099511627776) (h : Rd b w (vB (.node 2 n ⟨#[]⟩ []) ++ r) d) :
    Calls Tryd.prog 62 #[.pointer (some ⟨b, 0, none⟩)] w fun e w' => e = .returned (.agg #[.int .i64 2, .int .i64 n, .string ⟨#[]⟩, .slice none 0 0]) ∧ Rd b w' r d ∧ Below b w w' ∧ Rf b w w' := by
  have hlt := h.lt
  have hne : w.heap.size ≠ b := by omega
  have hv : vB (.node 2 n ⟨#[]⟩ []) ++ r = [2] ++ (numB n ++ r) := by rw [vB]; rfl
  rw [hv] at h
  have kA : Below w.heap.size w (w.alloc (.cells #[.int .i64 0, .int .i64 0, .string ⟨#[]⟩, .slice none 0 0] 59)) := (Below.refl _ _).alloc (Nat.le_refl _) _
  have HC := toHid (cut_any b _ [2] (numB n ++ r) d (h.below kA))
  have HA := toHid (alloc_new w (.cells #[.int .i64 0, .int .i64 0, .string ⟨#[]⟩, .slice none 0 0] 59))
  have hzA : (w.alloc (.cells #[.int .i64 0, .int .i64 0, .string ⟨#[]⟩, .slice none 0 0] 59)).heap.size = w.heap.size + 1 := by simp
  have HZA := toHid hzA
  clear h hv hzA
  go_enter Tryd.func62, Tryd.ntmps62
  go_upto_region 1 with fail
  generalize w.alloc (.cells #[.int .i64 0, .int .i64 0, .string ⟨#[]⟩, .slice none 0 0] 59) = WA at kA HC HA HZA ⊢
  go_wp2_with fail
  refine HC.out.mono ?_
  rintro e u1 ⟨⟨g0, off, c, rfl, hc, hgb, hbt, hR1, hs1⟩, hb1, hf1⟩
  have y0 := hbt 0 2 rfl
  rw [Nat.add_zero] at y0
  have hg1 : g0 < u1.heap.size := by have := HZA.out; omega
  have HA1 := toHid ((hf1 w.heap.size (by rw [HZA.out]; omega) hne).trans HA.out)
  have hz1 : w.heap.size < u1.heap.size := (Array.getElem?_eq_some_iff.1 HA1.out).1
  have HB1 := toHid ((kA.mono (Nat.le_of_lt hlt)).trans hb1)
  have HF1 := toHid ((Rf.of (b := b) kA).trans kA.size hf1)
  have HR1 := toHid hR1
  clear hbt hR1 hb1 hf1 HC hs1
  go_upto_region 5 with fail
  have hb1s : b < u1.heap.size := by omega
  have kB : Below u1.heap.size u1 (u1.alloc (.cells #[.int .i64 2, .int .i64 0, .string ⟨#[]⟩, .slice none 0 0] 59)) := (Below.refl _ _).alloc (Nat.le_refl _) _
  have HN := toHid (rnumber_any b _ n r d h0 h1 (HR1.out.below kB))
  have HV := toHid (alloc_new u1 (.cells #[.int .i64 2, .int .i64 0, .string ⟨#[]⟩, .slice none 0 0] 59))
  have HA2 := toHid ((kB.block w.heap.size hz1).trans HA1.out)
  have HB2 := toHid (HB1.out.trans (kB.mono (Nat.le_of_lt hb1s)))
  have HF2 := toHid (HF1.out.trans (by omega) (Rf.of (b := b) kB))
  have hzB : (u1.alloc (.cells #[.int .i64 2, .int .i64 0, .string ⟨#[]⟩, .slice none 0 0] 59)).heap.size = u1.heap.size + 1 := by simp
  have HZB := toHid hzB
  clear hzB
  generalize u1.alloc (.cells #[.int .i64 2, .int .i64 0, .string ⟨#[]⟩, .slice none 0 0] 59) = WB at kB HN HV HA2 HB2 HF2 HZB ⊢
  go_wp2_with fail
  refine HN.out.mono ?_
  rintro e u2 ⟨rfl, hR2, hb2, hf2⟩
  have HV3 := toHid ((hf2 u1.heap.size (by rw [HZB.out]; omega) (by omega)).trans HV.out)
  have HA3 := toHid ((hf2 w.heap.size (by rw [HZB.out]; omega) hne).trans HA2.out)
  have HB3 := toHid (HB2.out.trans hb2)
  have HF3 := toHid (HF2.out.trans (by rw [HZB.out]; omega) hf2)
  have HR3 := toHid hR2
  have z1 : u1.heap.size < u2.heap.size := (Array.getElem?_eq_some_iff.1 HV3.out).1
  have z2 : w.heap.size < u2.heap.size := by omega
  have v0 := cell_of HV3.out 0
  have v1 := cell_of HV3.out 1
  have v2 := cell_of HV3.out 2
  have v3 := cell_of HV3.out 3
  have q1 := free_of HV3.out 1
  simp at v0 v1 v2 v3
  have a0 := cell_of HA3.out 0
  have a1 := cell_of HA3.out 1
  have a2 := cell_of HA3.out 2
  have a3 := cell_of HA3.out 3
  have f0 := free_of HA3.out 0
  have f1 := free_of HA3.out 1
  have f2 := free_of HA3.out 2
  have f3 := free_of HA3.out 3
  simp at a0 a1 a2 a3
  have hnn : u1.heap.size ≠ w.heap.size := by omega
  clear hR2 hb2 hf2 HN
  go_wp2_with fail
  obtain ⟨X, hX⟩ : ∃ X, X = u2.setCell ⟨u1.heap.size, 1, none⟩ (.int .i64 n) := ⟨_, rfl⟩
  rw [← hX]
  have hXo : ∀ j, j ≠ u1.heap.size → X.heap[j]? = u2.heap[j]? := fun j hj => by
    rw [hX]
    simp only [World.setCell, Array.getElem?_modify]
    rw [if_neg (by show ¬ u1.heap.size = j; omega)]
  have hXb : Below u1.heap.size u2 X := by rw [hX]; exact (Below.refl _ _).setCell (p := ⟨u1.heap.size, 1, none⟩) (Nat.le_refl _) _
  have eP : (((X.setCell ⟨w.heap.size, 0, none⟩ (.int .i64 2)).setCell ⟨w.heap.size, 1, none⟩ (.int .i64 n)).setCell ⟨w.heap.size, 2, none⟩ (.string ⟨#[]⟩)).setCell ⟨w.heap.size, 3, none⟩ (.slice none 0 0) = putL X w.heap.size 0 [.int .i64 2, .int .i64 n, .string ⟨#[]⟩, .slice none 0 0] := rfl
  rw [eP]
  have E := box4 ((hXo w.heap.size (by omega)).trans HA3.out) rfl (.int .i64 2) (.int .i64 n) (.string ⟨#[]⟩) (.slice none 0 0)
  have hbY : Below w.heap.size u2 (putL X w.heap.size 0 [.int .i64 2, .int .i64 n, .string ⟨#[]⟩, .slice none 0 0]) := (hXb.mono (Nat.le_of_lt hz1)).trans (putL_bel w.heap.size _ _ X)
  generalize putL X w.heap.size 0 [.int .i64 2, .int .i64 n, .string ⟨#[]⟩, .slice none 0 0] = Y at E hbY ⊢
  have t0 := cell_of E 0
  have t1 := cell_of E 1
  have t2 := cell_of E 2
  have t3 := cell_of E 3
  simp at t0 t1 t2 t3
  exact bodyPost_ret (v := .agg #[.int .i64 2, .int .i64 n, .string ⟨#[]⟩, .slice none 0 0]) (by simp [results, Tryd.results62, go_sem, t0, t1, t2, t3]) rfl ⟨rfl, HR3.out.keep (hbY.mono hlt), HB3.out.trans (hbY.mono (Nat.le_of_lt hlt)), fun j hj hn => (hbY.block j hj).trans (HF3.out j hj hn)⟩

theorem infoRS0 : (Tryd.prog.info? 9).map (fun i => (i.zero, i.size, i.bytes)) = some (some (.string ⟨#[]⟩), 1, 16) := by kernel_rfl
theorem infoRS : ∃ i, Tryd.prog.info? 9 = some i ∧ i.zero = some (.string ⟨#[]⟩) ∧ i.size = 1 ∧ i.bytes = 16 := by
  obtain ⟨i, h, e⟩ := Option.map_eq_some_iff.1 infoRS0
  simp only [Prod.mk.injEq] at e
  exact ⟨i, h, e⟩

set_option maxHeartbeats 4000000 in
set_option maxRecDepth 100000 in
theorem rlistS_any (b : Nat) (w : World) (L : List ByteArray) (r : List UInt8) (d : Int) (most : Nat) (hmost : L.length ≤ most) (hm : most ≤ 1000) (hok : ∀ y ∈ L, y.size ≤ 1000000) (h : Rd b w (eaB txB L ++ r) d) :
    Calls Tryd.prog 52 #[.pointer (some ⟨b, 0, none⟩), .int .i64 most, .func (.func 53) #[.pointer (some ⟨b, 0, none⟩)] #[]] w fun e w' => (∃ v, e = .returned v ∧ w'.ownsRow w.heap.size 9 1 v L.length (strs L) ∧ (L = [] → v = .slice none 0 0)) ∧ Rd b w' r d ∧ Below b w w' ∧ Rf b w w' := by
  have hlt := h.lt
  have h' : Rd b w (bts L.length ++ ((L.map txB).flatten ++ r)) d := by unfold eaB at h; rw [List.append_assoc] at h; exact h
  have HB := toHid (rbits_any b w L.length _ d (by omega) h')
  have HOK := toHid hok
  obtain ⟨i0, hi0, hiz, his, hib⟩ := infoRS
  have HI0 := toHid hi0
  have HIZ := toHid hiz
  have HIS := toHid his
  have HIB := toHid hib
  obtain ⟨n, hn⟩ : ∃ n, n = L.length := ⟨_, rfl⟩
  rw [← hn] at hmost HB
  rw [← hn]
  have HN := toHid hn
  clear h h' hok hi0 hiz his hib hn
  have hle : ¬ (most : Int) < n := by omega
  go_enter Tryd.func52, Tryd.ntmps52
  go_wp2_with fail
  refine HB.out.mono ?_
  rintro e w1 ⟨rfl, hR1, hb1, hf1⟩
  have HR1 := toHid hR1
  have HF1 := toHid hf1
  clear hR1 hf1 HB
  go_wp2_with fail
  rw [show decide (most < n) = false from decide_eq_false (by omega)]
  go_loopg [8, 18] n (fun g s8 s18 wr => ∃ (i : Nat) (ov : Value), i ≤ n ∧ n - i ≤ g ∧ ov = s8 ∧ s18 = .int .u64 i ∧ wr.ownsRow w.heap.size 9 1 ov i (strs (L.take i)) ∧ Rd b wr (((L.drop i).map txB).flatten ++ r) d ∧ Below b w wr ∧ Rf b w wr ∧ (i = 0 → ov = .slice none 0 0))
  case atStart => exact ⟨0, _, Nat.zero_le _, by omega, rfl, by go_num, World.ownsRow_nil _ _ _ _, by simpa using HR1.out, hb1, HF1.out, fun _ => rfl⟩
  case round =>
    clear HR1 HF1 hb1
    obtain ⟨i, ov, hi, hg, rfl, rfl, hown, hR, hbw, hf, hnil⟩ := hrel
    have hsz := hbw.size
    by_cases hlt2 : i < n
    · obtain ⟨y, hy⟩ : ∃ y, L[i]? = some y := ⟨L[i]'(by rw [← HN.out]; exact hlt2), List.getElem?_eq_getElem _⟩
      have hd : L.drop i = y :: L.drop (i + 1) := by
        obtain ⟨hl, rfl⟩ := List.getElem?_eq_some_iff.1 hy
        exact List.drop_eq_getElem_cons hl
      have hyo := HOK.out y (List.mem_of_getElem? hy)
      have hR' : Rd b wr (txB y ++ (((L.drop (i + 1)).map txB).flatten ++ r)) d := by rw [hd] at hR; simpa [List.append_assoc] using hR
      have HC := toHid (rtext_any b wr y _ d hyo hR')
      have HOW := toHid hown
      have HF := toHid hf
      have HY := toHid hy
      have hil : (i : Int) < n := by omega
      have hiw : IntKind.u64.wrap ((i : Int) + 1) = (i : Int) + 1 := by rw [IntKind.wrap_u64]; omega
      clear hR hR' hown hf hd hyo hy
      go_wp2_with fail
      refine HC.out.mono ?_
      rintro e u1 ⟨rfl, hR1, hb1, hf1⟩
      have hs1 := hb1.size
      have HR1 := toHid hR1
      have HB1 := toHid (hbw.trans hb1)
      have HF1 := toHid (HF.out.trans hsz hf1)
      have OWN2 := toHid (row_keep HOW.out (w' := u1) (fun g hg hl => hf1 g hl (by have := (HOW.out.lt g hg).1; omega)))
      have HBy : (i + 1) * 16 ≤ 140737488355328 := by omega
      have HBm : i + 1 ≤ maxLen := by unfold maxLen; omega
      clear hR1 hb1 hf1 HC HF
      go_wp2_with (at_builtin; refine wpList_append_lies _ rfl _ _ 41 rfl w.heap.size 9 i0 _ 1 16 Tryd.underlying41 HI0.out HIZ.out HIS.out HIB.out rfl (by omega) ov i (strs (L.take i)) rfl (OWN2.out.alloc _) ⟨u1.heap.size, 0, none⟩ 1 1 [.string y] rfl rfl (World.news_of_block (cs := #[.string y]) (t := 9) (fr := (0, 0)) (alloc_new u1 _)) (by simp [Value.oneCell']) (by omega) HBm HBy (by simp; omega) (u1.heap.size + 1) (by simp) ?_)
      intro gg cap w5 hown5 hgrow hat5 hlt5
      have hb5 : Below w.heap.size u1 w5 := ((Below.refl _ _).alloc (by omega) _).grown hgrow (by simp; omega) (fun j hj => (OWN2.out.lt j hj).1)
      have HR5 := toHid (HR1.out.keep (hb5.mono hlt))
      have HB5 := toHid (HB1.out.trans (hb5.mono (Nat.le_of_lt hlt)))
      have HF5 : Hid (Rf b w w5) := fun j hj hn => (hb5.block j hj).trans (HF1.out j hj hn)
      have HO5 : Hid (w5.ownsRow w.heap.size 9 1 (.slice (some ⟨gg, 0, none⟩) (i + 1) cap) (i + 1) (strs (L.take (i + 1)))) := by
        have e : strs (L.take (i + 1)) = strs (L.take i) ++ [.string y] := by
          rw [List.take_add_one, HY.out]
          simp [strs]
        rw [e]
        exact hown5
      clear hown5 hgrow hat5 hlt5 hb5
      go_wp2_with fail
      go_roundg (n - (i + 1))
      case measure => omega
      case rel => exact ⟨i + 1, .slice (some ⟨gg, 0, none⟩) (i + 1) cap, by omega, by omega, rfl, by go_num, HO5.out, HR5.out, HB5.out, HF5.out, fun h => by omega⟩
    · have hil : ¬ (i : Int) < n := by omega
      obtain rfl : i = n := by omega
      have hT : L.take i = L := List.take_of_length_le (by rw [HN.out]; exact Nat.le_refl _)
      have hD : L.drop i = [] := List.drop_eq_nil_of_le (by rw [HN.out]; exact Nat.le_refl _)
      rw [hT] at hown
      rw [hD] at hR
      have HOW := toHid hown
      have HR := toHid hR
      have HF := toHid hf
      clear hown hR hf hT hD
      go_wp2_with fail
      go_ret
      exact ⟨⟨_, rfl, HOW.out, fun h => hnil (by rw [HN.out, h]; rfl)⟩, by simpa using HR.out, hbw, HF.out⟩

theorem box3R {X : World} {b : Nat} {t : TypeId} {cs : Array Value} (hb : X.heap[b]? = some (.cells cs t (0, 0))) (h4 : cs.size = 3) (v0 v1 v2 : Value) :
    (putL X b 0 [v0, v1, v2]).heap[b]? = some (.cells #[v0, v1, v2] t (0, 0)) := by
  have := putL_here [v0, v1, v2] 0 X cs hb
  rw [this]
  match cs, h4 with
  | ⟨[a, b, c]⟩, _ => rfl

theorem box5R {X : World} {b : Nat} {t : TypeId} {u0 u1 u2 u3 u4 : Value} (hb : X.heap[b]? = some (.cells #[u0, u1, u2, u3, u4] t (0, 0))) (h5 : True = True) (v0 v1 v2 v3 v4 : Value) :
    (putL X b 0 [v0, v1, v2, v3, v4]).heap[b]? = some (.cells #[v0, v1, v2, v3, v4] t (0, 0)) := by
  have := putL_here [v0, v1, v2, v3, v4] 0 X #[u0, u1, u2, u3, u4] hb
  exact this

/-- A row of one's own, behind the reader's block and away from a box. -/
def RowR (b bx : Nat) (w : World) (e : TypeId) (size : Nat) (v : Value) (n : Nat) (xs : List Value) : Prop := w.ownsRow (b + 1) e size v n xs ∧ v.ownBlock ≠ some bx

theorem row_base {B b bx n size : Nat} {e : TypeId} {v : Value} {xs : List Value} {w : World} (h : w.ownsRow B e size v n xs) (h1 : b + 1 ≤ B) (h2 : bx < B) : RowR b bx w e size v n xs :=
  ⟨⟨h.1, h.2.elim .inl fun ⟨g, cap, cur, e1, e2, e3⟩ => .inr ⟨g, cap, cur, e1, Nat.le_trans h1 e2, e3⟩⟩, fun e => by have := (h.lt bx e).1; omega⟩

theorem RowR.kept {b bx n size : Nat} {e : TypeId} {v : Value} {xs : List Value} {w w' : World} (h : RowR b bx w e size v n xs) (hk : ∀ k, b + 1 ≤ k → k ≠ bx → k < w.heap.size → w'.heap[k]? = w.heap[k]?) : RowR b bx w' e size v n xs :=
  ⟨row_keep h.1 (fun g hg hl => hk g (h.1.lt g hg).1 (fun e => h.2 (e ▸ hg)) hl), h.2⟩

/-- A property with a whole number. -/
def flatP (p : ByteArray × Int) : AP := ⟨p.1, .node 2 p.2 ⟨#[]⟩ []⟩
def rowF (P : List (ByteArray × Int)) : List Value := (P.map fun p => [Value.string p.1, .int .i64 2, .int .i64 p.2, .string ⟨#[]⟩, .slice none 0 0]).flatten

set_option maxHeartbeats 4000000 in
set_option maxRecDepth 100000 in
theorem rprop_any (b : Nat) (w : World) (y : ByteArray × Int) (r : List UInt8) (d : Int) (hy : y.1.size ≤ 1000000 ∧ 0 ≤ y.2 ∧ y.2 ≤ 1099511627776) (h : Rd b w (pB (flatP y) ++ r) d) :
    Calls Tryd.prog 55 #[.pointer (some ⟨b, 0, none⟩)] w fun e w' => e = .returned (.agg #[.string y.1, .int .i64 2, .int .i64 y.2, .string ⟨#[]⟩, .slice none 0 0]) ∧ Rd b w' r d ∧ Below b w w' ∧ Rf b w w' := by
  have hlt := h.lt
  have hne : w.heap.size ≠ b := by omega
  have hsp : pB (flatP y) ++ r = txB y.1 ++ (vB (.node 2 y.2 ⟨#[]⟩ []) ++ r) := by unfold pB flatP; rw [List.append_assoc]
  rw [hsp] at h
  clear hsp
  have kA : Below w.heap.size w (w.alloc (.cells #[.string ⟨#[]⟩, .int .i64 0, .int .i64 0, .string ⟨#[]⟩, .slice none 0 0] 62)) := (Below.refl _ _).alloc (Nat.le_refl _) _
  have HR0 := toHid (h.below kA)
  have HA0 := toHid (alloc_new w (.cells #[.string ⟨#[]⟩, .int .i64 0, .int .i64 0, .string ⟨#[]⟩, .slice none 0 0] 62))
  have HB0 := toHid (kA.mono (Nat.le_of_lt hlt))
  have HF0 : Hid (Rf b w (w.alloc (.cells #[.string ⟨#[]⟩, .int .i64 0, .int .i64 0, .string ⟨#[]⟩, .slice none 0 0] 62))) := Rf.of kA
  have hzA : (w.alloc (.cells #[.string ⟨#[]⟩, .int .i64 0, .int .i64 0, .string ⟨#[]⟩, .slice none 0 0] 62)).heap.size = w.heap.size + 1 := by simp
  have z0 : w.heap.size < (w.alloc (.cells #[.string ⟨#[]⟩, .int .i64 0, .int .i64 0, .string ⟨#[]⟩, .slice none 0 0] 62)).heap.size := by omega
  clear h hzA
  go_enter Tryd.func55, Tryd.ntmps55
  go_upto_region 1 with fail
  generalize w.alloc (.cells #[.string ⟨#[]⟩, .int .i64 0, .int .i64 0, .string ⟨#[]⟩, .slice none 0 0] 62) = u0 at kA HR0 HA0 HB0 HF0 z0 ⊢
  have HC1 := toHid (rtext_any b u0 y.1 _ d hy.1 HR0.out)
  go_wp2_with fail
  refine HC1.out.mono ?_
  rintro e u1 ⟨rfl, hR1, hb1, hf1⟩
  have HR1 := toHid hR1
  have HB1 := toHid (HB0.out.trans hb1)
  have HF1 := toHid (HF0.out.trans (Nat.le_of_lt z0) hf1)
  have HA1 := toHid ((hf1 w.heap.size z0 hne).trans HA0.out)
  have z1 : w.heap.size < u1.heap.size := (Array.getElem?_eq_some_iff.1 HA1.out).1
  clear hR1 hb1 hf1 HC1
  have HC2 := toHid (rvalue_int b u1 y.2 _ d hy.2.1 hy.2.2 HR1.out)
  go_wp2_with fail
  refine HC2.out.mono ?_
  rintro e u2 ⟨rfl, hR2, hb2, hf2⟩
  have HR2 := toHid hR2
  have HB2 := toHid (HB1.out.trans hb2)
  have HF2 := toHid (HF1.out.trans (Nat.le_of_lt z1) hf2)
  have HA2 := toHid ((hf2 w.heap.size z1 hne).trans HA1.out)
  have z2 : w.heap.size < u2.heap.size := (Array.getElem?_eq_some_iff.1 HA2.out).1
  clear hR2 hb2 hf2 HC2
  have f0 := free_of HA2.out 0
  have f1 := free_of HA2.out 1
  have f2 := free_of HA2.out 2
  have f3 := free_of HA2.out 3
  have f4 := free_of HA2.out 4
  have d0 := cell_of HA2.out 0
  have d1 := cell_of HA2.out 1
  have d2 := cell_of HA2.out 2
  have d3 := cell_of HA2.out 3
  have d4 := cell_of HA2.out 4
  simp at d0 d1 d2 d3 d4
  go_wp2_with fail
  have eP : ((((u2.setCell ⟨w.heap.size, 0, none⟩ (.string y.1)).setCell ⟨w.heap.size, 1, none⟩ (.int .i64 2)).setCell ⟨w.heap.size, 2, none⟩ (.int .i64 y.2)).setCell ⟨w.heap.size, 3, none⟩ (.string ⟨#[]⟩)).setCell ⟨w.heap.size, 4, none⟩ (.slice none 0 0) = putL u2 w.heap.size 0 [.string y.1, .int .i64 2, .int .i64 y.2, .string ⟨#[]⟩, .slice none 0 0] := rfl
  rw [eP]
  have EBX := box5R HA2.out rfl (.string y.1) (.int .i64 2) (.int .i64 y.2) (.string ⟨#[]⟩) (.slice none 0 0)
  have hbY : Below w.heap.size u2 (putL u2 w.heap.size 0 [.string y.1, .int .i64 2, .int .i64 y.2, .string ⟨#[]⟩, .slice none 0 0]) := putL_bel w.heap.size _ _ u2
  have hYo : ∀ j, j ≠ w.heap.size → (putL u2 w.heap.size 0 [.string y.1, .int .i64 2, .int .i64 y.2, .string ⟨#[]⟩, .slice none 0 0]).heap[j]? = u2.heap[j]? := fun j hj => putL_other _ _ _ _ j hj
  generalize putL u2 w.heap.size 0 [.string y.1, .int .i64 2, .int .i64 y.2, .string ⟨#[]⟩, .slice none 0 0] = Y at EBX hbY hYo ⊢
  have t0 := cell_of EBX 0
  have t1 := cell_of EBX 1
  have t2 := cell_of EBX 2
  have t3 := cell_of EBX 3
  have t4 := cell_of EBX 4
  simp at t0 t1 t2 t3 t4
  exact bodyPost_ret (v := .agg #[.string y.1, .int .i64 2, .int .i64 y.2, .string ⟨#[]⟩, .slice none 0 0]) (by simp [results, Tryd.results55, go_sem, t0, t1, t2, t3, t4]) rfl ⟨rfl, HR2.out.keep (hbY.mono hlt), HB2.out.trans (hbY.mono (Nat.le_of_lt hlt)), fun j hj hn => (hbY.block j hj).trans (HF2.out j hj hn)⟩

theorem infoRP0 : (Tryd.prog.info? 62).map (fun i => (i.zero, i.size, i.bytes)) = some (some (.agg #[.string ⟨#[]⟩, .int .i64 0, .int .i64 0, .string ⟨#[]⟩, .slice none 0 0]), 5, 72) := by kernel_rfl
theorem infoRP : ∃ i, Tryd.prog.info? 62 = some i ∧ i.zero = some (.agg #[.string ⟨#[]⟩, .int .i64 0, .int .i64 0, .string ⟨#[]⟩, .slice none 0 0]) ∧ i.size = 5 ∧ i.bytes = 72 := by
  obtain ⟨i, h, e⟩ := Option.map_eq_some_iff.1 infoRP0
  simp only [Prod.mk.injEq] at e
  exact ⟨i, h, e⟩

set_option maxHeartbeats 4000000 in
set_option maxRecDepth 100000 in
theorem rlistP_any (b : Nat) (w : World) (L : List (ByteArray × Int)) (r : List UInt8) (d : Int) (most : Nat) (hmost : L.length ≤ most) (hm : most ≤ 1000) (hok : ∀ y ∈ L, y.1.size ≤ 1000000 ∧ 0 ≤ y.2 ∧ y.2 ≤ 1099511627776) (h : Rd b w (eaB (fun p => pB (flatP p)) L ++ r) d) :
    Calls Tryd.prog 54 #[.pointer (some ⟨b, 0, none⟩), .int .i64 most, .func (.func 55) #[.pointer (some ⟨b, 0, none⟩)] #[]] w fun e w' => (∃ v, e = .returned v ∧ w'.ownsRow w.heap.size 62 5 v L.length (rowF L) ∧ (L = [] → v = .slice none 0 0)) ∧ Rd b w' r d ∧ Below b w w' ∧ Rf b w w' := by
  have hlt := h.lt
  have h' : Rd b w (bts L.length ++ ((L.map (fun p => pB (flatP p))).flatten ++ r)) d := by unfold eaB at h; rw [List.append_assoc] at h; exact h
  have HB := toHid (rbits_any b w L.length _ d (by omega) h')
  have HOK := toHid hok
  obtain ⟨i0, hi0, hiz, his, hib⟩ := infoRP
  have HI0 := toHid hi0
  have HIZ := toHid hiz
  have HIS := toHid his
  have HIB := toHid hib
  obtain ⟨n, hn⟩ : ∃ n, n = L.length := ⟨_, rfl⟩
  rw [← hn] at hmost HB
  rw [← hn]
  have HN := toHid hn
  clear h h' hok hi0 hiz his hib hn
  have hle : ¬ (most : Int) < n := by omega
  go_enter Tryd.func54, Tryd.ntmps54
  go_wp2_with fail
  refine HB.out.mono ?_
  rintro e w1 ⟨rfl, hR1, hb1, hf1⟩
  have HR1 := toHid hR1
  have HF1 := toHid hf1
  clear hR1 hf1 HB
  go_wp2_with fail
  rw [show decide (most < n) = false from decide_eq_false (by omega)]
  go_loopg [8, 18] n (fun g s8 s18 wr => ∃ (i : Nat) (ov : Value), i ≤ n ∧ n - i ≤ g ∧ ov = s8 ∧ s18 = .int .u64 i ∧ wr.ownsRow w.heap.size 62 5 ov i (rowF (L.take i)) ∧ Rd b wr (((L.drop i).map (fun p => pB (flatP p))).flatten ++ r) d ∧ Below b w wr ∧ Rf b w wr ∧ (i = 0 → ov = .slice none 0 0))
  case atStart => exact ⟨0, _, Nat.zero_le _, by omega, rfl, by go_num, World.ownsRow_nil _ _ _ _, by simpa using HR1.out, hb1, HF1.out, fun _ => rfl⟩
  case round =>
    clear HR1 HF1 hb1
    obtain ⟨i, ov, hi, hg, rfl, rfl, hown, hR, hbw, hf, hnil⟩ := hrel
    have hsz := hbw.size
    by_cases hlt2 : i < n
    · obtain ⟨y, hy⟩ : ∃ y, L[i]? = some y := ⟨L[i]'(by rw [← HN.out]; exact hlt2), List.getElem?_eq_getElem _⟩
      have hd : L.drop i = y :: L.drop (i + 1) := by
        obtain ⟨hl, rfl⟩ := List.getElem?_eq_some_iff.1 hy
        exact List.drop_eq_getElem_cons hl
      have hyo := HOK.out y (List.mem_of_getElem? hy)
      have hR' : Rd b wr ((fun p => pB (flatP p)) y ++ (((L.drop (i + 1)).map (fun p => pB (flatP p))).flatten ++ r)) d := by rw [hd] at hR; simpa [List.append_assoc] using hR
      have HC := toHid (rprop_any b wr y _ d hyo hR')
      have HOW := toHid hown
      have HF := toHid hf
      have HY := toHid hy
      have hil : (i : Int) < n := by omega
      have hiw : IntKind.u64.wrap ((i : Int) + 1) = (i : Int) + 1 := by rw [IntKind.wrap_u64]; omega
      clear hR hR' hown hf hd hyo hy
      go_wp2_with fail
      refine HC.out.mono ?_
      rintro e u1 ⟨rfl, hR1, hb1, hf1⟩
      have hs1 := hb1.size
      have HR1 := toHid hR1
      have HB1 := toHid (hbw.trans hb1)
      have HF1 := toHid (HF.out.trans hsz hf1)
      have OWN2 := toHid (row_keep HOW.out (w' := u1) (fun g hg hl => hf1 g hl (by have := (HOW.out.lt g hg).1; omega)))
      have HBy : (i + 1) * 72 ≤ 140737488355328 := by omega
      have HBm : i + 1 ≤ maxLen := by unfold maxLen; omega
      clear hR1 hb1 hf1 HC HF
      go_wp2_with (at_builtin; refine wpList_append_lies _ rfl _ _ 42 rfl w.heap.size 62 i0 _ 5 72 Tryd.underlying42 HI0.out HIZ.out HIS.out HIB.out rfl (by omega) ov i (rowF (L.take i)) rfl (OWN2.out.alloc _) ⟨u1.heap.size, 0, none⟩ 1 1 [.string y.1, .int .i64 2, .int .i64 y.2, .string ⟨#[]⟩, .slice none 0 0] rfl rfl (World.news_of_block (cs := #[.string y.1, .int .i64 2, .int .i64 y.2, .string ⟨#[]⟩, .slice none 0 0]) (t := 62) (fr := (0, 0)) (alloc_new u1 _)) (by simp [Value.oneCell']) (by omega) HBm HBy (by simp; omega) (u1.heap.size + 1) (by simp) ?_)
      intro gg cap w5 hown5 hgrow hat5 hlt5
      have hb5 : Below w.heap.size u1 w5 := ((Below.refl _ _).alloc (by omega) _).grown hgrow (by simp; omega) (fun j hj => (OWN2.out.lt j hj).1)
      have HR5 := toHid (HR1.out.keep (hb5.mono hlt))
      have HB5 := toHid (HB1.out.trans (hb5.mono (Nat.le_of_lt hlt)))
      have HF5 : Hid (Rf b w w5) := fun j hj hn => (hb5.block j hj).trans (HF1.out j hj hn)
      have HO5 : Hid (w5.ownsRow w.heap.size 62 5 (.slice (some ⟨gg, 0, none⟩) (i + 1) cap) (i + 1) (rowF (L.take (i + 1)))) := by
        have e : rowF (L.take (i + 1)) = rowF (L.take i) ++ [.string y.1, .int .i64 2, .int .i64 y.2, .string ⟨#[]⟩, .slice none 0 0] := by
          rw [List.take_add_one, HY.out]
          simp [rowF]
        rw [e]
        exact hown5
      clear hown5 hgrow hat5 hlt5 hb5
      go_wp2_with fail
      go_roundg (n - (i + 1))
      case measure => omega
      case rel => exact ⟨i + 1, .slice (some ⟨gg, 0, none⟩) (i + 1) cap, by omega, by omega, rfl, by go_num, HO5.out, HR5.out, HB5.out, HF5.out, fun h => by omega⟩
    · have hil : ¬ (i : Int) < n := by omega
      obtain rfl : i = n := by omega
      have hT : L.take i = L := List.take_of_length_le (by rw [HN.out]; exact Nat.le_refl _)
      have hD : L.drop i = [] := List.drop_eq_nil_of_le (by rw [HN.out]; exact Nat.le_refl _)
      rw [hT] at hown
      rw [hD] at hR
      have HOW := toHid hown
      have HR := toHid hR
      have HF := toHid hf
      clear hown hR hf hT hD
      go_wp2_with fail
      go_ret
      exact ⟨⟨_, rfl, HOW.out, fun h => hnil (by rw [HN.out, h]; rfl)⟩, by simpa using HR.out, hbw, HF.out⟩
end Go.Proofs.YtgldelbbfgnndaaDoor
