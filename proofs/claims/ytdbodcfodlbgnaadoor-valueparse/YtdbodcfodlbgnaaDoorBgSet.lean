/-
  What is proved here: espalierbig's SetString of a word of digits, a sign ahead or none: the number that they make.
-/
import Derived.Test.YtdbodcfodlbgnaaDoorBgS
import Derived.Test.YtdbodcfodlbgnaaDoorVpDig
namespace Go.Proofs.YtdbodcfodlbgnaaDoor.BG
open Go.RowKit
set_option linter.unusedVariables false

/-- How many words a number has that is below a power of ten. -/
theorem len_dec {ws : List Nat} {k : Nat} (h : Trimmed ws) (hv : vW ws < 10 ^ k) (hk : k ≤ 4000) : ws.length ≤ 500 := by
  apply Nat.le_of_not_lt
  intro hgt
  obtain ⟨m, hm⟩ : ∃ m, ws.length = m + 1 := ⟨ws.length - 1, by omega⟩
  obtain ⟨y, hy⟩ : ∃ y, ws[m]? = some y := ⟨ws[m]'(by omega), List.getElem?_eq_getElem _⟩
  have h0 := h m y hm hy
  have h2 := vW_split hy
  have h4 : 4294967296 ^ m * 1 ≤ 4294967296 ^ m * y := Nat.mul_le_mul_left _ (by omega)
  obtain ⟨N, hN⟩ : ∃ N, N = 500 := ⟨_, rfl⟩
  have h5 : ((10 : Nat) ^ 8) ^ N ≤ 4294967296 ^ N := Nat.pow_le_pow_left (by decide) _
  have h6 : (4294967296 : Nat) ^ N ≤ 4294967296 ^ m := Nat.pow_le_pow_right (by decide) (by omega)
  have h7 : (10 : Nat) ^ k ≤ 10 ^ (8 * N) := Nat.pow_le_pow_right (by decide) (by omega)
  have h8 : (10 : Nat) ^ (8 * N) = (10 ^ 8) ^ N := Nat.pow_mul 10 8 N
  clear hN
  have h9 : 4294967296 ^ m ≤ vW ws := by
    rw [h2]
    omega
  exact absurd (Nat.le_trans h7 (Nat.le_trans (Nat.le_of_eq h8) (Nat.le_trans h5 (Nat.le_trans h6 h9)))) (by omega)

theorem len_small {ws : List Nat} (h : Trimmed ws) (hv : vW ws < 4294967296) : ws.length ≤ 1 := by
  apply Nat.le_of_not_lt
  intro hgt
  have := vW_short (xs := [4294967295]) (fun x hx => by simp at hx; omega) h (by simpa using hgt)
  have e : vW [4294967295] = 4294967295 := by decide
  omega

set_option maxHeartbeats 4000000 in
set_option maxRecDepth 100000 in
theorem set_neg (zb : Nat) (z0 : Bool) (v0 : Value) (word T0 : ByteArray) (ds : List UInt8) (w : World) (hz : w.heap[zb]? = some (.cells #[.bool z0, v0] 58 (0, 0))) (hv0 : ∀ x : Nat, v0 ≠ .int .u32 (x : Int)) (hsz : word.size ≤ 4000) (h0 : 0 < word.size) (hc : word[0].toNat = 45) (hT : T0 = (word.extract 1 word.size)) (hTp : 0 < T0.size) (hTd : T0.data.toList = ds) (hds : ∀ c ∈ ds, 48 ≤ c.toNat ∧ c.toNat ≤ 57) :
    Calls Tryd.prog 25 #[.pointer (some ⟨zb, 0, none⟩), .string word, .int .i64 10] w fun e w' => e = .returned (.tuple #[.pointer (some ⟨zb, 0, none⟩), .bool true]) ∧ IntAt w' zb (sgn true (decV ds 0)) ∧ (∀ j, j < w.heap.size → j ≠ zb → w'.heap[j]? = w.heap[j]?) ∧ Below zb w w' := by
  have hzb : zb < w.heap.size := (Array.getElem?_eq_some_iff.1 hz).1
  have hTs : T0.size ≤ 4000 := by rw [hT]; simp; omega
  have hTl : T0.size = ds.length := by rw [← hTd]; exact Array.length_toList.symm
  have HTD := toHid hTd
  have HDS := toHid hds
  have HZ := toHid hz
  have HTL := toHid hTl
  have HTB : Hid (∀ i, (h : i < T0.size) → ∃ c, ds[i]? = some c ∧ c = T0[i]) := fun i h => by
    refine ⟨T0[i], ?_, rfl⟩
    rw [← hTd, List.getElem?_eq_getElem (by simpa using h)]
    rfl
  have HW10 : Hid (∀ W : World, Calls Tryd.prog 48 #[.int .u64 10] W fun e w' => BigEnd w' 10 e ∧ Below W.heap.size W w') := fun W => words_any 10 W (by decide)
  have hb10 : IntKind.u64.wrap 10 = 10 := by rw [IntKind.wrap_u64]; decide
  have hTp0 : ((T0.size : Int) == 0) = false := beq_eq_false_iff_ne.2 (by omega)
  have h0' : (0 : Int) < (word.size : Int) := by omega
  have hc1 : ((word[0].toNat : Int) == 45) = true := by simp; omega
  have hsl : ∀ wx : World, (Instr.slice 9 (.string word) (some (.int .i64 1)) none none).run Tryd.prog wx = .ok (.string T0) wx := fun wx => by
    rw [run_slice_string_from_if (P := Tryd.prog) wx 9 word .i64 1 Tryd.underlying9, if_pos (by omega), hT]
    rfl
  skip
  clear hT hTd hds hz hTl
  go_enter Tryd.func25, Tryd.ntmps25
  go_wp2_with fail
  go_loopg [9, 10, 11, 12] T0.size (fun g s9 s10 s11 s12 wr => ∃ (i : Nat) (a : Option Addr) (l c : Nat) (ws : List Nat), i ≤ T0.size ∧ T0.size - i ≤ g ∧ s10 = .int .i64 i ∧ s9 = .slice a l c ∧ WAt wr ws a l ∧ l ≤ c ∧ c ≤ 9223372036854775807 ∧ (a = none → c = 0) ∧ vW ws = decV (ds.take i) 0 ∧ Trimmed ws ∧ Below w.heap.size w wr)
  case atStart => exact ⟨0, none, 0, 0, [], Nat.zero_le _, by omega, by go_num, rfl, ⟨rfl, by omega, (fun x hx => by cases hx), fun h => by omega⟩, Nat.le_refl _, by omega, fun _ => rfl, by simp [vW, decV], (fun m x hm _ => by simp at hm), Below.refl _ _⟩
  case round =>
    obtain ⟨i, a, l, c, ws, hi, hg, rfl, rfl, hwa, hlc, hc9, han, hv, htr, hbw⟩ := hrel
    have hl5 : l ≤ 500 := by
      rw [hwa.1]
      refine len_dec htr (k := i) ?_ (by omega)
      rw [hv]
      have h1 := decV_lt (ds.take i) 0 (fun c hc => (HDS.out c (List.mem_of_mem_take hc)).2)
      have h2 : (ds.take i).length = i := by rw [List.length_take]; have := HTL.out; omega
      rw [h2] at h1
      omega
    have HWA := toHid hwa
    have HV := toHid hv
    have HTR := toHid htr
    have HBW := toHid hbw
    have HAN := toHid han
    clear hwa hv htr hbw han
    by_cases hlt : i < T0.size
    · obtain ⟨cb, hcb1, hcb2⟩ := HTB.out i hlt
      have hcd := HDS.out cb (List.mem_of_getElem? hcb1)
      obtain ⟨d, hd⟩ : ∃ d, d = cb.toNat - 48 := ⟨_, rfl⟩
      have hd10 : d < 10 := by omega
      have d0 : (i : Int) < (T0.size : Int) := by omega
      have d1 : (48 : Int) ≤ (T0[i].toNat : Int) := by rw [← hcb2]; omega
      have d2 : (T0[i].toNat : Int) ≤ 57 := by rw [← hcb2]; omega
      have d3 : IntKind.u8.wrap ((T0[i].toNat : Int) - 48) = (d : Int) := by
        rw [← hcb2]
        have e : (cb.toNat : Int) - 48 = (d : Int) := by omega
        rw [e, IntKind.wrap_u8]
        omega
      have d4 : ¬ (10 : Int) ≤ (d : Int) := by omega
      have d5 : IntKind.u64.wrap (d : Int) = (d : Int) := by rw [IntKind.wrap_u64]; omega
      have d6 : IntKind.i64.wrap (d : Int) = (d : Int) := by rw [IntKind.wrap_i64]; omega
      have HVN : Hid (decV (ds.take (i + 1)) 0 = vW ws * 10 + d) := by
        have e : ds.take (i + 1) = ds.take i ++ [cb] := by rw [List.take_add_one, hcb1]; rfl
        show _ = _
        rw [e, decV_snoc, HV.out, hd]
      clear hcb1 hcb2 hcd hd
      go_wp2_with fail
      refine (HW10.out wr).mono ?_
      rintro e u1 ⟨⟨ta, tl, tc, ts, rfl, g1, g2, g3, g4, g5, g6⟩, k1⟩
      have htl : tl ≤ 1 := by rw [g1.1]; exact len_small g6 (by rw [g5]; decide)
      have HM := toHid (mul_any ws ts a l c ta tl tc u1 (HWA.out.below k1) g1 (by omega) (by omega))
      have HG5 := toHid g5
      clear g1 g2 g3 g4 g5 g6
      go_wp2_with fail
      refine HM.out.mono ?_
      rintro e u2 ⟨⟨ma, ml, mc, ms, rfl, m1, m2, m3, m4, m5, m6⟩, k2⟩
      have hml : ml ≤ 501 := by
        rw [m1.1]
        refine Nat.le_trans (len_dec m6 (k := i + 1) ?_ (by omega)) (by omega)
        rw [m5, HG5.out]
        have h1 := decV_lt (ds.take i) 0 (fun c hc => (HDS.out c (List.mem_of_mem_take hc)).2)
        have h2 : (ds.take i).length = i := by rw [List.length_take]; have := HTL.out; omega
        rw [h2, ← HV.out] at h1
        rw [Nat.pow_succ]
        omega
      have HM1 := toHid m1
      have HM5 := toHid m5
      have HK2 := toHid (below2 k1 k2)
      clear m1 m2 m3 m4 m5 m6 HM k1 k2
      go_wp2_with fail
      refine (words_any d u2 (by omega)).mono ?_
      rintro e u3 ⟨⟨da, dl, dc, dd, rfl, n1, n2, n3, n4, n5, n6⟩, k3⟩
      have hdl : dl ≤ 1 := by rw [n1.1]; exact len_small n6 (by rw [n5]; omega)
      have HADD : Hid (Calls Tryd.prog 46 #[.slice ma ml mc, .slice da dl dc] u3 fun e w' => BigEnd w' (vW ms + vW dd) e ∧ Below u3.heap.size u3 w') := by
        by_cases hge : dl ≤ ml
        · exact add_ge ms dd ma ml mc da dl dc u3 (HM1.out.below k3) n1 (by omega) (by omega) hge
        · have := add_lt dd ms da dl dc ma ml mc u3 n1 (HM1.out.below k3) (by omega) (by omega) (by omega)
          rw [Nat.add_comm] at this
          exact this
      have HN5 := toHid n5
      have HK3 := toHid (below2 HK2.out k3)
      clear n1 n2 n3 n4 n5 n6 k3
      go_wp2_with fail
      refine HADD.out.mono ?_
      rintro e u4 ⟨⟨ra, rl, rc, rs, rfl, q1, q2, q3, q4, q5, q6⟩, k4⟩
      have HK4 := toHid (below2 (below2 HBW.out HK3.out) k4)
      have HQ1 := toHid q1
      have HQ5 : Hid (vW rs = decV (ds.take (i + 1)) 0) := by
        show _ = _
        rw [q5, HM5.out, HG5.out, HN5.out, HVN.out]
      have HQ6 := toHid q6
      have HQ4 := toHid q4
      clear q1 q5 q6 k4 HADD q4
      go_wp2_with fail
      go_roundg (T0.size - (i + 1))
      case measure => omega
      case rel => exact ⟨i + 1, ra, rl, rc, rs, by omega, Nat.le_refl _, by go_num, rfl, HQ1.out, q2, q3, HQ4.out, HQ5.out, HQ6.out, HK4.out⟩
    · have hil : i = T0.size := by omega
      have d0 : ¬ (i : Int) < (T0.size : Int) := by omega
      have hz1 := (HBW.out.block zb hzb).trans HZ.out
      have HGV := toHid (give_any zb z0 v0 true a l c wr hz1 (by omega))
      have HVE : Hid (vW ws = decV ds 0) := by
        show _ = _
        rw [HV.out, hil, HTL.out, List.take_length]
      clear hz1
      go_wp2_with fail
      refine HGV.out.mono ?_
      rintro e u1 ⟨rfl, m1, m2, m3, m4⟩
      have HIA : Hid (IntAt u1 zb (sgn true (decV ds 0))) := give_int (rn := true) HWA.out hlc hc9 HAN.out HTR.out (by rw [HVE.out]) m1 m2 m3 (row_old HBW.out hzb HZ.out hv0 HWA.out)
      have HOT : Hid (∀ j, j < w.heap.size → j ≠ zb → u1.heap[j]? = w.heap[j]?) := fun j hj hn => (m3 j hn).trans (HBW.out.block j hj)
      have HBL : Hid (Below zb w u1) := (HBW.out.mono (by omega)).trans m4
      clear m1 m2 m3 m4 HGV
      go_wp2_with fail
      exact bodyPost_ret (v := .tuple #[.pointer (some ⟨zb, 0, none⟩), .bool true]) (by simp [results, Tryd.results25, go_sem]) rfl ⟨rfl, HIA.out, HOT.out, HBL.out⟩

set_option maxHeartbeats 4000000 in
set_option maxRecDepth 100000 in
theorem set_pos (zb : Nat) (z0 : Bool) (v0 : Value) (word T0 : ByteArray) (ds : List UInt8) (w : World) (hz : w.heap[zb]? = some (.cells #[.bool z0, v0] 58 (0, 0))) (hv0 : ∀ x : Nat, v0 ≠ .int .u32 (x : Int)) (hsz : word.size ≤ 4000) (h0 : 0 < word.size) (hc : word[0].toNat ≠ 45) (hc2 : word[0].toNat ≠ 43) (hT : T0 = word) (hTp : 0 < T0.size) (hTd : T0.data.toList = ds) (hds : ∀ c ∈ ds, 48 ≤ c.toNat ∧ c.toNat ≤ 57) :
    Calls Tryd.prog 25 #[.pointer (some ⟨zb, 0, none⟩), .string word, .int .i64 10] w fun e w' => e = .returned (.tuple #[.pointer (some ⟨zb, 0, none⟩), .bool true]) ∧ IntAt w' zb (sgn false (decV ds 0)) ∧ (∀ j, j < w.heap.size → j ≠ zb → w'.heap[j]? = w.heap[j]?) ∧ Below zb w w' := by
  have hzb : zb < w.heap.size := (Array.getElem?_eq_some_iff.1 hz).1
  subst hT
  have hTl : T0.size = ds.length := by rw [← hTd]; exact Array.length_toList.symm
  have HTD := toHid hTd
  have HDS := toHid hds
  have HZ := toHid hz
  have HTL := toHid hTl
  have HTB : Hid (∀ i, (h : i < T0.size) → ∃ c, ds[i]? = some c ∧ c = T0[i]) := fun i h => by
    refine ⟨T0[i], ?_, rfl⟩
    rw [← hTd, List.getElem?_eq_getElem (by simpa using h)]
    rfl
  have HW10 : Hid (∀ W : World, Calls Tryd.prog 48 #[.int .u64 10] W fun e w' => BigEnd w' 10 e ∧ Below W.heap.size W w') := fun W => words_any 10 W (by decide)
  have hb10 : IntKind.u64.wrap 10 = 10 := by rw [IntKind.wrap_u64]; decide
  have hTp0 : ((T0.size : Int) == 0) = false := beq_eq_false_iff_ne.2 (by omega)
  have h0' : (0 : Int) < (T0.size : Int) := by omega
  have hc1 : ((T0[0].toNat : Int) == 45) = false := by simp; omega
  have hc3 : ((T0[0].toNat : Int) == 43) = false := by simp; omega
  skip
  clear hTd hds hz hTl
  go_enter Tryd.func25, Tryd.ntmps25
  go_wp2_with fail
  go_loopg [9, 10, 11, 12] T0.size (fun g s9 s10 s11 s12 wr => ∃ (i : Nat) (a : Option Addr) (l c : Nat) (ws : List Nat), i ≤ T0.size ∧ T0.size - i ≤ g ∧ s10 = .int .i64 i ∧ s9 = .slice a l c ∧ WAt wr ws a l ∧ l ≤ c ∧ c ≤ 9223372036854775807 ∧ (a = none → c = 0) ∧ vW ws = decV (ds.take i) 0 ∧ Trimmed ws ∧ Below w.heap.size w wr)
  case atStart => exact ⟨0, none, 0, 0, [], Nat.zero_le _, by omega, by go_num, rfl, ⟨rfl, by omega, (fun x hx => by cases hx), fun h => by omega⟩, Nat.le_refl _, by omega, fun _ => rfl, by simp [vW, decV], (fun m x hm _ => by simp at hm), Below.refl _ _⟩
  case round =>
    obtain ⟨i, a, l, c, ws, hi, hg, rfl, rfl, hwa, hlc, hc9, han, hv, htr, hbw⟩ := hrel
    have hl5 : l ≤ 500 := by
      rw [hwa.1]
      refine len_dec htr (k := i) ?_ (by omega)
      rw [hv]
      have h1 := decV_lt (ds.take i) 0 (fun c hc => (HDS.out c (List.mem_of_mem_take hc)).2)
      have h2 : (ds.take i).length = i := by rw [List.length_take]; have := HTL.out; omega
      rw [h2] at h1
      omega
    have HWA := toHid hwa
    have HV := toHid hv
    have HTR := toHid htr
    have HBW := toHid hbw
    have HAN := toHid han
    clear hwa hv htr hbw han
    by_cases hlt : i < T0.size
    · obtain ⟨cb, hcb1, hcb2⟩ := HTB.out i hlt
      have hcd := HDS.out cb (List.mem_of_getElem? hcb1)
      obtain ⟨d, hd⟩ : ∃ d, d = cb.toNat - 48 := ⟨_, rfl⟩
      have hd10 : d < 10 := by omega
      have d0 : (i : Int) < (T0.size : Int) := by omega
      have d1 : (48 : Int) ≤ (T0[i].toNat : Int) := by rw [← hcb2]; omega
      have d2 : (T0[i].toNat : Int) ≤ 57 := by rw [← hcb2]; omega
      have d3 : IntKind.u8.wrap ((T0[i].toNat : Int) - 48) = (d : Int) := by
        rw [← hcb2]
        have e : (cb.toNat : Int) - 48 = (d : Int) := by omega
        rw [e, IntKind.wrap_u8]
        omega
      have d4 : ¬ (10 : Int) ≤ (d : Int) := by omega
      have d5 : IntKind.u64.wrap (d : Int) = (d : Int) := by rw [IntKind.wrap_u64]; omega
      have d6 : IntKind.i64.wrap (d : Int) = (d : Int) := by rw [IntKind.wrap_i64]; omega
      have HVN : Hid (decV (ds.take (i + 1)) 0 = vW ws * 10 + d) := by
        have e : ds.take (i + 1) = ds.take i ++ [cb] := by rw [List.take_add_one, hcb1]; rfl
        show _ = _
        rw [e, decV_snoc, HV.out, hd]
      clear hcb1 hcb2 hcd hd
      go_wp2_with fail
      refine (HW10.out wr).mono ?_
      rintro e u1 ⟨⟨ta, tl, tc, ts, rfl, g1, g2, g3, g4, g5, g6⟩, k1⟩
      have htl : tl ≤ 1 := by rw [g1.1]; exact len_small g6 (by rw [g5]; decide)
      have HM := toHid (mul_any ws ts a l c ta tl tc u1 (HWA.out.below k1) g1 (by omega) (by omega))
      have HG5 := toHid g5
      clear g1 g2 g3 g4 g5 g6
      go_wp2_with fail
      refine HM.out.mono ?_
      rintro e u2 ⟨⟨ma, ml, mc, ms, rfl, m1, m2, m3, m4, m5, m6⟩, k2⟩
      have hml : ml ≤ 501 := by
        rw [m1.1]
        refine Nat.le_trans (len_dec m6 (k := i + 1) ?_ (by omega)) (by omega)
        rw [m5, HG5.out]
        have h1 := decV_lt (ds.take i) 0 (fun c hc => (HDS.out c (List.mem_of_mem_take hc)).2)
        have h2 : (ds.take i).length = i := by rw [List.length_take]; have := HTL.out; omega
        rw [h2, ← HV.out] at h1
        rw [Nat.pow_succ]
        omega
      have HM1 := toHid m1
      have HM5 := toHid m5
      have HK2 := toHid (below2 k1 k2)
      clear m1 m2 m3 m4 m5 m6 HM k1 k2
      go_wp2_with fail
      refine (words_any d u2 (by omega)).mono ?_
      rintro e u3 ⟨⟨da, dl, dc, dd, rfl, n1, n2, n3, n4, n5, n6⟩, k3⟩
      have hdl : dl ≤ 1 := by rw [n1.1]; exact len_small n6 (by rw [n5]; omega)
      have HADD : Hid (Calls Tryd.prog 46 #[.slice ma ml mc, .slice da dl dc] u3 fun e w' => BigEnd w' (vW ms + vW dd) e ∧ Below u3.heap.size u3 w') := by
        by_cases hge : dl ≤ ml
        · exact add_ge ms dd ma ml mc da dl dc u3 (HM1.out.below k3) n1 (by omega) (by omega) hge
        · have := add_lt dd ms da dl dc ma ml mc u3 n1 (HM1.out.below k3) (by omega) (by omega) (by omega)
          rw [Nat.add_comm] at this
          exact this
      have HN5 := toHid n5
      have HK3 := toHid (below2 HK2.out k3)
      clear n1 n2 n3 n4 n5 n6 k3
      go_wp2_with fail
      refine HADD.out.mono ?_
      rintro e u4 ⟨⟨ra, rl, rc, rs, rfl, q1, q2, q3, q4, q5, q6⟩, k4⟩
      have HK4 := toHid (below2 (below2 HBW.out HK3.out) k4)
      have HQ1 := toHid q1
      have HQ5 : Hid (vW rs = decV (ds.take (i + 1)) 0) := by
        show _ = _
        rw [q5, HM5.out, HG5.out, HN5.out, HVN.out]
      have HQ6 := toHid q6
      have HQ4 := toHid q4
      clear q1 q5 q6 k4 HADD q4
      go_wp2_with fail
      go_roundg (T0.size - (i + 1))
      case measure => omega
      case rel => exact ⟨i + 1, ra, rl, rc, rs, by omega, Nat.le_refl _, by go_num, rfl, HQ1.out, q2, q3, HQ4.out, HQ5.out, HQ6.out, HK4.out⟩
    · have hil : i = T0.size := by omega
      have d0 : ¬ (i : Int) < (T0.size : Int) := by omega
      have hz1 := (HBW.out.block zb hzb).trans HZ.out
      have HGV := toHid (give_any zb z0 v0 false a l c wr hz1 (by omega))
      have HVE : Hid (vW ws = decV ds 0) := by
        show _ = _
        rw [HV.out, hil, HTL.out, List.take_length]
      clear hz1
      go_wp2_with fail
      refine HGV.out.mono ?_
      rintro e u1 ⟨rfl, m1, m2, m3, m4⟩
      have HIA : Hid (IntAt u1 zb (sgn false (decV ds 0))) := give_int (rn := false) HWA.out hlc hc9 HAN.out HTR.out (by rw [HVE.out]) m1 m2 m3 (row_old HBW.out hzb HZ.out hv0 HWA.out)
      have HOT : Hid (∀ j, j < w.heap.size → j ≠ zb → u1.heap[j]? = w.heap[j]?) := fun j hj hn => (m3 j hn).trans (HBW.out.block j hj)
      have HBL : Hid (Below zb w u1) := (HBW.out.mono (by omega)).trans m4
      clear m1 m2 m3 m4 HGV
      go_wp2_with fail
      exact bodyPost_ret (v := .tuple #[.pointer (some ⟨zb, 0, none⟩), .bool true]) (by simp [results, Tryd.results25, go_sem]) rfl ⟨rfl, HIA.out, HOT.out, HBL.out⟩

end Go.Proofs.YtdbodcfodlbgnaaDoor.BG
