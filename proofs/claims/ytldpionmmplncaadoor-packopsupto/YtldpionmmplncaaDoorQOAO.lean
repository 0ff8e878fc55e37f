/-
  What is proved here: what the texts KpVal, KpFacts prove, in one text.
-/
import Derived.Test.YtldpionmmplncaaDoorQOAN
namespace Go.Proofs.YtldpionmmplncaaDoor
open Go.RowKit
set_option linter.unusedVariables false

theorem valP_eq (f : Nat) (x : UInt8) (r : List UInt8) : valP f (x :: r) = if x.toNat = 1 ∨ x.toNat = 2 then (numP r).map fun p => (.node x.toNat p.1 ⟨#[]⟩ [], p.2) else if x.toNat = 3 then (txP r).map fun p => (.node 3 0 p.1 [], p.2) else if x.toNat = 4 then (match f with | 0 => none | f + 1 => (listP 30 (valP f) r).map fun p => (.node 4 0 ⟨#[]⟩ p.1, p.2)) else some (.node x.toNat 0 ⟨#[]⟩ [], r) := by
  cases f <;> rfl

set_option maxHeartbeats 4000000 in
set_option maxRecDepth 100000 in
theorem value_none (b : Nat) (w : World) (d : Int) (f : Nat) (h : Rd b w [] d) :
    Calls Tryd.prog 53 #[.pointer (some ⟨b, 0, none⟩)] w fun e w' => Rd1 b w w' d (valP f []) (R1 vOfV VR.In) e := by
  have hlt := h.lt
  have kA : Below w.heap.size w (w.alloc (.cells #[.int .i64 0, .int .i64 0, .string ⟨#[]⟩, .slice none 0 0] 34)) := (Below.refl _ _).alloc (Nat.le_refl _) _
  have HC := toHid (cut_torn b _ [] 1 d (h.below kA) (by simp) (by omega))
  clear h
  go_enter Tryd.func53, Tryd.ntmps53
  go_upto_region 1 with fail
  generalize w.alloc (.cells #[.int .i64 0, .int .i64 0, .string ⟨#[]⟩, .slice none 0 0] 34) = WA at kA HC ⊢
  go_wp2_with fail
  refine HC.out.mono ?_
  rintro e u1 ⟨rfl, hb1, hf1⟩
  have HF1 := toHid ((Rf.of (b := b) kA).trans kA.size hf1)
  have HB1 := toHid ((kA.mono (Nat.le_of_lt hlt)).trans hb1)
  go_wp2_with fail
  exact ⟨rfl, .inr ⟨by rw [valP], rfl⟩, HB1.out, HF1.out⟩

set_option maxHeartbeats 4000000 in
set_option maxRecDepth 100000 in
theorem value_step2 (b : Nat) (w : World) (x : UInt8) (t : List UInt8) (f : Nat) (hf6 : f ≤ 6) (h : Rd b w (x :: t) (6 - (f : Nat)))
    (HL0 : f = 0 → ∀ W : World, Rd b W t 6 → Calls Tryd.prog 74 #[.pointer (some ⟨b, 0, none⟩)] W fun e w' => e = .panicked TORN ∧ Below b W w' ∧ Rf b W w')
    (HL1 : ∀ m, f = m + 1 → ∀ W : World, Rd b W t (6 - (f : Nat)) → Calls Tryd.prog 74 #[.pointer (some ⟨b, 0, none⟩)] W fun e w' => Rd1 b W w' (6 - (f : Nat)) (listP 30 (valP m) t) RLV e) :
    Calls Tryd.prog 53 #[.pointer (some ⟨b, 0, none⟩)] w fun e w' => Rd1 b w w' (6 - (f : Nat)) (valP f (x :: t)) (R1 vOfV VR.In) e := by
  have hlt := h.lt
  have hne : w.heap.size ≠ b := by omega
  have kA : Below w.heap.size w (w.alloc (.cells #[.int .i64 0, .int .i64 0, .string ⟨#[]⟩, .slice none 0 0] 34)) := (Below.refl _ _).alloc (Nat.le_refl _) _
  have HA := toHid (alloc_new w (.cells #[.int .i64 0, .int .i64 0, .string ⟨#[]⟩, .slice none 0 0] 34))
  have hzA : (w.alloc (.cells #[.int .i64 0, .int .i64 0, .string ⟨#[]⟩, .slice none 0 0] 34)).heap.size = w.heap.size + 1 := by simp
  have HZA := toHid hzA
  obtain ⟨d, hd⟩ : ∃ d : Int, d = 6 - (f : Int) := ⟨_, rfl⟩
  rw [← hd] at h HL1 ⊢
  have HHL0 := toHid HL0
  have HHL1 := toHid HL1
  have HD := toHid hd
  have HC := toHid (cut_any b _ [x] t d (h.below kA))
  have hx256 := x.toNat_lt
  have hxw : wrap64 (x.toNat : Int) = x.toNat := by unfold wrap64; omega
  clear h hzA hd HL0 HL1
  go_enter Tryd.func53, Tryd.ntmps53
  go_upto_region 1 with fail
  generalize w.alloc (.cells #[.int .i64 0, .int .i64 0, .string ⟨#[]⟩, .slice none 0 0] 34) = WA at kA HC HA HZA ⊢
  go_wp2_with fail
  refine HC.out.mono ?_
  rintro e u1 ⟨⟨g0, off, c, rfl, hc, hgb, hbt, hR1, hs1⟩, hb1, hf1⟩
  have y0 := hbt 0 x rfl
  rw [Nat.add_zero] at y0
  have hg1 : g0 < u1.heap.size := by have := HZA.out; omega
  have HA1 := toHid ((hf1 w.heap.size (by rw [HZA.out]; omega) hne).trans HA.out)
  have hz1 : w.heap.size < u1.heap.size := (Array.getElem?_eq_some_iff.1 HA1.out).1
  have HB1 := toHid ((kA.mono (Nat.le_of_lt hlt)).trans hb1)
  have HF1 := toHid ((Rf.of (b := b) kA).trans kA.size hf1)
  have HR1 := toHid hR1
  clear hbt hR1 hb1 hf1 HC hs1
  have hb1s : b < u1.heap.size := by omega
  have kB : Below u1.heap.size u1 (u1.alloc (.cells #[.int .i64 x.toNat, .int .i64 0, .string ⟨#[]⟩, .slice none 0 0] 34)) := (Below.refl _ _).alloc (Nat.le_refl _) _
  have HV := toHid (alloc_new u1 (.cells #[.int .i64 x.toNat, .int .i64 0, .string ⟨#[]⟩, .slice none 0 0] 34))
  have HA2 := toHid ((kB.block w.heap.size hz1).trans HA1.out)
  have HB2 := toHid (HB1.out.trans (kB.mono (Nat.le_of_lt hb1s)))
  have HF2 := toHid (HF1.out.trans (by omega) (Rf.of (b := b) kB))
  have HR2 := toHid (HR1.out.below kB)
  have hzB : (u1.alloc (.cells #[.int .i64 x.toNat, .int .i64 0, .string ⟨#[]⟩, .slice none 0 0] 34)).heap.size = u1.heap.size + 1 := by simp
  have HZB := toHid hzB
  clear hzB
  go_upto_region 2 with fail
  generalize u1.alloc (.cells #[.int .i64 x.toNat, .int .i64 0, .string ⟨#[]⟩, .slice none 0 0] 34) = WB at kB HV HA2 HB2 HF2 HR2 HZB ⊢
  have w0 := cell_of HV.out 0
  simp at w0
  have zB : u1.heap.size < WB.heap.size := by rw [HZB.out]; omega
  by_cases h12 : x.toNat = 1 ∨ x.toNat = 2
  · have HN := toHid (number_gen b WB t d HR2.out)
    have HO : Hid (valP f (x :: t) = (numP t).map fun p => (.node x.toNat p.1 ⟨#[]⟩ [], p.2)) := by show _ = _; rw [valP_eq, if_pos h12]
    have e12 : ((x.toNat : Int) == 1) = true ∨ ((x.toNat : Int) == 1) = false ∧ ((x.toNat : Int) == 2) = true := by
      rcases h12 with h | h
      · exact .inl (by rw [h]; rfl)
      · exact .inr ⟨by rw [h]; rfl, by rw [h]; rfl⟩
    rcases e12 with e1 | ⟨e1, e2⟩
    all_goals
      go_wp2_with fail
      refine HN.out.mono ?_
      rintro e u2 ⟨⟨z, r, v, ho, rfl, ⟨rfl, hzr⟩, hR2⟩ | ⟨ho, rfl⟩, hb2, hf2⟩
      rotate_left
      · have HOT : Hid (valP f (x :: t) = none) := by show _ = _; rw [HO.out, ho]; rfl
        have HF3 := toHid (HF2.out.trans (by rw [HZB.out]; omega) hf2)
        have HB3 := toHid (HB2.out.trans hb2)
        go_wp2_with fail
        exact ⟨rfl, .inr ⟨HOT.out, rfl⟩, HB3.out, HF3.out⟩
      · have HOT : Hid (valP f (x :: t) = some (.node x.toNat z ⟨#[]⟩ [], r)) := by show _ = _; rw [HO.out, ho]; rfl
        have HV3 := toHid ((hf2 u1.heap.size (by rw [HZB.out]; omega) (by omega)).trans HV.out)
        have HA3 := toHid ((hf2 w.heap.size (by rw [HZB.out]; omega) hne).trans HA2.out)
        have HB3 := toHid (HB2.out.trans hb2)
        have HF3 := toHid (HF2.out.trans (by rw [HZB.out]; omega) hf2)
        have HR3 := toHid hR2
        have z1 : u1.heap.size < u2.heap.size := (Array.getElem?_eq_some_iff.1 HV3.out).1
        have z2 : w.heap.size < u2.heap.size := by omega
        clear ho HN
        have v0 := cell_of HV3.out 0
        have v1 := cell_of HV3.out 1
        have v2 := cell_of HV3.out 2
        have v3 := cell_of HV3.out 3
        simp at v0 v1 v2 v3
        have a0 := cell_of HA3.out 0
        have q0 := free_of HA3.out 0
        have a1 := cell_of HA3.out 1
        have q1 := free_of HA3.out 1
        have a2 := cell_of HA3.out 2
        have q2 := free_of HA3.out 2
        have a3 := cell_of HA3.out 3
        have q3 := free_of HA3.out 3
        simp at a0 a1 a2 a3
        have g1 := free_of HV3.out 1
        have hnn : u1.heap.size ≠ w.heap.size := by omega
        clear hR2 hb2 hf2
        go_wp2_with fail
        obtain ⟨X, hX⟩ : ∃ X, X = u2.setCell ⟨u1.heap.size, 1, none⟩ (.int .i64 z) := ⟨_, rfl⟩
        rw [← hX]
        have hXo : ∀ j, j ≠ u1.heap.size → X.heap[j]? = u2.heap[j]? := fun j hj => by
          rw [hX]
          simp only [World.setCell, Array.getElem?_modify]
          rw [if_neg (by show ¬ u1.heap.size = j; omega)]
        have hXb : Below u1.heap.size u2 X := by rw [hX]; exact (Below.refl _ _).setCell (p := ⟨u1.heap.size, 1, none⟩) (Nat.le_refl _) _
        have HXA := toHid ((hXo w.heap.size (by omega)).trans HA3.out)
        have HRX := toHid (HR3.out.keep (hXb.mono hb1s))
        have HBX := toHid (HB3.out.trans (hXb.mono (Nat.le_of_lt hb1s)))
        have HFX : Hid (Rf b w X) := fun j hj hn => (hXb.block j (by omega)).trans (HF3.out j hj hn)
        have eP : (((X.setCell ⟨w.heap.size, 0, none⟩ (.int .i64 x.toNat)).setCell ⟨w.heap.size, 1, none⟩ (.int .i64 z)).setCell ⟨w.heap.size, 2, none⟩ (.string ⟨#[]⟩)).setCell ⟨w.heap.size, 3, none⟩ (.slice none 0 0) = putL X w.heap.size 0 [.int .i64 x.toNat, .int .i64 z, .string ⟨#[]⟩, .slice none 0 0] := rfl
        rw [eP]
        have EBX := box4 HXA.out rfl (.int .i64 x.toNat) (.int .i64 z) (.string ⟨#[]⟩) (.slice none 0 0)
        have hbY : Below w.heap.size X (putL X w.heap.size 0 [.int .i64 x.toNat, .int .i64 z, .string ⟨#[]⟩, .slice none 0 0]) := putL_bel w.heap.size _ _ X
        have hYo : ∀ j, j ≠ w.heap.size → (putL X w.heap.size 0 [.int .i64 x.toNat, .int .i64 z, .string ⟨#[]⟩, .slice none 0 0]).heap[j]? = X.heap[j]? := fun j hj => putL_other _ _ _ _ j hj
        generalize putL X w.heap.size 0 [.int .i64 x.toNat, .int .i64 z, .string ⟨#[]⟩, .slice none 0 0] = Y at EBX hbY hYo ⊢
        have t0 := cell_of EBX 0
        have t1 := cell_of EBX 1
        have t2 := cell_of EBX 2
        have t3 := cell_of EBX 3
        simp at t0 t1 t2 t3
        exact bodyPost_ret (v := .agg #[.int .i64 x.toNat, .int .i64 z, .string ⟨#[]⟩, .slice none 0 0]) (by simp [results, Tryd.results53, go_sem, t0, t1, t2, t3]) rfl ⟨.inl ⟨_, _, _, HOT.out, rfl, ⟨⟨x.toNat, z, ⟨#[]⟩, none, 0, 0⟩, rfl, ⟨[], rfl, by show (⟨#[]⟩ : ByteArray).size ≤ 9223372036854775807; decide, Nat.le_refl _, lieA_nil⟩⟩, HRX.out.keep (hbY.mono hlt)⟩, HBX.out.trans (hbY.mono (Nat.le_of_lt hlt)), fun j hj hn => (hbY.block j hj).trans (HFX.out j hj hn)⟩
  · have e1 : ((x.toNat : Int) == 1) = false := by simp; omega
    have e2 : ((x.toNat : Int) == 2) = false := by simp; omega
    by_cases h3 : x.toNat = 3
    · have HN := toHid (text_gen b WB t d HR2.out)
      have HO : Hid (valP f (x :: t) = (txP t).map fun p => (.node 3 0 p.1 [], p.2)) := by show _ = _; rw [valP_eq, if_neg h12, if_pos h3]
      have e3 : ((x.toNat : Int) == 3) = true := by simp; omega
      have H3 := toHid h3
      clear h3
      go_wp2_with fail
      refine HN.out.mono ?_
      rintro e u2 ⟨⟨s, r, v, ho, rfl, ⟨rfl, hsr⟩, hR2⟩ | ⟨ho, rfl⟩, hb2, hf2⟩
      rotate_left
      · have HOT : Hid (valP f (x :: t) = none) := by show _ = _; rw [HO.out, ho]; rfl
        have HF3 := toHid (HF2.out.trans (by rw [HZB.out]; omega) hf2)
        have HB3 := toHid (HB2.out.trans hb2)
        go_wp2_with fail
        exact ⟨rfl, .inr ⟨HOT.out, rfl⟩, HB3.out, HF3.out⟩
      · have HOT : Hid (valP f (x :: t) = some (.node x.toNat 0 s [], r)) := by show _ = _; rw [HO.out, ho, H3.out]; rfl
        have HV3 := toHid ((hf2 u1.heap.size (by rw [HZB.out]; omega) (by omega)).trans HV.out)
        have HA3 := toHid ((hf2 w.heap.size (by rw [HZB.out]; omega) hne).trans HA2.out)
        have HB3 := toHid (HB2.out.trans hb2)
        have HF3 := toHid (HF2.out.trans (by rw [HZB.out]; omega) hf2)
        have HR3 := toHid hR2
        have z1 : u1.heap.size < u2.heap.size := (Array.getElem?_eq_some_iff.1 HV3.out).1
        have z2 : w.heap.size < u2.heap.size := by omega
        clear ho HN
        have v0 := cell_of HV3.out 0
        have v1 := cell_of HV3.out 1
        have v2 := cell_of HV3.out 2
        have v3 := cell_of HV3.out 3
        simp at v0 v1 v2 v3
        have a0 := cell_of HA3.out 0
        have q0 := free_of HA3.out 0
        have a1 := cell_of HA3.out 1
        have q1 := free_of HA3.out 1
        have a2 := cell_of HA3.out 2
        have q2 := free_of HA3.out 2
        have a3 := cell_of HA3.out 3
        have q3 := free_of HA3.out 3
        simp at a0 a1 a2 a3
        have g2 := free_of HV3.out 2
        have hnn : u1.heap.size ≠ w.heap.size := by omega
        clear hR2 hb2 hf2
        go_wp2_with fail
        obtain ⟨X, hX⟩ : ∃ X, X = u2.setCell ⟨u1.heap.size, 2, none⟩ (.string s) := ⟨_, rfl⟩
        rw [← hX]
        have hXo : ∀ j, j ≠ u1.heap.size → X.heap[j]? = u2.heap[j]? := fun j hj => by
          rw [hX]
          simp only [World.setCell, Array.getElem?_modify]
          rw [if_neg (by show ¬ u1.heap.size = j; omega)]
        have hXb : Below u1.heap.size u2 X := by rw [hX]; exact (Below.refl _ _).setCell (p := ⟨u1.heap.size, 2, none⟩) (Nat.le_refl _) _
        have HXA := toHid ((hXo w.heap.size (by omega)).trans HA3.out)
        have HRX := toHid (HR3.out.keep (hXb.mono hb1s))
        have HBX := toHid (HB3.out.trans (hXb.mono (Nat.le_of_lt hb1s)))
        have HFX : Hid (Rf b w X) := fun j hj hn => (hXb.block j (by omega)).trans (HF3.out j hj hn)
        have eP : (((X.setCell ⟨w.heap.size, 0, none⟩ (.int .i64 x.toNat)).setCell ⟨w.heap.size, 1, none⟩ (.int .i64 0)).setCell ⟨w.heap.size, 2, none⟩ (.string s)).setCell ⟨w.heap.size, 3, none⟩ (.slice none 0 0) = putL X w.heap.size 0 [.int .i64 x.toNat, .int .i64 0, .string s, .slice none 0 0] := rfl
        rw [eP]
        have EBX := box4 HXA.out rfl (.int .i64 x.toNat) (.int .i64 0) (.string s) (.slice none 0 0)
        have hbY : Below w.heap.size X (putL X w.heap.size 0 [.int .i64 x.toNat, .int .i64 0, .string s, .slice none 0 0]) := putL_bel w.heap.size _ _ X
        have hYo : ∀ j, j ≠ w.heap.size → (putL X w.heap.size 0 [.int .i64 x.toNat, .int .i64 0, .string s, .slice none 0 0]).heap[j]? = X.heap[j]? := fun j hj => putL_other _ _ _ _ j hj
        generalize putL X w.heap.size 0 [.int .i64 x.toNat, .int .i64 0, .string s, .slice none 0 0] = Y at EBX hbY hYo ⊢
        have t0 := cell_of EBX 0
        have t1 := cell_of EBX 1
        have t2 := cell_of EBX 2
        have t3 := cell_of EBX 3
        simp at t0 t1 t2 t3
        exact bodyPost_ret (v := .agg #[.int .i64 x.toNat, .int .i64 0, .string s, .slice none 0 0]) (by simp [results, Tryd.results53, go_sem, t0, t1, t2, t3]) rfl ⟨.inl ⟨_, _, _, HOT.out, rfl, ⟨⟨x.toNat, 0, s, none, 0, 0⟩, rfl, ⟨[], rfl, by show s.size ≤ _; omega, Nat.le_refl _, lieA_nil⟩⟩, HRX.out.keep (hbY.mono hlt)⟩, HBX.out.trans (hbY.mono (Nat.le_of_lt hlt)), fun j hj hn => (hbY.block j hj).trans (HFX.out j hj hn)⟩
    · have e3 : ((x.toNat : Int) == 3) = false := by simp; omega
      by_cases h4 : x.toNat = 4
      · have e4 : ((x.toNat : Int) == 4) = true := by simp; omega
        have H4 := toHid h4
        have hv0 : f = 0 → valP f (x :: t) = none := fun h => by rw [valP_eq, if_neg h12, if_neg h3, if_pos h4, h]
        have hvm : ∀ m, f = m + 1 → valP f (x :: t) = (listP 30 (valP m) t).map fun p => (.node 4 0 ⟨#[]⟩ p.1, p.2) := fun m h => by rw [valP_eq, if_neg h12, if_neg h3, if_pos h4, h]
        have HV0 := toHid hv0
        have HVM := toHid hvm
        clear h4 hv0 hvm
        cases f with
        | zero =>
          have hd6 : d = 6 := by have := HD.out; simpa using this
          have HN := toHid (HHL0.out rfl WB (by have := HR2.out; rw [hd6] at this; exact this))
          have HOT : Hid (valP 0 (x :: t) = none) := HV0.out rfl
          clear hd6
          go_wp2_with fail
          refine HN.out.mono ?_
          rintro e u2 ⟨rfl, hb2, hf2⟩
          have HF3 := toHid (HF2.out.trans (by rw [HZB.out]; omega) hf2)
          have HB3 := toHid (HB2.out.trans hb2)
          go_wp2_with fail
          exact ⟨rfl, .inr ⟨HOT.out, rfl⟩, HB3.out, HF3.out⟩
        | succ m =>
          have HN := toHid (HHL1.out m rfl WB HR2.out)
          have HO : Hid (valP (m + 1) (x :: t) = (listP 30 (valP m) t).map fun p => (.node 4 0 ⟨#[]⟩ p.1, p.2)) := HVM.out m rfl
          go_wp2_with fail
          refine HN.out.mono ?_
          rintro e u2 ⟨⟨L, r, v, ho, rfl, ⟨P, hown, hpr⟩, hR2⟩ | ⟨ho, rfl⟩, hb2, hf2⟩
          rotate_left
          · have HOT : Hid (valP (m + 1) (x :: t) = none) := by show _ = _; rw [HO.out, ho]; rfl
            have HF3 := toHid (HF2.out.trans (by rw [HZB.out]; omega) hf2)
            have HB3 := toHid (HB2.out.trans hb2)
            go_wp2_with fail
            exact ⟨rfl, .inr ⟨HOT.out, rfl⟩, HB3.out, HF3.out⟩
          · have HOT : Hid (valP (m + 1) (x :: t) = some (.node x.toNat 0 ⟨#[]⟩ L, r)) := by show _ = _; rw [HO.out, ho, H4.out]; rfl
            obtain ⟨la, lc, rfl, hlc⟩ := slice_of_row hown
            have hLI : LieA (fun j => u1.heap.size < j) u2 L la L.length := by
              have e : P.length = L.length := hpr.1
              rw [← e] at hown
              obtain ⟨_, _, q⟩ := vrow_lies (n := 0) (A := fun j => u1.heap.size < j) hown (fun g hg => by have := HZB.out; omega) (hpr.mono fun p x _ _ hp => hp.keeps ⟨Nat.le_refl _, fun j hj hl => ⟨by have := HZB.out; omega, rfl⟩⟩)
              rw [e] at q
              exact q
            have HLI := toHid hLI
            clear hLI hown hpr
            have HV3 := toHid ((hf2 u1.heap.size (by rw [HZB.out]; omega) (by omega)).trans HV.out)
            have HA3 := toHid ((hf2 w.heap.size (by rw [HZB.out]; omega) hne).trans HA2.out)
            have HB3 := toHid (HB2.out.trans hb2)
            have HF3 := toHid (HF2.out.trans (by rw [HZB.out]; omega) hf2)
            have HR3 := toHid hR2
            have z1 : u1.heap.size < u2.heap.size := (Array.getElem?_eq_some_iff.1 HV3.out).1
            have z2 : w.heap.size < u2.heap.size := by omega
            clear ho HN
            have v0 := cell_of HV3.out 0
            have v1 := cell_of HV3.out 1
            have v2 := cell_of HV3.out 2
            have v3 := cell_of HV3.out 3
            simp at v0 v1 v2 v3
            have a0 := cell_of HA3.out 0
            have q0 := free_of HA3.out 0
            have a1 := cell_of HA3.out 1
            have q1 := free_of HA3.out 1
            have a2 := cell_of HA3.out 2
            have q2 := free_of HA3.out 2
            have a3 := cell_of HA3.out 3
            have q3 := free_of HA3.out 3
            simp at a0 a1 a2 a3
            have g3 := free_of HV3.out 3
            have hnn : u1.heap.size ≠ w.heap.size := by omega
            clear hR2 hb2 hf2
            go_wp2_with fail
            obtain ⟨X, hX⟩ : ∃ X, X = u2.setCell ⟨u1.heap.size, 3, none⟩ (.slice la L.length lc) := ⟨_, rfl⟩
            rw [← hX]
            have hXo : ∀ j, j ≠ u1.heap.size → X.heap[j]? = u2.heap[j]? := fun j hj => by
              rw [hX]
              simp only [World.setCell, Array.getElem?_modify]
              rw [if_neg (by show ¬ u1.heap.size = j; omega)]
            have hXb : Below u1.heap.size u2 X := by rw [hX]; exact (Below.refl _ _).setCell (p := ⟨u1.heap.size, 3, none⟩) (Nat.le_refl _) _
            have HXA := toHid ((hXo w.heap.size (by omega)).trans HA3.out)
            have HRX := toHid (HR3.out.keep (hXb.mono hb1s))
            have HBX := toHid (HB3.out.trans (hXb.mono (Nat.le_of_lt hb1s)))
            have HFX : Hid (Rf b w X) := fun j hj hn => (hXb.block j (by omega)).trans (HF3.out j hj hn)
            have eP : (((X.setCell ⟨w.heap.size, 0, none⟩ (.int .i64 x.toNat)).setCell ⟨w.heap.size, 1, none⟩ (.int .i64 0)).setCell ⟨w.heap.size, 2, none⟩ (.string ⟨#[]⟩)).setCell ⟨w.heap.size, 3, none⟩ (.slice la L.length lc) = putL X w.heap.size 0 [.int .i64 x.toNat, .int .i64 0, .string ⟨#[]⟩, .slice la L.length lc] := rfl
            rw [eP]
            have EBX := box4 HXA.out rfl (.int .i64 x.toNat) (.int .i64 0) (.string ⟨#[]⟩) (.slice la L.length lc)
            have hbY : Below w.heap.size X (putL X w.heap.size 0 [.int .i64 x.toNat, .int .i64 0, .string ⟨#[]⟩, .slice la L.length lc]) := putL_bel w.heap.size _ _ X
            have hYo : ∀ j, j ≠ w.heap.size → (putL X w.heap.size 0 [.int .i64 x.toNat, .int .i64 0, .string ⟨#[]⟩, .slice la L.length lc]).heap[j]? = X.heap[j]? := fun j hj => putL_other _ _ _ _ j hj
            generalize putL X w.heap.size 0 [.int .i64 x.toNat, .int .i64 0, .string ⟨#[]⟩, .slice la L.length lc] = Y at EBX hbY hYo ⊢
            have t0 := cell_of EBX 0
            have t1 := cell_of EBX 1
            have t2 := cell_of EBX 2
            have t3 := cell_of EBX 3
            simp at t0 t1 t2 t3
            exact bodyPost_ret (v := .agg #[.int .i64 x.toNat, .int .i64 0, .string ⟨#[]⟩, .slice la L.length lc]) (by simp [results, Tryd.results53, go_sem, t0, t1, t2, t3]) rfl ⟨.inl ⟨_, _, _, HOT.out, rfl, ⟨⟨x.toNat, 0, ⟨#[]⟩, la, L.length, lc⟩, rfl, ⟨L, rfl, by show (⟨#[]⟩ : ByteArray).size ≤ 9223372036854775807; decide, hlc, LieA.kept (by have := hbY.size; have := hXb.size; omega) (fun j hj hl => ⟨by omega, (hYo j (by omega)).trans (hXo j (by omega))⟩) _ _ _ HLI.out⟩⟩, HRX.out.keep (hbY.mono hlt)⟩, HBX.out.trans (hbY.mono (Nat.le_of_lt hlt)), fun j hj hn => (hbY.block j hj).trans (HFX.out j hj hn)⟩
      · have e4 : ((x.toNat : Int) == 4) = false := by simp; omega
        have HOT : Hid (valP f (x :: t) = some (.node x.toNat 0 ⟨#[]⟩ [], t)) := by show _ = _; rw [valP_eq, if_neg h12, if_neg h3, if_neg h4]
        have z2 : w.heap.size < WB.heap.size := by omega
        have hnn : u1.heap.size ≠ w.heap.size := by omega
        have v0 := cell_of HV.out 0
        have v1 := cell_of HV.out 1
        have v2 := cell_of HV.out 2
        have v3 := cell_of HV.out 3
        simp at v0 v1 v2 v3
        have a0 := cell_of HA2.out 0
        have q0 := free_of HA2.out 0
        have a1 := cell_of HA2.out 1
        have q1 := free_of HA2.out 1
        have a2 := cell_of HA2.out 2
        have q2 := free_of HA2.out 2
        have a3 := cell_of HA2.out 3
        have q3 := free_of HA2.out 3
        simp at a0 a1 a2 a3
        go_wp2_with fail
        have eP : (((WB.setCell ⟨w.heap.size, 0, none⟩ (.int .i64 x.toNat)).setCell ⟨w.heap.size, 1, none⟩ (.int .i64 0)).setCell ⟨w.heap.size, 2, none⟩ (.string ⟨#[]⟩)).setCell ⟨w.heap.size, 3, none⟩ (.slice none 0 0) = putL WB w.heap.size 0 [.int .i64 x.toNat, .int .i64 0, .string ⟨#[]⟩, .slice none 0 0] := rfl
        rw [eP]
        have EBX := box4 HA2.out rfl (.int .i64 x.toNat) (.int .i64 0) (.string ⟨#[]⟩) (.slice none 0 0)
        have hbY : Below w.heap.size WB (putL WB w.heap.size 0 [.int .i64 x.toNat, .int .i64 0, .string ⟨#[]⟩, .slice none 0 0]) := putL_bel w.heap.size _ _ WB
        have hYo : ∀ j, j ≠ w.heap.size → (putL WB w.heap.size 0 [.int .i64 x.toNat, .int .i64 0, .string ⟨#[]⟩, .slice none 0 0]).heap[j]? = WB.heap[j]? := fun j hj => putL_other _ _ _ _ j hj
        generalize putL WB w.heap.size 0 [.int .i64 x.toNat, .int .i64 0, .string ⟨#[]⟩, .slice none 0 0] = Y at EBX hbY hYo ⊢
        have t0 := cell_of EBX 0
        have t1 := cell_of EBX 1
        have t2 := cell_of EBX 2
        have t3 := cell_of EBX 3
        simp at t0 t1 t2 t3
        exact bodyPost_ret (v := .agg #[.int .i64 x.toNat, .int .i64 0, .string ⟨#[]⟩, .slice none 0 0]) (by simp [results, Tryd.results53, go_sem, t0, t1, t2, t3]) rfl ⟨.inl ⟨_, _, _, HOT.out, rfl, ⟨⟨x.toNat, 0, ⟨#[]⟩, none, 0, 0⟩, rfl, ⟨[], rfl, by show (⟨#[]⟩ : ByteArray).size ≤ 9223372036854775807; decide, Nat.le_refl _, lieA_nil⟩⟩, HR2.out.keep (hbY.mono hlt)⟩, HB2.out.trans (hbY.mono (Nat.le_of_lt hlt)), fun j hj hn => (hbY.block j hj).trans (HF2.out j hj hn)⟩

theorem value_gen (b : Nat) : ∀ (f : Nat), f ≤ 6 → ∀ (w : World) (bs : List UInt8), b < w.heap.size → Rd b w bs (6 - (f : Nat)) → Calls Tryd.prog 53 #[.pointer (some ⟨b, 0, none⟩)] w fun e w' => Rd1 b w w' (6 - (f : Nat)) (valP f bs) (R1 vOfV VR.In) e := by
  intro f
  induction f with
  | zero =>
    intro hf w bs _ h
    cases bs with
    | nil => exact value_none b w _ 0 h
    | cons x t => exact value_step2 b w x t 0 hf h (fun _ W hW => values_torn b W t hW) (fun m hm => by cases hm)
  | succ f ih =>
    intro hf w bs _ h
    cases bs with
    | nil => exact value_none b w _ (f + 1) h
    | cons x t => exact value_step2 b w x t (f + 1) hf h (fun h0 => by cases h0) (fun m hm W hW => by
      cases hm
      exact values_gen b W t f hf hW (fun W' l hl hR => ih (by omega) W' l hl hR))

theorem bitsF_some : ∀ (f k q : Nat) (l : List UInt8) (n : Nat) (r : List UInt8), k + f = 10 → q < 128 ^ k → bitsF f k q l = some (n, r) → n < 18446744073709551616 ∧ r.length < l.length
  | 0, _, _, _, _, _, _, _, h => by simp [bitsF] at h
  | _ + 1, _, _, [], _, _, _, _, h => by simp [bitsF] at h
  | f + 1, k, q, x :: t, n, r, hk, hq, h => by
    obtain ⟨_, a2, a3⟩ := acc_gen q k x.toNat x.toNat_lt (by omega) hq
    simp only [bitsF] at h
    split at h
    · simp only [Option.some.injEq, Prod.mk.injEq] at h
      obtain ⟨rfl, rfl⟩ := h
      exact ⟨a3, by simp⟩
    · obtain ⟨h1, h2⟩ := bitsF_some f (k + 1) _ t n r (by omega) a2 h
      exact ⟨h1, by simp; omega⟩

theorem bitsP_some {bs : List UInt8} {n : Nat} {r : List UInt8} (h : bitsP bs = some (n, r)) : n < 18446744073709551616 ∧ r.length < bs.length := bitsF_some 10 0 0 bs n r (by omega) (by simp) h

theorem numP_some {bs : List UInt8} {z : Int} {r : List UInt8} (h : numP bs = some (z, r)) : (-9223372036854775808 ≤ z ∧ z ≤ 9223372036854775807) ∧ r.length < bs.length := by
  unfold numP at h
  rw [Option.map_eq_some_iff] at h
  obtain ⟨⟨n, r'⟩, h1, h2⟩ := h
  simp only [Prod.mk.injEq] at h2
  obtain ⟨rfl, rfl⟩ := h2
  obtain ⟨h3, h4⟩ := bitsP_some h1
  exact ⟨zag_range n h3, h4⟩

theorem txP_some {bs : List UInt8} {s : ByteArray} {r : List UInt8} (h : txP bs = some (s, r)) : r.length < bs.length := by
  unfold txP at h
  rw [Option.bind_eq_some_iff] at h
  obtain ⟨⟨n, r'⟩, h1, h2⟩ := h
  rw [Option.map_eq_some_iff] at h2
  obtain ⟨⟨c1, c2⟩, h3, h4⟩ := h2
  have h5 := (bitsP_some h1).2
  unfold cutP at h3
  split at h3
  · simp only [Option.some.injEq, Prod.mk.injEq] at h3 h4
    rw [← h4.2, ← h3.2, List.length_drop]
    omega
  · cases h3

theorem repP_some {α : Type} {one : List UInt8 → Option (α × List UInt8)} {Q : α → Prop} {B : Nat} (h1 : ∀ l x r, one l = some (x, r) → r.length ≤ l.length ∧ (l.length ≤ B → Q x)) : ∀ (n : Nat) (l : List UInt8) (L : List α) (r : List UInt8), repP one n l = some (L, r) → r.length ≤ l.length ∧ (l.length ≤ B → ∀ x ∈ L, Q x)
  | 0, l, L, r, h => by
    simp only [repP, Option.some.injEq, Prod.mk.injEq] at h
    obtain ⟨rfl, rfl⟩ := h
    exact ⟨Nat.le_refl _, fun _ x hx => by cases hx⟩
  | n + 1, l, L, r, h => by
    simp only [repP, Option.bind_eq_some_iff, Option.map_eq_some_iff] at h
    obtain ⟨⟨x, l'⟩, h2, ⟨L', r'⟩, h3, h4⟩ := h
    simp only [Prod.mk.injEq] at h4
    obtain ⟨rfl, rfl⟩ := h4
    obtain ⟨q1, q2⟩ := h1 _ _ _ h2
    obtain ⟨q3, q4⟩ := repP_some h1 n l' L' r' h3
    exact ⟨Nat.le_trans q3 q1, fun hB y hy => by
      rcases List.mem_cons.1 hy with rfl | hy
      · exact q2 hB
      · exact q4 (Nat.le_trans q1 hB) y hy⟩

theorem listP_some {α : Type} {one : List UInt8 → Option (α × List UInt8)} {Q : α → Prop} {B : Nat} (h1 : ∀ l x r, one l = some (x, r) → r.length ≤ l.length ∧ (l.length ≤ B → Q x)) {most : Nat} {bs : List UInt8} {L : List α} {r : List UInt8} (h : listP most one bs = some (L, r)) : r.length ≤ bs.length ∧ (bs.length ≤ B → ∀ x ∈ L, Q x) := by
  unfold listP at h
  rw [Option.bind_eq_some_iff] at h
  obtain ⟨⟨n, r'⟩, h2, h3⟩ := h
  have h4 := (bitsP_some h2).2
  simp only at h3
  split at h3
  · obtain ⟨q1, q2⟩ := repP_some h1 n r' L r h3
    exact ⟨by omega, fun hB => q2 (by omega)⟩
  · cases h3

theorem valP_some : ∀ (f : Nat) (bs : List UInt8) (t : T) (r : List UInt8), valP f bs = some (t, r) → InT t ∧ wtT t + 2 * r.length ≤ 2 * bs.length := by
  have flat : ∀ (k n : Int) (s : ByteArray), -9223372036854775808 ≤ n → n ≤ 9223372036854775807 → InT (.node k n s []) ∧ wtT (.node k n s []) = 2 := fun k n s h0 h1 => by
    refine ⟨?_, by simp [wtT, wtL]⟩
    unfold InT InL
    exact ⟨⟨h0, h1⟩, trivial⟩
  have cons : ∀ (x : UInt8) (l : List UInt8) (r : List UInt8) (t : T) (f : Nat), (∀ m L r', f = m + 1 → listP 30 (valP m) l = some (L, r') → InL L ∧ wtL L + 2 * r'.length ≤ 2 * l.length) → valP f (x :: l) = some (t, r) → InT t ∧ wtT t + 2 * r.length ≤ 2 * (x :: l).length := by
    intro x l r t f hl h
    rw [valP_eq] at h
    split at h
    · rw [Option.map_eq_some_iff] at h
      obtain ⟨⟨z, r'⟩, h1, h2⟩ := h
      simp only [Prod.mk.injEq] at h2
      obtain ⟨rfl, rfl⟩ := h2
      obtain ⟨h3, h4⟩ := numP_some h1
      obtain ⟨q1, q2⟩ := flat x.toNat z ⟨#[]⟩ h3.1 h3.2
      exact ⟨q1, by rw [q2, List.length_cons]; omega⟩
    · split at h
      · rw [Option.map_eq_some_iff] at h
        obtain ⟨⟨z, r'⟩, h1, h2⟩ := h
        simp only [Prod.mk.injEq] at h2
        obtain ⟨rfl, rfl⟩ := h2
        have h4 := txP_some h1
        obtain ⟨q1, q2⟩ := flat 3 0 z (by omega) (by omega)
        exact ⟨q1, by rw [q2, List.length_cons]; omega⟩
      · split at h
        · cases f with
          | zero => cases h
          | succ m =>
            simp only [Option.map_eq_some_iff] at h
            obtain ⟨⟨L, r'⟩, h1, h2⟩ := h
            simp only [Prod.mk.injEq] at h2
            obtain ⟨rfl, rfl⟩ := h2
            obtain ⟨q1, q2⟩ := hl m L _ rfl h1
            refine ⟨?_, by rw [wtT, List.length_cons]; omega⟩
            unfold InT
            exact ⟨⟨by omega, by omega⟩, q1⟩
        · simp only [Option.some.injEq, Prod.mk.injEq] at h
          obtain ⟨rfl, rfl⟩ := h
          obtain ⟨q1, q2⟩ := flat x.toNat 0 ⟨#[]⟩ (by omega) (by omega)
          exact ⟨q1, by rw [q2, List.length_cons]; omega⟩
  have list : ∀ m, (∀ (bs : List UInt8) (t : T) (r : List UInt8), valP m bs = some (t, r) → InT t ∧ wtT t + 2 * r.length ≤ 2 * bs.length) → ∀ (l : List UInt8) L r', listP 30 (valP m) l = some (L, r') → InL L ∧ wtL L + 2 * r'.length ≤ 2 * l.length := by
    intro m ih l L r' h
    unfold listP at h
    rw [Option.bind_eq_some_iff] at h
    obtain ⟨⟨n, r1⟩, h2, h3⟩ := h
    have h4 := (bitsP_some h2).2
    simp only at h3
    have rep : ∀ (n : Nat) (l : List UInt8) (L : List T) (r : List UInt8), repP (valP m) n l = some (L, r) → InL L ∧ wtL L + 2 * r.length ≤ 2 * l.length + 1 := by
      intro n
      induction n with
      | zero =>
        intro l L r h
        simp only [repP, Option.some.injEq, Prod.mk.injEq] at h
        obtain ⟨rfl, rfl⟩ := h
        exact ⟨by unfold InL; trivial, by simp [wtL]; omega⟩
      | succ n ihn =>
        intro l L r h
        simp only [repP, Option.bind_eq_some_iff, Option.map_eq_some_iff] at h
        obtain ⟨⟨x, l'⟩, h2, ⟨L', r'⟩, h3, h4⟩ := h
        simp only [Prod.mk.injEq] at h4
        obtain ⟨rfl, rfl⟩ := h4
        obtain ⟨q1, q2⟩ := ih _ _ _ h2
        obtain ⟨q3, q4⟩ := ihn l' L' _ h3
        refine ⟨by unfold InL; exact ⟨q1, q3⟩, ?_⟩
        rw [wtL]
        omega
    split at h3
    · obtain ⟨q1, q2⟩ := rep n r1 L r' h3
      exact ⟨q1, by omega⟩
    · cases h3
  intro f
  induction f with
  | zero =>
    intro bs t r h
    cases bs with
    | nil => simp [valP] at h
    | cons x l => exact cons x l r t 0 (fun m L r' hm => by cases hm) h
  | succ f ih =>
    intro bs t r h
    cases bs with
    | nil => simp [valP] at h
    | cons x l => exact cons x l r t (f + 1) (fun m L r' hm hl => by cases hm; exact list f ih l L r' hl) h

/-- A property that was read of at most so many bytes. -/
def PQ (B : Nat) (p : AP) : Prop := InT p.t ∧ wtT p.t ≤ 2 * B

theorem prP_some (B : Nat) (bs : List UInt8) (p : AP) (r : List UInt8) (h : prP bs = some (p, r)) : r.length ≤ bs.length ∧ (bs.length ≤ B → PQ B p) := by
  unfold prP at h
  simp only [Option.bind_eq_some_iff, Option.map_eq_some_iff] at h
  obtain ⟨⟨s, l1⟩, h1, ⟨t, l2⟩, h2, h3⟩ := h
  simp only [Prod.mk.injEq] at h3
  obtain ⟨rfl, rfl⟩ := h3
  have a1 := txP_some h1
  obtain ⟨a2, a3⟩ := valP_some 6 l1 t _ h2
  refine ⟨by omega, fun hB => ⟨a2, ?_⟩⟩
  show wtT t ≤ _
  omega

theorem ndP_some (B : Nat) (bs : List UInt8) (x : AN) (r : List UInt8) (h : ndP bs = some (x, r)) : r.length ≤ bs.length ∧ (bs.length ≤ B → ∀ p ∈ x.props, PQ B p) := by
  unfold ndP at h
  simp only [Option.bind_eq_some_iff, Option.map_eq_some_iff] at h
  obtain ⟨⟨a, l1⟩, h1, ⟨L, l2⟩, h2, ⟨P, l3⟩, h3, h4⟩ := h
  simp only [Prod.mk.injEq] at h4
  obtain ⟨rfl, rfl⟩ := h4
  have a1 := (numP_some h1).2
  have a2 := (listP_some (Q := fun _ => True) (B := 0) (fun l x r hx => ⟨Nat.le_of_lt (txP_some hx), fun _ => trivial⟩) h2).1
  obtain ⟨a3, a4⟩ := listP_some (Q := PQ B) (B := B) (prP_some B) h3
  simp only at a1 a2 a3 a4 ⊢
  exact ⟨by omega, fun hB => a4 (by omega)⟩

theorem edP_some (B : Nat) (bs : List UInt8) (x : AE) (r : List UInt8) (h : edP bs = some (x, r)) : r.length ≤ bs.length ∧ (bs.length ≤ B → ∀ p ∈ x.props, PQ B p) := by
  unfold edP at h
  simp only [Option.bind_eq_some_iff, Option.map_eq_some_iff] at h
  obtain ⟨⟨a, l1⟩, h1, ⟨f, l2⟩, h2, ⟨d, l3⟩, h3, ⟨t, l4⟩, h4, ⟨P, l5⟩, h5, h6⟩ := h
  simp only [Prod.mk.injEq] at h6
  obtain ⟨rfl, rfl⟩ := h6
  have a1 := (numP_some h1).2
  have a2 := (numP_some h2).2
  have a3 := (numP_some h3).2
  have a4 := txP_some h4
  obtain ⟨a5, a6⟩ := listP_some (Q := PQ B) (B := B) (prP_some B) h5
  simp only at a1 a2 a3 a4 a5 a6 ⊢
  exact ⟨by omega, fun hB => a6 (by omega)⟩

theorem grP_some (bs : List UInt8) (nx : Int) (XN : List AN) (XE : List AE) (r : List UInt8) (h : grP bs = some ((nx, XN, XE), r)) : (∀ x ∈ XN, ∀ p ∈ x.props, PQ bs.length p) ∧ ∀ x ∈ XE, ∀ p ∈ x.props, PQ bs.length p := by
  unfold grP at h
  simp only [Option.bind_eq_some_iff, Option.map_eq_some_iff] at h
  obtain ⟨⟨a, l1⟩, h1, ⟨N, l2⟩, h2, ⟨E, l3⟩, h3, h4⟩ := h
  simp only [Prod.mk.injEq] at h4
  obtain ⟨⟨rfl, rfl, rfl⟩, rfl⟩ := h4
  have a1 := (numP_some h1).2
  obtain ⟨a2, a3⟩ := listP_some (Q := fun x : AN => ∀ p ∈ x.props, PQ bs.length p) (B := bs.length) (ndP_some bs.length) h2
  obtain ⟨a4, a5⟩ := listP_some (Q := fun x : AE => ∀ p ∈ x.props, PQ bs.length p) (B := bs.length) (edP_some bs.length) h3
  simp only at a1 a2 a3 a4 a5
  exact ⟨a3 (by omega), a5 (by omega)⟩
end Go.Proofs.YtldpionmmplncaaDoor
