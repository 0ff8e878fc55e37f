/-
  What is proved here: what the texts PtLawB, PtLawL prove, in one text.
-/
import Derived.Test.YthbbapimedlocaaGreatDoorQPBG
namespace Go.Proofs.YthbbapimedlocaaGreatDoor
open Go.RowKit
set_option linter.unusedVariables false

set_option linter.unusedSimpArgs false

set_option maxHeartbeats 4000000 in
set_option maxRecDepth 100000 in
/-- Where Print refuses. -/
theorem portBack_bad (na : Option Addr) (nl nc : Nat) (ea : Option Addr) (el ec : Nat) (next er : Int) (s : ByteArray) (w : World) (he : er ≠ 0)
    (HPR : Hid (∀ W, Below w.heap.size w W → Calls Tryz.prog 6 #[.agg #[.slice na nl nc, .slice ea el ec, .int .i64 next]] W fun e w' => e = .returned (.tuple #[.string s, .int .i64 er]) ∧ Below W.heap.size W w'))
    (HPD : Hid (∀ W, Below w.heap.size w W → Calls Tryz.prog 8 #[] W fun e w' => e = .returned (.bool true) ∧ Below W.heap.size W w')) :
    Calls Tryz.prog 4 #[.agg #[.slice na nl nc, .slice ea el ec, .int .i64 next]] w fun e w' => e = .returned (.bool true) ∧ Below w.heap.size w w' := by
  have hne : (er != 0) = true := by simp [he]
  clear he
  go_enter Tryz.func4, Tryz.ntmps4
  go_upto_region 1 with fail
  have HX := toHid (alloc_new w (.cells #[.slice na nl nc, .slice ea el ec, .int .i64 next] 25))
  have k0 : Below w.heap.size w (w.alloc (.cells #[.slice na nl nc, .slice ea el ec, .int .i64 next] 25)) := (Below.refl _ _).alloc (Nat.le_refl _) _
  have HK0 := toHid k0
  clear k0
  generalize w.alloc (.cells #[.slice na nl nc, .slice ea el ec, .int .i64 next] 25) = W at HX HK0 ⊢
  have x0 := cell_of HX.out 0
  have x1 := cell_of HX.out 1
  have x2 := cell_of HX.out 2
  simp at x0 x1 x2
  have hbl : w.heap.size < W.heap.size := (Array.getElem?_eq_some_iff.1 HX.out).1
  have HP1 := toHid (HPR.out _ HK0.out)
  clear HPR HX
  go_wp2_with fail
  refine HP1.out.mono ?_
  rintro e u1 ⟨rfl, k1⟩
  have HK1 := toHid (below2 HK0.out k1)
  clear k1 x0 x1 x2 hbl HP1 HK0
  have HD2 := toHid (HPD.out _ HK1.out)
  go_wp2_with fail
  refine HD2.out.mono ?_
  rintro e u3 ⟨rfl, k3⟩
  have HK3 := toHid (below2 HK1.out k3)
  clear k3 HD2 HK1
  have HD3 := toHid (HPD.out _ HK3.out)
  go_wp2_with fail
  refine HD3.out.mono ?_
  rintro e u4 ⟨rfl, k4⟩
  have HK4 := toHid (below2 HK3.out k4)
  clear k4 HD3 HK3
  go_wp2_with fail
  go_ret
  exact ⟨rfl, HK4.out⟩

set_option maxHeartbeats 4000000 in
set_option maxRecDepth 100000 in
/-- Where Print prints, and what is printed is read as it was. -/
theorem portBack_good (na : Option Addr) (nl nc : Nat) (ea : Option Addr) (el ec : Nat) (next : Int) (s : ByteArray) (n m : Nat) (w : World) (R : Option Addr → Option Addr → World → Prop)
    (HPR : Hid (∀ W, Below w.heap.size w W → Calls Tryz.prog 6 #[.agg #[.slice na nl nc, .slice ea el ec, .int .i64 next]] W fun e w' => e = .returned (.tuple #[.string s, .int .i64 0]) ∧ Below W.heap.size W w'))
    (HPA : Hid (∀ W, Below w.heap.size w W → Calls Tryz.prog 10 #[.string s] W fun e w' => (∃ fa fc ga gc, e = .returned (.tuple #[.agg #[.slice fa n fc, .slice ga m gc, .int .i64 next], .int .i64 0, .int .i64 0]) ∧ R fa ga w') ∧ Below W.heap.size W w'))
    (HSG : Hid (∀ fa fc ga gc W W', Below w.heap.size w W → R fa ga W → Below W.heap.size W W' → Calls Tryz.prog 11 #[.agg #[.slice na nl nc, .slice ea el ec, .int .i64 next], .agg #[.slice fa n fc, .slice ga m gc, .int .i64 next]] W' fun e w' => e = .returned (.bool true) ∧ Below W'.heap.size W' w'))
    (HPD : Hid (∀ W, Below w.heap.size w W → Calls Tryz.prog 8 #[] W fun e w' => e = .returned (.bool true) ∧ Below W.heap.size W w')) :
    Calls Tryz.prog 4 #[.agg #[.slice na nl nc, .slice ea el ec, .int .i64 next]] w fun e w' => e = .returned (.bool true) ∧ Below w.heap.size w w' := by
  have hne : ((0 : Int) != 0) = false := rfl
  go_enter Tryz.func4, Tryz.ntmps4
  go_upto_region 1 with fail
  have HX := toHid (alloc_new w (.cells #[.slice na nl nc, .slice ea el ec, .int .i64 next] 25))
  have k0 : Below w.heap.size w (w.alloc (.cells #[.slice na nl nc, .slice ea el ec, .int .i64 next] 25)) := (Below.refl _ _).alloc (Nat.le_refl _) _
  have HK0 := toHid k0
  clear k0
  generalize w.alloc (.cells #[.slice na nl nc, .slice ea el ec, .int .i64 next] 25) = W at HX HK0 ⊢
  have hlX : w.heap.size < W.heap.size := (Array.getElem?_eq_some_iff.1 HX.out).1
  have HS : Hid (∀ W', Below W.heap.size W W' → (W'.cell? ⟨w.heap.size, 0, none⟩ = some (.slice na nl nc) ∧ W'.cell? ⟨w.heap.size, 1, none⟩ = some (.slice ea el ec) ∧ W'.cell? ⟨w.heap.size, 2, none⟩ = some (.int .i64 next)) ∧ W'.heap.size > w.heap.size) := fun W' kk => by
    have q := (kk.block _ hlX).trans HX.out
    exact ⟨⟨cell_of q 0, cell_of q 1, cell_of q 2⟩, Nat.lt_of_lt_of_le hlX kk.size⟩
  obtain ⟨⟨x0, x1, x2⟩, xl⟩ := HS.out W (Below.refl _ _)
  have HP1 := toHid (HPR.out _ HK0.out)
  clear HPR HX hlX
  go_wp2_with fail
  refine HP1.out.mono ?_
  rintro e u1 ⟨rfl, k1⟩
  have HK1 := toHid k1
  clear k1 x0 x1 x2 xl HP1
  have HD2 := toHid (HPD.out _ (below2 HK0.out HK1.out))
  go_wp2_with fail
  refine HD2.out.mono ?_
  rintro e u3 ⟨rfl, k3⟩
  have HK3 := toHid (below2 HK1.out k3)
  clear k3 HD2 HK1
  have HA3 := toHid (HPA.out _ (below2 HK0.out HK3.out))
  clear HPA HPD
  go_wp2_with fail
  refine HA3.out.mono ?_
  rintro e u4 ⟨⟨fa, fc, ga, gc, rfl, hr⟩, k4⟩
  have HK4 := toHid (below2 HK3.out k4)
  have HSH := toHid fun W' k => HSG.out fa fc ga gc u4 W' (below2 HK0.out HK4.out) hr k
  clear k4 HA3 HK3 hr HSG
  go_upto_region 5 with fail
  have HX := toHid (alloc_new u4 (.cells #[.slice fa n fc, .slice ga m gc, .int .i64 next] 25))
  have k5 : Below u4.heap.size u4 (u4.alloc (.cells #[.slice fa n fc, .slice ga m gc, .int .i64 next] 25)) := (Below.refl _ _).alloc (Nat.le_refl _) _
  have HB5 := toHid k5
  clear k5
  generalize u4.alloc (.cells #[.slice fa n fc, .slice ga m gc, .int .i64 next] 25) = W5 at HX HB5 ⊢
  have hl5 : u4.heap.size < W5.heap.size := (Array.getElem?_eq_some_iff.1 HX.out).1
  obtain ⟨⟨x0, x1, x2⟩, xl⟩ := HS.out W5 (below2 HK4.out HB5.out)
  have y0 := cell_of HX.out 0
  have y1 := cell_of HX.out 1
  have y2 := cell_of HX.out 2
  simp at y0 y1 y2
  have HS5 := toHid (HSH.out W5 HB5.out)
  clear HX HSH
  go_wp2_with fail
  refine HS5.out.mono ?_
  rintro e u6 ⟨rfl, k6⟩
  have HK6 := toHid (below2 (below2 HK4.out HB5.out) k6)
  clear HS5 k6 x0 x1 x2 xl y0 y1 y2 hl5
  go_wp2_with fail
  go_ret
  exact ⟨rfl, below2 HK0.out HK6.out⟩

theorem law_portBack (N : List Nd) (E : List Ed) (na : Option Addr) (nl nc : Nat) (ea : Option Addr) (el ec : Nat) (next : Int) (w : World) (h : GrOk w N E na nl ea el) (hT : Tabs w.heap.size w) (hP : Pow10 w.heap.size w) :
    Calls Tryz.prog 4 #[.agg #[.slice na nl nc, .slice ea el ec, .int .i64 next]] w fun e w' => e = .returned (.bool true) ∧ Below w.heap.size w w' := by
  have HPD : Hid (∀ W, Below w.heap.size w W → Calls Tryz.prog 8 #[] W fun e w' => e = .returned (.bool true) ∧ Below W.heap.size W w') := fun W k => ported_true w.heap.size W k.size (hT.below k) (hP.below k)
  rcases print_two (next := next) h nc ec hT hP with ⟨s, er, he, hC⟩ | ⟨S, hR, hf, rfl, hN, hE, hC⟩
  · exact portBack_bad na nl nc ea el ec next er s w he hC HPD
  · have hnl : nl = S.N.length := by obtain ⟨Q, q1, q2⟩ := hN; rw [q1.1, q2.1]
    have hel : el = S.E.length := by obtain ⟨Q, q1, q2⟩ := hE; rw [q1.1, q2.1]
    refine portBack_good na nl nc ea el ec S.next _ S.N.length S.E.length w (fun fa ga W => NsAt W S.N fa S.N.length ∧ EsAt W S.E ga S.E.length) hC (fun W k => ?_) (fun fa fc ga gc W W' k hr k' => ?_) HPD
    · exact (parse_good w.heap.size S hR hf W k.size (hT.below k) (hP.below k))
    · exact same_SS hR (hN.below (below2 k k')) (hE.below (below2 k k')) (hr.1.below k') (hr.2.below k')

set_option linter.unusedSimpArgs false

theorem take_ten {l : List UInt8} {j : Nat} {c : UInt8} (h : l[j]? = some c) : (l.take (j + 1)).count 10 = (l.take j).count 10 + (if c = 10 then 1 else 0) := by
  rw [List.take_add_one, h, List.count_append]
  by_cases hc : c = 10
  · simp [hc]
  · simp [hc]

set_option maxHeartbeats 4000000 in
set_option maxRecDepth 100000 in
/-- Where Print refuses. -/
theorem portLines_bad (na : Option Addr) (nl nc : Nat) (ea : Option Addr) (el ec : Nat) (next er : Int) (s : ByteArray) (w : World) (he : er ≠ 0)
    (HPR : Hid (∀ W, Below w.heap.size w W → Calls Tryz.prog 6 #[.agg #[.slice na nl nc, .slice ea el ec, .int .i64 next]] W fun e w' => e = .returned (.tuple #[.string s, .int .i64 er]) ∧ Below W.heap.size W w'))
    (HPD : Hid (∀ W, Below w.heap.size w W → Calls Tryz.prog 8 #[] W fun e w' => e = .returned (.bool true) ∧ Below W.heap.size W w')) :
    Calls Tryz.prog 5 #[.agg #[.slice na nl nc, .slice ea el ec, .int .i64 next]] w fun e w' => e = .returned (.bool true) ∧ Below w.heap.size w w' := by
  have hne : (er != 0) = true := by simp [he]
  clear he
  go_enter Tryz.func5, Tryz.ntmps5
  go_upto_region 1 with fail
  have HX := toHid (alloc_new w (.cells #[.slice na nl nc, .slice ea el ec, .int .i64 next] 25))
  have k0 : Below w.heap.size w (w.alloc (.cells #[.slice na nl nc, .slice ea el ec, .int .i64 next] 25)) := (Below.refl _ _).alloc (Nat.le_refl _) _
  have HK0 := toHid k0
  clear k0
  generalize w.alloc (.cells #[.slice na nl nc, .slice ea el ec, .int .i64 next] 25) = W at HX HK0 ⊢
  have x0 := cell_of HX.out 0
  have x1 := cell_of HX.out 1
  have x2 := cell_of HX.out 2
  simp at x0 x1 x2
  have hbl : w.heap.size < W.heap.size := (Array.getElem?_eq_some_iff.1 HX.out).1
  have HP1 := toHid (HPR.out _ HK0.out)
  clear HPR HX
  go_wp2_with fail
  refine HP1.out.mono ?_
  rintro e u1 ⟨rfl, k1⟩
  have HK1 := toHid (below2 HK0.out k1)
  clear k1 x0 x1 x2 hbl HP1 HK0
  have HD2 := toHid (HPD.out _ HK1.out)
  go_wp2_with fail
  refine HD2.out.mono ?_
  rintro e u3 ⟨rfl, k3⟩
  have HK3 := toHid (below2 HK1.out k3)
  clear k3 HD2 HK1
  have HD3 := toHid (HPD.out _ HK3.out)
  go_wp2_with fail
  refine HD3.out.mono ?_
  rintro e u4 ⟨rfl, k4⟩
  have HK4 := toHid (below2 HK3.out k4)
  clear k4 HD3 HK3
  go_wp2_with fail
  go_ret
  exact ⟨rfl, HK4.out⟩

set_option maxHeartbeats 4000000 in
set_option maxRecDepth 100000 in
/-- Where Print prints so many lines. -/
theorem portLines_good (na : Option Addr) (nl nc : Nat) (ea : Option Addr) (el ec : Nat) (next : Int) (l : List UInt8) (w : World) (hl : l.length ≤ 40000) (hcnt : l.count 10 = 1 + nl + el)
    (HPR : Hid (∀ W, Below w.heap.size w W → Calls Tryz.prog 6 #[.agg #[.slice na nl nc, .slice ea el ec, .int .i64 next]] W fun e w' => e = .returned (.tuple #[.string (bt l), .int .i64 0]) ∧ Below W.heap.size W w'))
    (HPD : Hid (∀ W, Below w.heap.size w W → Calls Tryz.prog 8 #[] W fun e w' => e = .returned (.bool true) ∧ Below W.heap.size W w')) :
    Calls Tryz.prog 5 #[.agg #[.slice na nl nc, .slice ea el ec, .int .i64 next]] w fun e w' => e = .returned (.bool true) ∧ Below w.heap.size w w' := by
  have hne : ((0 : Int) != 0) = false := rfl
  have HGET := toHid (get_bt l)
  have hS : (bt l).size ≤ 40000 := by rw [bt_size]; exact hl
  have HSZ := toHid (bt_size l)
  have HCN := toHid hcnt
  generalize bt l = S at HGET HSZ hS HPR
  clear hl hcnt
  go_enter Tryz.func5, Tryz.ntmps5
  go_upto_region 1 with fail
  have HX := toHid (alloc_new w (.cells #[.slice na nl nc, .slice ea el ec, .int .i64 next] 25))
  have k0 : Below w.heap.size w (w.alloc (.cells #[.slice na nl nc, .slice ea el ec, .int .i64 next] 25)) := (Below.refl _ _).alloc (Nat.le_refl _) _
  have HK0 := toHid k0
  clear k0
  generalize w.alloc (.cells #[.slice na nl nc, .slice ea el ec, .int .i64 next] 25) = W at HX HK0 ⊢
  have hlX : w.heap.size < W.heap.size := (Array.getElem?_eq_some_iff.1 HX.out).1
  have HS : Hid (∀ W', Below W.heap.size W W' → (W'.cell? ⟨w.heap.size, 0, none⟩ = some (.slice na nl nc) ∧ W'.cell? ⟨w.heap.size, 1, none⟩ = some (.slice ea el ec) ∧ W'.cell? ⟨w.heap.size, 2, none⟩ = some (.int .i64 next)) ∧ W'.heap.size > w.heap.size) := fun W' kk => by
    have q := (kk.block _ hlX).trans HX.out
    exact ⟨⟨cell_of q 0, cell_of q 1, cell_of q 2⟩, Nat.lt_of_lt_of_le hlX kk.size⟩
  obtain ⟨⟨x0, x1, x2⟩, xl⟩ := HS.out W (Below.refl _ _)
  have HP1 := toHid (HPR.out _ HK0.out)
  clear HPR HX hlX
  go_wp2_with fail
  refine HP1.out.mono ?_
  rintro e u1 ⟨rfl, k1⟩
  have HK1 := toHid k1
  clear k1 x0 x1 x2 xl HP1
  have HD2 := toHid (HPD.out _ (below2 HK0.out HK1.out))
  clear HPD
  go_wp2_with fail
  refine HD2.out.mono ?_
  rintro e u3 ⟨rfl, k3⟩
  have HK3 := toHid (below2 HK1.out k3)
  clear k3 HD2 HK1
  go_wp2_with fail
  go_loopg [5, 21] (S.size + 1) (fun g s5 s21 wr => ∃ i k : Nat, i ≤ S.size ∧ k ≤ i ∧ S.size + 1 - i ≤ g ∧ s5 = .int .i64 k ∧ s21 = .int .i64 i ∧ k = (l.take i).count 10 ∧ wr = u3)
  case atStart => exact ⟨0, 0, Nat.zero_le _, Nat.le_refl _, by omega, by go_num, by go_num, by simp, rfl⟩
  case round =>
    obtain ⟨i, k, hi, hki, hg, rfl, rfl, hk, rfl⟩ := hrel
    have HK := toHid hk
    clear hk
    by_cases hlt : i < S.size
    · have hil : (i : Int) < S.size := by omega
      have hget := HGET.out i hlt
      have ht := take_ten hget
      by_cases hc : S[i] = 10
      · have n1 : ((S[i].toNat : Int) == 10) = true := byteEq (k := 10) hc
        have HN : Hid (k + 1 = (l.take (i + 1)).count 10) := by show _ = _; rw [ht, if_pos hc, HK.out]
        clear hget ht hc
        go_wp2_with fail
        go_roundg (S.size + 1 - (i + 1))
        case measure => omega
        case rel => exact ⟨i + 1, k + 1, by omega, by omega, Nat.le_refl _, by go_num, by go_num, HN.out, rfl⟩
      · have n1 : ((S[i].toNat : Int) == 10) = false := byteNe (k := 10) hc
        have HN : Hid (k = (l.take (i + 1)).count 10) := by show _ = _; rw [ht, if_neg hc, HK.out]; rfl
        clear hget ht hc
        go_wp2_with fail
        go_roundg (S.size + 1 - (i + 1))
        case measure => omega
        case rel => exact ⟨i + 1, k, by omega, by omega, Nat.le_refl _, by go_num, by go_num, HN.out, rfl⟩
    · have hil : ¬ (i : Int) < S.size := by omega
      have hkk : k = 1 + nl + el := by
        rw [HK.out, List.take_of_length_le (by have := HSZ.out; omega)]
        exact HCN.out
      have hki2 : (k : Int) = 1 + nl + el := by omega
      have heq : ((k : Int) == 1 + nl + el) = true := by rw [hki2]; simp
      have hnl : nl ≤ 40000 := by omega
      have hel : el ≤ 40000 := by omega
      obtain ⟨⟨x0, x1, x2⟩, xl⟩ := HS.out wr HK3.out
      clear hkk hki2 HSZ HGET HCN
      go_wp2_with fail
      go_ret
      exact ⟨rfl, below2 HK0.out HK3.out⟩

theorem law_portLines (N : List Nd) (E : List Ed) (na : Option Addr) (nl nc : Nat) (ea : Option Addr) (el ec : Nat) (next : Int) (w : World) (h : GrOk w N E na nl ea el) (hT : Tabs w.heap.size w) (hP : Pow10 w.heap.size w) :
    Calls Tryz.prog 5 #[.agg #[.slice na nl nc, .slice ea el ec, .int .i64 next]] w fun e w' => e = .returned (.bool true) ∧ Below w.heap.size w w' := by
  have HPD : Hid (∀ W, Below w.heap.size w W → Calls Tryz.prog 8 #[] W fun e w' => e = .returned (.bool true) ∧ Below W.heap.size W w') := fun W k => ported_true w.heap.size W k.size (hT.below k) (hP.below k)
  rcases print_two (next := next) h nc ec hT hP with ⟨s, er, he, hC⟩ | ⟨S, hR, hf, rfl, hN, hE, hC⟩
  · exact portLines_bad na nl nc ea el ec next er s w he hC HPD
  · have hnl : nl = S.N.length := by obtain ⟨Q, q1, q2⟩ := hN; rw [q1.1, q2.1]
    have hel : el = S.E.length := by obtain ⟨Q, q1, q2⟩ := hE; rw [q1.1, q2.1]
    refine portLines_good na nl nc ea el ec S.next (txtG S.next S.N S.E) w ?_ ?_ hC HPD
    · unfold fitS at hf
      simpa using (Bool.and_eq_true_iff.1 hf).2
    · rw [hnl, hel]
      exact rt_count hR
end Go.Proofs.YthbbapimedlocaaGreatDoor
