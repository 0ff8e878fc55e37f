/-
  What is proved here: what the texts BLawRg, EInts prove, in one text.
-/
import Derived.Test.YtcfifihlfomccaaDoorQBAT
import Derived.Test.YtcfifihlfomccaaDoorQBAU
import Derived.Test.YtcfifihlfomccaaDoorQBAD
import Derived.Test.YtcfifihlfomccaaDoorQBAI
namespace Go.Proofs.YtcfifihlfomccaaDoor
open Go.RowKit
set_option linter.unusedVariables false

set_option linter.unusedSimpArgs false

/-- A bag and an error that are handed back: if there is none, the bag is right, and counts so. -/
def Res (w' : World) (f : List T → Int) (e : Ending) : Prop := ∃ a l c z, e = .returned (.tuple #[.slice a l c, .int .i64 z]) ∧ (z = 0 → ∃ Z, RB w' Z a l ∧ ∀ r, cnt Z r = f r)

theorem pick_res (B : Nat) (X : List Cn) (C : List Int) (a : Option Addr) (l c : Nat) (ca : Option Addr) (cl cc : Nat) (w : World) (hB : B ≤ w.heap.size) (hT : Tabs B w) (hX : RB w X a l) (hC : IntsAt w C ca cl) :
    Calls Tryd.prog 13 #[.slice a l c, .slice ca cl cc] w fun e w' => Res w' (cnt (pickX C X)) e ∧ Below w.heap.size w w' := by
  refine (pick_rb B X C a l c ca cl cc w hB hT hX hC).mono ?_
  rintro e w' ⟨h, k⟩
  refine ⟨?_, k⟩
  rcases h with ⟨z, hz, rfl⟩ | ⟨Z, a2, l2, c2, rfl, h1, h2⟩
  · exact ⟨none, 0, 0, z, rfl, fun h => absurd h hz⟩
  · exact ⟨a2, l2, c2, 0, rfl, fun _ => ⟨Z, h1, h2⟩⟩

theorem add_res (B : Nat) (X Y : List Cn) (k : Int) (zx zy : Int) (a a' : Option Addr) (l c l' c' : Nat) (w : World) (hB : B ≤ w.heap.size) (hT : Tabs B w) (hk : -1000 ≤ k ∧ k ≤ 1000)
    (hCX : ∀ W, Below w.heap.size w W → Calls Tryd.prog 7 #[.slice a l c] W fun e w' => e = .returned (.int .i64 zx) ∧ Below W.heap.size W w')
    (hCY : ∀ W, Below w.heap.size w W → Calls Tryd.prog 7 #[.slice a' l' c'] W fun e w' => e = .returned (.int .i64 zy) ∧ Below W.heap.size W w')
    (hX : zx = 0 → RB w X a l) (hY : zy = 0 → RB w Y a' l') :
    Calls Tryd.prog 11 #[.slice a l c, .slice a' l' c', .int .i64 k] w fun e w' => (∃ a2 l2 c2 z, e = .returned (.tuple #[.slice a2 l2 c2, .int .i64 z]) ∧ (z = 0 → zx = 0 ∧ zy = 0 ∧ ∃ Z, RB w' Z a2 l2 ∧ ∀ r, cnt Z r = cnt X r + k * cnt Y r)) ∧ Below w.heap.size w w' := by
  have h0 : (if zx = 0 then zy else zx) = 0 → zx = 0 ∧ zy = 0 := fun h => by
    split at h
    · exact ⟨by assumption, h⟩
    · exact absurd h (by assumption)
  refine (add_any B X Y k zx zy _ a a' l c l' c' w hB hT hk rfl hCX hCY (fun h => hX (h0 h).1) (fun h => hY (h0 h).2)).mono ?_
  rintro e w' ⟨h, kb⟩
  refine ⟨?_, kb⟩
  rcases h with ⟨h1, rfl⟩ | ⟨h1, Z, z1, z2, z3⟩
  · exact ⟨none, 0, 0, _, rfl, fun h => absurd h h1⟩
  · rcases z3 with ⟨_, a2, l2, c2, rfl, hr⟩ | ⟨_, z, hz, rfl⟩
    · exact ⟨a2, l2, c2, 0, rfl, fun _ => ⟨(h0 h1).1, (h0 h1).2, Z, hr, z2⟩⟩
    · exact ⟨none, 0, 0, z, rfl, fun h => absurd h hz⟩

/-- What is told of a right bag by its check. -/
theorem RB.check {w : World} {X : List Cn} {a : Option Addr} {l : Nat} (h : RB w X a l) (c : Nat) (W : World) (k : Below w.heap.size w W) : Calls Tryd.prog 7 #[.slice a l c] W fun e w' => e = .returned (.int .i64 0) ∧ Below W.heap.size W w' := by
  obtain ⟨_, M, _, m2, _, m4⟩ := h
  have h := check_bag M a l c w W m2 k
  rw [m4] at h
  exact h

/-- The sum of right bags that is known to be right. -/
theorem add_known (B : Nat) (X Y S : List Cn) (k : Int) (a a' : Option Addr) (l c l' c' : Nat) (w : World) (hB : B ≤ w.heap.size) (hT : Tabs B w) (hk : -1000 ≤ k ∧ k ≤ 1000) (hX : RB w X a l) (hY : RB w Y a' l') (hS : Fit S) (hs : ∀ r, cnt S r = cnt X r + k * cnt Y r) :
    Calls Tryd.prog 11 #[.slice a l c, .slice a' l' c', .int .i64 k] w fun e w' => (∃ a2 l2 c2, e = .returned (.tuple #[.slice a2 l2 c2, .int .i64 0]) ∧ RB w' S a2 l2) ∧ Below w.heap.size w w' := by
  refine (add_any B X Y k 0 0 0 a a' l c l' c' w hB hT hk rfl (fun W kW => hX.check c W kW) (fun W kW => hY.check c' W kW) (fun _ => hX) (fun _ => hY)).mono ?_
  rintro e w' ⟨h, kb⟩
  refine ⟨?_, kb⟩
  rcases h with ⟨h1, _⟩ | ⟨_, Z, z1, z2, z3⟩
  · exact absurd rfl h1
  · have hZ : Z = S := bag_ext _ _ z1 hS.bag fun r => by rw [z2, hs]
    subst hZ
    rcases z3 with ⟨_, a2, l2, c2, rfl, hr⟩ | ⟨hn, _⟩
    · exact ⟨a2, l2, c2, rfl, hr⟩
    · exact absurd hS hn

set_option maxHeartbeats 16000000 in
set_option maxRecDepth 100000 in
theorem ring_any (X Y V : List Cn) (C : List Int) (zx zy : Int) (a : Option Addr) (l c : Nat) (a' : Option Addr) (l' c' : Nat) (ad : Option Addr) (ld cd : Nat) (ca : Option Addr) (cl cc : Nat) (w : World) (hT : Tabs w.heap.size w)
    (hCX : ∀ W, Below w.heap.size w W → Calls Tryd.prog 7 #[.slice a l c] W fun e w' => e = .returned (.int .i64 zx) ∧ Below W.heap.size W w')
    (hCY : ∀ W, Below w.heap.size w W → Calls Tryd.prog 7 #[.slice a' l' c'] W fun e w' => e = .returned (.int .i64 zy) ∧ Below W.heap.size W w')
    (hX : zx = 0 → RB w X a l) (hY : zy = 0 → RB w Y a' l') (hC : IntsAt w C ca cl)
    (hJ : ∀ W, Below w.heap.size w W → ∀ Q a1 l1 c1, RB W Q a1 l1 → Calls Tryd.prog 14 #[.slice a1 l1 c1, .slice ad ld cd, .int .i64 1] W fun e w' => Res w' (cnt (joinX 1 Q V)) e ∧ Below W.heap.size W w') :
    Calls Tryd.prog 4 #[.slice a l c, .slice a' l' c', .slice ad ld cd, .slice ca cl cc] w fun e w' => e = .returned (.bool true) ∧ Below w.heap.size w w' := by
  have HT := toHid hT
  have HCX := toHid hCX
  have HCY := toHid hCY
  have HX := toHid hX
  have HY := toHid hY
  have HC := toHid hC
  have HJ := toHid hJ
  have HA1 := toHid (add_res w.heap.size X Y 1 zx zy a a' l c l' c' w (Nat.le_refl _) hT (by decide) hCX hCY hX hY)
  clear hT hCX hCY hX hY hC hJ
  go_enter Tryd.func4, Tryd.ntmps4
  go_wp2_with fail
  refine HA1.out.mono ?_
  rintro e w1 ⟨⟨a1, l1, c1, z1, rfl, h1⟩, k1⟩
  have HK1 := toHid k1
  have HR1 := toHid h1
  have HA2 := toHid (add_res w.heap.size Y X 1 zy zx a' a l' c' l c w1 HK1.out.size (HT.out.below HK1.out) (by decide) (fun W kW => HCY.out W (HK1.out.trans (kW.mono HK1.out.size))) (fun W kW => HCX.out W (HK1.out.trans (kW.mono HK1.out.size))) (fun h => (HY.out h).below HK1.out) (fun h => (HX.out h).below HK1.out))
  clear k1 h1 HA1
  go_wp2_with fail
  refine HA2.out.mono ?_
  rintro e w2 ⟨⟨a2, l2, c2, z2, rfl, h2⟩, k2⟩
  have HK2 := toHid (HK1.out.trans (k2.mono HK1.out.size))
  have HR2 := toHid h2
  have HR1b : Hid (z1 = 0 → zx = 0 ∧ zy = 0 ∧ ∃ Z, RB w2 Z a1 l1 ∧ ∀ r, cnt Z r = cnt X r + 1 * cnt Y r) := fun h => by
    obtain ⟨g1, g2, Z, g3, g4⟩ := HR1.out h
    exact ⟨g1, g2, Z, g3.below k2, g4⟩
  clear k2 h2 HA2 HR1
  go_wp2_with fail
  refine (bagged_true w.heap.size w2 HK2.out.size (HT.out.below HK2.out)).mono ?_
  rintro e w3 ⟨rfl, k3⟩
  have HK3 := toHid (HK2.out.trans (k3.mono HK2.out.size))
  have HBG := toHid (bagged_true w.heap.size w3 HK3.out.size (HT.out.below HK3.out))
  by_cases hz1 : z1 = 0
  case neg =>
    have hz1' : (z1 != 0) = true := by simp [hz1]
    clear k3 hz1
    go_wp2_with fail
    refine HBG.out.mono ?_
    rintro e w4 ⟨rfl, k4⟩
    have HK4 := toHid (HK3.out.trans (k4.mono HK3.out.size))
    clear k4
    go_wp2_with fail
    go_ret
    exact ⟨rfl, HK4.out⟩
  by_cases hz2 : z2 = 0
  case neg =>
    have hz1' : (z1 != 0) = false := by simp [hz1]
    have hz2' : (z2 != 0) = true := by simp [hz2]
    clear k3 hz1 hz2
    go_wp2_with fail
    refine HBG.out.mono ?_
    rintro e w4 ⟨rfl, k4⟩
    have HK4 := toHid (HK3.out.trans (k4.mono HK3.out.size))
    clear k4
    go_wp2_with fail
    go_ret
    exact ⟨rfl, HK4.out⟩
  obtain ⟨gx, gy, S, gS, gs⟩ := HR1b.out hz1
  obtain ⟨_, _, S', gS', gs'⟩ := HR2.out hz2
  have hSS : S' = S := bag_ext _ _ gS'.1.bag gS.1.bag fun r => by rw [gs', gs]; omega
  subst hSS
  subst hz1 hz2
  have HXR := toHid (HX.out gx)
  have HYR := toHid (HY.out gy)
  have HS3 := toHid (gS.below k3)
  have HS3' := toHid (gS'.below k3)
  have HGS := toHid gs
  have HA3 := toHid (add_known w.heap.size S' Y X (-1) a1 a' l1 c1 l' c' w3 HK3.out.size (HT.out.below HK3.out) (by decide) HS3.out (HYR.out.below HK3.out) HXR.out.1 fun r => by rw [gs]; omega)
  clear k3 gx gy gS gs gS' gs' HR1b HR2 HBG HCX HCY HX HY
  go_wp2_with fail
  refine HA3.out.mono ?_
  rintro e w4 ⟨⟨a4, l4, c4, rfl, h4⟩, k4⟩
  have HK4 := toHid (HK3.out.trans (k4.mono HK3.out.size))
  have HR4 := toHid h4
  have HS4 := toHid (HS3.out.below k4)
  have HSB := toHid (same_rb (c := c1) (c' := c2) HS4.out (HS3'.out.below k4))
  clear k4 h4 HA3 HS3 HS3'
  go_wp2_with fail
  refine HSB.out.mono ?_
  rintro e w5 ⟨rfl, k5⟩
  have HK5 := toHid (HK4.out.trans (k5.mono HK4.out.size))
  have HS5 := toHid (HS4.out.below k5)
  have HSB2 := toHid (same_rb (c := c4) (c' := c) (HR4.out.below k5) (HXR.out.below HK5.out))
  clear k5 HSB HR4 HS4
  go_wp2_with fail
  refine HSB2.out.mono ?_
  rintro e w6 ⟨rfl, k6⟩
  have HK6 := toHid (HK5.out.trans (k6.mono HK5.out.size))
  have HS6 := toHid (HS5.out.below k6)
  have HP1 := toHid (pick_res w.heap.size S' C a1 l1 c1 ca cl cc w6 HK6.out.size (HT.out.below HK6.out) HS6.out (HC.out.below HK6.out))
  clear k6 HSB2 HS5
  go_wp2_with fail
  refine HP1.out.mono ?_
  rintro e w7 ⟨⟨a7, l7, c7, z7, rfl, h7⟩, k7⟩
  have HK7 := toHid (HK6.out.trans (k7.mono HK6.out.size))
  have HS7 := toHid (HS6.out.below k7)
  have HR7 := toHid h7
  have HP2 := toHid (pick_res w.heap.size X C a l c ca cl cc w7 HK7.out.size (HT.out.below HK7.out) (HXR.out.below HK7.out) (HC.out.below HK7.out))
  clear k7 h7 HP1 HS6
  go_wp2_with fail
  refine HP2.out.mono ?_
  rintro e w8 ⟨⟨a8, l8, c8, z8, rfl, h8⟩, k8⟩
  have HK8 := toHid (HK7.out.trans (k8.mono HK7.out.size))
  have HS8 := toHid (HS7.out.below k8)
  have HR8 := toHid h8
  have HR7b : Hid (z7 = 0 → ∃ Z, RB w8 Z a7 l7 ∧ ∀ r, cnt Z r = cnt (pickX C S') r) := fun h => by
    obtain ⟨Z, g3, g4⟩ := HR7.out h
    exact ⟨Z, g3.below k8, g4⟩
  have HP3 := toHid (pick_res w.heap.size Y C a' l' c' ca cl cc w8 HK8.out.size (HT.out.below HK8.out) (HYR.out.below HK8.out) (HC.out.below HK8.out))
  clear k8 h8 HP2 HS7 HR7
  go_wp2_with fail
  refine HP3.out.mono ?_
  rintro e w9 ⟨⟨a9, l9, c9, z9, rfl, h9⟩, k9⟩
  have HK9 := toHid (HK8.out.trans (k9.mono HK8.out.size))
  have HS9 := toHid (HS8.out.below k9)
  have HR9 := toHid h9
  have HR7c : Hid (z7 = 0 → ∃ Z, RB w9 Z a7 l7 ∧ ∀ r, cnt Z r = cnt (pickX C S') r) := fun h => by
    obtain ⟨Z, g3, g4⟩ := HR7b.out h
    exact ⟨Z, g3.below k9, g4⟩
  have HR8b : Hid (z8 = 0 → ∃ Z, RB w9 Z a8 l8 ∧ ∀ r, cnt Z r = cnt (pickX C X) r) := fun h => by
    obtain ⟨Z, g3, g4⟩ := HR8.out h
    exact ⟨Z, g3.below k9, g4⟩
  clear k9 h9 HP3 HS8 HR7b HR8
  by_cases hz7 : z7 = 0
  case neg =>
    have e7 : (z7 == 0) = false := by simp [hz7]
    clear hz7 HR7c HR8b HR9
    have HJ1 := toHid (HJ.out w9 HK9.out S' a1 l1 c1 HS9.out)
    go_wp2_with fail
    refine HJ1.out.mono ?_
    rintro e wA ⟨⟨aA, lA, cA, zA, rfl, hA⟩, kA⟩
    have HKA := toHid (HK9.out.trans (kA.mono HK9.out.size))
    have HRA := toHid hA
    have HJ2 := toHid (HJ.out wA HKA.out X a l c (HXR.out.below HKA.out))
    clear kA hA HJ1
    go_wp2_with fail
    refine HJ2.out.mono ?_
    rintro e wB ⟨⟨aB, lB, cB, zB, rfl, hB⟩, kB⟩
    have HKB := toHid (HKA.out.trans (kB.mono HKA.out.size))
    have HRB := toHid hB
    have HRAb : Hid (zA = 0 → ∃ Z, RB wB Z aA lA ∧ ∀ r, cnt Z r = cnt (joinX 1 S' V) r) := fun h => by
      obtain ⟨Z, g3, g4⟩ := HRA.out h
      exact ⟨Z, g3.below kB, g4⟩
    have HJ3 := toHid (HJ.out wB HKB.out Y a' l' c' (HYR.out.below HKB.out))
    clear kB hB HJ2 HRA
    go_wp2_with fail
    refine HJ3.out.mono ?_
    rintro e wC ⟨⟨aC, lC, cC, zC, rfl, hC⟩, kC⟩
    have HKC := toHid (HKB.out.trans (kC.mono HKB.out.size))
    have HRC := toHid hC
    have HRAc : Hid (zA = 0 → ∃ Z, RB wC Z aA lA ∧ ∀ r, cnt Z r = cnt (joinX 1 S' V) r) := fun h => by
      obtain ⟨Z, g3, g4⟩ := HRAb.out h
      exact ⟨Z, g3.below kC, g4⟩
    have HRBb : Hid (zB = 0 → ∃ Z, RB wC Z aB lB ∧ ∀ r, cnt Z r = cnt (joinX 1 X V) r) := fun h => by
      obtain ⟨Z, g3, g4⟩ := HRB.out h
      exact ⟨Z, g3.below kC, g4⟩
    clear kC hC HJ3 HRAb HRB
    by_cases hzA : zA = 0
    case neg =>
      have hzA' : (zA != 0) = true := by simp [hzA]
      clear hzA
      go_wp2_with fail
      go_ret
      exact ⟨rfl, HKC.out⟩
    by_cases hzB : zB = 0
    case neg =>
      have hzA' : (zA != 0) = false := by simp [hzA]
      have hzB' : (zB != 0) = true := by simp [hzB]
      clear hzA hzB
      go_wp2_with fail
      go_ret
      exact ⟨rfl, HKC.out⟩
    by_cases hzC : zC = 0
    case neg =>
      have hzA' : (zA != 0) = false := by simp [hzA]
      have hzB' : (zB != 0) = false := by simp [hzB]
      have hzC' : (zC != 0) = true := by simp [hzC]
      clear hzA hzB hzC
      go_wp2_with fail
      go_ret
      exact ⟨rfl, HKC.out⟩
    obtain ⟨PA, rA, nA⟩ := HRAc.out hzA
    obtain ⟨PB, rB, nB⟩ := HRBb.out hzB
    obtain ⟨PC, rC, nC⟩ := HRC.out hzC
    subst hzA hzB hzC
    have HPA := toHid rA
    have HAD := toHid (add_known w.heap.size PB PC PA 1 aB aC lB cB lC cC wC HKC.out.size (HT.out.below HKC.out) (by decide) rB rC rA.1 fun r => by
      rw [nA, nB, nC, join_sum 1 V (A := X) (B := Y) (fun q => by rw [HGS.out]; omega)]
      omega)
    clear rA rB rC nA nB nC HRAc HRBb HRC
    go_wp2_with fail
    refine HAD.out.mono ?_
    rintro e wD ⟨⟨aD, lD, cD, rfl, hD⟩, kD⟩
    have HKD := toHid (HKC.out.trans (kD.mono HKC.out.size))
    have HSD := toHid (same_rb (c := cA) (c' := cD) (HPA.out.below kD) hD)
    clear kD hD HAD
    go_wp2_with fail
    refine HSD.out.mono ?_
    rintro e wE ⟨rfl, kE⟩
    have HKE := toHid (HKD.out.trans (kE.mono HKD.out.size))
    clear kE HSD
    go_wp2_with fail
    go_ret
    exact ⟨rfl, HKE.out⟩
  by_cases hz8 : z8 = 0
  case neg =>
    have e7 : (z7 == 0) = true := by simp [hz7]
    have e8 : (z8 == 0) = false := by simp [hz8]
    clear hz7 hz8 HR7c HR8b HR9
    have HJ1 := toHid (HJ.out w9 HK9.out S' a1 l1 c1 HS9.out)
    go_wp2_with fail
    refine HJ1.out.mono ?_
    rintro e wA ⟨⟨aA, lA, cA, zA, rfl, hA⟩, kA⟩
    have HKA := toHid (HK9.out.trans (kA.mono HK9.out.size))
    have HRA := toHid hA
    have HJ2 := toHid (HJ.out wA HKA.out X a l c (HXR.out.below HKA.out))
    clear kA hA HJ1
    go_wp2_with fail
    refine HJ2.out.mono ?_
    rintro e wB ⟨⟨aB, lB, cB, zB, rfl, hB⟩, kB⟩
    have HKB := toHid (HKA.out.trans (kB.mono HKA.out.size))
    have HRB := toHid hB
    have HRAb : Hid (zA = 0 → ∃ Z, RB wB Z aA lA ∧ ∀ r, cnt Z r = cnt (joinX 1 S' V) r) := fun h => by
      obtain ⟨Z, g3, g4⟩ := HRA.out h
      exact ⟨Z, g3.below kB, g4⟩
    have HJ3 := toHid (HJ.out wB HKB.out Y a' l' c' (HYR.out.below HKB.out))
    clear kB hB HJ2 HRA
    go_wp2_with fail
    refine HJ3.out.mono ?_
    rintro e wC ⟨⟨aC, lC, cC, zC, rfl, hC⟩, kC⟩
    have HKC := toHid (HKB.out.trans (kC.mono HKB.out.size))
    have HRC := toHid hC
    have HRAc : Hid (zA = 0 → ∃ Z, RB wC Z aA lA ∧ ∀ r, cnt Z r = cnt (joinX 1 S' V) r) := fun h => by
      obtain ⟨Z, g3, g4⟩ := HRAb.out h
      exact ⟨Z, g3.below kC, g4⟩
    have HRBb : Hid (zB = 0 → ∃ Z, RB wC Z aB lB ∧ ∀ r, cnt Z r = cnt (joinX 1 X V) r) := fun h => by
      obtain ⟨Z, g3, g4⟩ := HRB.out h
      exact ⟨Z, g3.below kC, g4⟩
    clear kC hC HJ3 HRAb HRB
    by_cases hzA : zA = 0
    case neg =>
      have hzA' : (zA != 0) = true := by simp [hzA]
      clear hzA
      go_wp2_with fail
      go_ret
      exact ⟨rfl, HKC.out⟩
    by_cases hzB : zB = 0
    case neg =>
      have hzA' : (zA != 0) = false := by simp [hzA]
      have hzB' : (zB != 0) = true := by simp [hzB]
      clear hzA hzB
      go_wp2_with fail
      go_ret
      exact ⟨rfl, HKC.out⟩
    by_cases hzC : zC = 0
    case neg =>
      have hzA' : (zA != 0) = false := by simp [hzA]
      have hzB' : (zB != 0) = false := by simp [hzB]
      have hzC' : (zC != 0) = true := by simp [hzC]
      clear hzA hzB hzC
      go_wp2_with fail
      go_ret
      exact ⟨rfl, HKC.out⟩
    obtain ⟨PA, rA, nA⟩ := HRAc.out hzA
    obtain ⟨PB, rB, nB⟩ := HRBb.out hzB
    obtain ⟨PC, rC, nC⟩ := HRC.out hzC
    subst hzA hzB hzC
    have HPA := toHid rA
    have HAD := toHid (add_known w.heap.size PB PC PA 1 aB aC lB cB lC cC wC HKC.out.size (HT.out.below HKC.out) (by decide) rB rC rA.1 fun r => by
      rw [nA, nB, nC, join_sum 1 V (A := X) (B := Y) (fun q => by rw [HGS.out]; omega)]
      omega)
    clear rA rB rC nA nB nC HRAc HRBb HRC
    go_wp2_with fail
    refine HAD.out.mono ?_
    rintro e wD ⟨⟨aD, lD, cD, rfl, hD⟩, kD⟩
    have HKD := toHid (HKC.out.trans (kD.mono HKC.out.size))
    have HSD := toHid (same_rb (c := cA) (c' := cD) (HPA.out.below kD) hD)
    clear kD hD HAD
    go_wp2_with fail
    refine HSD.out.mono ?_
    rintro e wE ⟨rfl, kE⟩
    have HKE := toHid (HKD.out.trans (kE.mono HKD.out.size))
    clear kE HSD
    go_wp2_with fail
    go_ret
    exact ⟨rfl, HKE.out⟩
  by_cases hz9 : z9 = 0
  case neg =>
    have e7 : (z7 == 0) = true := by simp [hz7]
    have e8 : (z8 == 0) = true := by simp [hz8]
    have e9 : (z9 == 0) = false := by simp [hz9]
    clear hz7 hz8 hz9 HR7c HR8b HR9
    have HJ1 := toHid (HJ.out w9 HK9.out S' a1 l1 c1 HS9.out)
    go_wp2_with fail
    refine HJ1.out.mono ?_
    rintro e wA ⟨⟨aA, lA, cA, zA, rfl, hA⟩, kA⟩
    have HKA := toHid (HK9.out.trans (kA.mono HK9.out.size))
    have HRA := toHid hA
    have HJ2 := toHid (HJ.out wA HKA.out X a l c (HXR.out.below HKA.out))
    clear kA hA HJ1
    go_wp2_with fail
    refine HJ2.out.mono ?_
    rintro e wB ⟨⟨aB, lB, cB, zB, rfl, hB⟩, kB⟩
    have HKB := toHid (HKA.out.trans (kB.mono HKA.out.size))
    have HRB := toHid hB
    have HRAb : Hid (zA = 0 → ∃ Z, RB wB Z aA lA ∧ ∀ r, cnt Z r = cnt (joinX 1 S' V) r) := fun h => by
      obtain ⟨Z, g3, g4⟩ := HRA.out h
      exact ⟨Z, g3.below kB, g4⟩
    have HJ3 := toHid (HJ.out wB HKB.out Y a' l' c' (HYR.out.below HKB.out))
    clear kB hB HJ2 HRA
    go_wp2_with fail
    refine HJ3.out.mono ?_
    rintro e wC ⟨⟨aC, lC, cC, zC, rfl, hC⟩, kC⟩
    have HKC := toHid (HKB.out.trans (kC.mono HKB.out.size))
    have HRC := toHid hC
    have HRAc : Hid (zA = 0 → ∃ Z, RB wC Z aA lA ∧ ∀ r, cnt Z r = cnt (joinX 1 S' V) r) := fun h => by
      obtain ⟨Z, g3, g4⟩ := HRAb.out h
      exact ⟨Z, g3.below kC, g4⟩
    have HRBb : Hid (zB = 0 → ∃ Z, RB wC Z aB lB ∧ ∀ r, cnt Z r = cnt (joinX 1 X V) r) := fun h => by
      obtain ⟨Z, g3, g4⟩ := HRB.out h
      exact ⟨Z, g3.below kC, g4⟩
    clear kC hC HJ3 HRAb HRB
    by_cases hzA : zA = 0
    case neg =>
      have hzA' : (zA != 0) = true := by simp [hzA]
      clear hzA
      go_wp2_with fail
      go_ret
      exact ⟨rfl, HKC.out⟩
    by_cases hzB : zB = 0
    case neg =>
      have hzA' : (zA != 0) = false := by simp [hzA]
      have hzB' : (zB != 0) = true := by simp [hzB]
      clear hzA hzB
      go_wp2_with fail
      go_ret
      exact ⟨rfl, HKC.out⟩
    by_cases hzC : zC = 0
    case neg =>
      have hzA' : (zA != 0) = false := by simp [hzA]
      have hzB' : (zB != 0) = false := by simp [hzB]
      have hzC' : (zC != 0) = true := by simp [hzC]
      clear hzA hzB hzC
      go_wp2_with fail
      go_ret
      exact ⟨rfl, HKC.out⟩
    obtain ⟨PA, rA, nA⟩ := HRAc.out hzA
    obtain ⟨PB, rB, nB⟩ := HRBb.out hzB
    obtain ⟨PC, rC, nC⟩ := HRC.out hzC
    subst hzA hzB hzC
    have HPA := toHid rA
    have HAD := toHid (add_known w.heap.size PB PC PA 1 aB aC lB cB lC cC wC HKC.out.size (HT.out.below HKC.out) (by decide) rB rC rA.1 fun r => by
      rw [nA, nB, nC, join_sum 1 V (A := X) (B := Y) (fun q => by rw [HGS.out]; omega)]
      omega)
    clear rA rB rC nA nB nC HRAc HRBb HRC
    go_wp2_with fail
    refine HAD.out.mono ?_
    rintro e wD ⟨⟨aD, lD, cD, rfl, hD⟩, kD⟩
    have HKD := toHid (HKC.out.trans (kD.mono HKC.out.size))
    have HSD := toHid (same_rb (c := cA) (c' := cD) (HPA.out.below kD) hD)
    clear kD hD HAD
    go_wp2_with fail
    refine HSD.out.mono ?_
    rintro e wE ⟨rfl, kE⟩
    have HKE := toHid (HKD.out.trans (kE.mono HKD.out.size))
    clear kE HSD
    go_wp2_with fail
    go_ret
    exact ⟨rfl, HKE.out⟩
  obtain ⟨P7, r7, n7⟩ := HR7c.out hz7
  obtain ⟨P8, r8, n8⟩ := HR8b.out hz8
  obtain ⟨P9, r9, n9⟩ := HR9.out hz9
  subst hz7 hz8 hz9
  have HP7 := toHid r7
  have HAP := toHid (add_known w.heap.size P8 P9 P7 1 a8 a9 l8 c8 l9 c9 w9 HK9.out.size (HT.out.below HK9.out) (by decide) r8 r9 r7.1 fun r => by
    rw [n7, n8, n9]
    unfold pickX
    rw [pick_sum (pickT C) (A := X) (B := Y) (fun q => by rw [HGS.out]; omega)]
    omega)
  clear r7 r8 r9 n7 n8 n9 HR7c HR8b HR9
  go_wp2_with fail
  refine HAP.out.mono ?_
  rintro e wF ⟨⟨aF, lF, cF, rfl, hF⟩, kF⟩
  have HKF := toHid (HK9.out.trans (kF.mono HK9.out.size))
  have HSF := toHid (HS9.out.below kF)
  have HSM := toHid (same_rb (c := c7) (c' := cF) (HP7.out.below kF) hF)
  clear kF hF HAP
  go_wp2_with fail
  refine HSM.out.mono ?_
  rintro e wG ⟨rfl, kG⟩
  have HKG := toHid (HKF.out.trans (kG.mono HKF.out.size))
  have HSG := toHid (HSF.out.below kG)
  clear kG HSM HSF HS9
  have HJ1 := toHid (HJ.out wG HKG.out S' a1 l1 c1 HSG.out)
  go_wp2_with fail
  refine HJ1.out.mono ?_
  rintro e wA ⟨⟨aA, lA, cA, zA, rfl, hA⟩, kA⟩
  have HKA := toHid (HKG.out.trans (kA.mono HKG.out.size))
  have HRA := toHid hA
  have HJ2 := toHid (HJ.out wA HKA.out X a l c (HXR.out.below HKA.out))
  clear kA hA HJ1
  go_wp2_with fail
  refine HJ2.out.mono ?_
  rintro e wB ⟨⟨aB, lB, cB, zB, rfl, hB⟩, kB⟩
  have HKB := toHid (HKA.out.trans (kB.mono HKA.out.size))
  have HRB := toHid hB
  have HRAb : Hid (zA = 0 → ∃ Z, RB wB Z aA lA ∧ ∀ r, cnt Z r = cnt (joinX 1 S' V) r) := fun h => by
    obtain ⟨Z, g3, g4⟩ := HRA.out h
    exact ⟨Z, g3.below kB, g4⟩
  have HJ3 := toHid (HJ.out wB HKB.out Y a' l' c' (HYR.out.below HKB.out))
  clear kB hB HJ2 HRA
  go_wp2_with fail
  refine HJ3.out.mono ?_
  rintro e wC ⟨⟨aC, lC, cC, zC, rfl, hC⟩, kC⟩
  have HKC := toHid (HKB.out.trans (kC.mono HKB.out.size))
  have HRC := toHid hC
  have HRAc : Hid (zA = 0 → ∃ Z, RB wC Z aA lA ∧ ∀ r, cnt Z r = cnt (joinX 1 S' V) r) := fun h => by
    obtain ⟨Z, g3, g4⟩ := HRAb.out h
    exact ⟨Z, g3.below kC, g4⟩
  have HRBb : Hid (zB = 0 → ∃ Z, RB wC Z aB lB ∧ ∀ r, cnt Z r = cnt (joinX 1 X V) r) := fun h => by
    obtain ⟨Z, g3, g4⟩ := HRB.out h
    exact ⟨Z, g3.below kC, g4⟩
  clear kC hC HJ3 HRAb HRB
  by_cases hzA : zA = 0
  case neg =>
    have hzA' : (zA != 0) = true := by simp [hzA]
    clear hzA
    go_wp2_with fail
    go_ret
    exact ⟨rfl, HKC.out⟩
  by_cases hzB : zB = 0
  case neg =>
    have hzA' : (zA != 0) = false := by simp [hzA]
    have hzB' : (zB != 0) = true := by simp [hzB]
    clear hzA hzB
    go_wp2_with fail
    go_ret
    exact ⟨rfl, HKC.out⟩
  by_cases hzC : zC = 0
  case neg =>
    have hzA' : (zA != 0) = false := by simp [hzA]
    have hzB' : (zB != 0) = false := by simp [hzB]
    have hzC' : (zC != 0) = true := by simp [hzC]
    clear hzA hzB hzC
    go_wp2_with fail
    go_ret
    exact ⟨rfl, HKC.out⟩
  obtain ⟨PA, rA, nA⟩ := HRAc.out hzA
  obtain ⟨PB, rB, nB⟩ := HRBb.out hzB
  obtain ⟨PC, rC, nC⟩ := HRC.out hzC
  subst hzA hzB hzC
  have HPA := toHid rA
  have HAD := toHid (add_known w.heap.size PB PC PA 1 aB aC lB cB lC cC wC HKC.out.size (HT.out.below HKC.out) (by decide) rB rC rA.1 fun r => by
    rw [nA, nB, nC, join_sum 1 V (A := X) (B := Y) (fun q => by rw [HGS.out]; omega)]
    omega)
  clear rA rB rC nA nB nC HRAc HRBb HRC
  go_wp2_with fail
  refine HAD.out.mono ?_
  rintro e wD ⟨⟨aD, lD, cD, rfl, hD⟩, kD⟩
  have HKD := toHid (HKC.out.trans (kD.mono HKC.out.size))
  have HSD := toHid (same_rb (c := cA) (c' := cD) (HPA.out.below kD) hD)
  clear kD hD HAD
  go_wp2_with fail
  refine HSD.out.mono ?_
  rintro e wE ⟨rfl, kE⟩
  have HKE := toHid (HKD.out.trans (kE.mono HKD.out.size))
  clear kE HSD
  go_wp2_with fail
  go_ret
  exact ⟨rfl, HKE.out⟩

/-- What is known of a bag that reads, however long. -/
structure BagAny (w : World) (a : Option Addr) (l : Nat) : Prop where
  len : l ≤ 9223372036854775807
  short : l ≤ 1000000 → ∃ M, BagArg w M a l
  cts : ∃ O, CtsL w O a l

/-- What its check answers, and that it is right if that is nothing. -/
theorem BagAny.check {w : World} {a : Option Addr} {l : Nat} (h : BagAny w a l) (c : Nat) : ∃ z X, (∀ W, Below w.heap.size w W → Calls Tryd.prog 7 #[.slice a l c] W fun e w' => e = .returned (.int .i64 z) ∧ Below W.heap.size W w') ∧ (z = 0 → RB w X a l) := by
  by_cases hl : 2000 < l
  · exact ⟨2, [], fun W kW => check_long a l c W hl h.len, fun h => by cases h⟩
  · obtain ⟨M, hm⟩ := h.short (by omega)
    exact ⟨bagE M, _, fun W kW => check_bag M a l c w W hm.bag kW, fun h0 => hm.rb h0⟩

/-- What Join with such a bag answers. -/
theorem BagAny.joins {w : World} {ad : Option Addr} {ld : Nat} (h : BagAny w ad ld) (cd : Nat) (hT : Tabs w.heap.size w) : ∃ V, ∀ W, Below w.heap.size w W → ∀ Q a1 l1 c1, RB W Q a1 l1 → Calls Tryd.prog 14 #[.slice a1 l1 c1, .slice ad ld cd, .int .i64 1] W fun e w' => Res w' (cnt (joinX 1 Q V)) e ∧ Below W.heap.size W w' := by
  by_cases hl : 2000 < ld
  · obtain ⟨O, hO⟩ := h.cts
    refine ⟨[], fun W kW Q a1 l1 c1 hQ => ?_⟩
    refine (join_long Q O a1 ad l1 c1 ld cd W hQ (hO.below kW) hl).mono ?_
    rintro e w' ⟨⟨z, hz, rfl⟩, k⟩
    exact ⟨⟨none, 0, 0, z, rfl, fun h => absurd h hz⟩, k⟩
  · obtain ⟨M, hm⟩ := h.short (by omega)
    by_cases h0 : bagE M = 0
    · refine ⟨M.map fun y => y.1.cn, fun W kW Q a1 l1 c1 hQ => ?_⟩
      refine (join_rb w.heap.size Q _ 1 a1 ad l1 c1 ld cd W kW.size (hT.below kW) hQ ((hm.rb h0).below kW)).mono ?_
      rintro e w' ⟨hh, k⟩
      refine ⟨?_, k⟩
      rcases hh with ⟨z, hz, rfl, _⟩ | ⟨Z, a2, l2, c2, rfl, g1, g2⟩
      · exact ⟨none, 0, 0, z, rfl, fun h => absurd h hz⟩
      · exact ⟨a2, l2, c2, 0, rfl, fun _ => ⟨Z, g1, g2⟩⟩
    · refine ⟨[], fun W kW Q a1 l1 c1 hQ => ?_⟩
      obtain ⟨hf, N, n1, n2, n3, n4⟩ := hQ
      refine (join_any w.heap.size N M 1 a1 ad l1 c1 ld cd W kW.size (hT.below kW) n2 (hm.bag.below kW) n3 hm.rows).mono ?_
      rintro e w' ⟨hh, k⟩
      have hj : joinE N M 1 ≠ 0 := fun he => h0 (joinE_zero he).2.2.2.2.2
      refine ⟨?_, k⟩
      rcases hh with ⟨_, rfl⟩ | ⟨h1, _⟩
      · exact ⟨none, 0, 0, _, rfl, fun h => absurd h hj⟩
      · exact absurd h1 hj

theorem law_ring (a : Option Addr) (l c : Nat) (a' : Option Addr) (l' c' : Nat) (ad : Option Addr) (ld cd : Nat) (C : List Int) (ca : Option Addr) (cl cc : Nat) (w : World) (hT : Tabs w.heap.size w) (h1 : BagAny w a l) (h2 : BagAny w a' l') (h3 : BagAny w ad ld) (hC : IntsAt w C ca cl) :
    Calls Tryd.prog 4 #[.slice a l c, .slice a' l' c', .slice ad ld cd, .slice ca cl cc] w fun e w' => e = .returned (.bool true) ∧ Below w.heap.size w w' := by
  obtain ⟨zx, X, hx1, hx2⟩ := h1.check c
  obtain ⟨zy, Y, hy1, hy2⟩ := h2.check c'
  obtain ⟨V, hV⟩ := h3.joins cd hT
  exact ring_any X Y V C zx zy a l c a' l' c' ad ld cd ca cl cc w hT hx1 hy1 hx2 hy2 hC hV

section
variable {H : Type} {enc : TypeId × Value → H} {w : World} {base : Nat} {spare : Nat → Bool} {held : Bool}

theorem ints_in {fuel : Nat} {a : Option Addr} {l c : Nat} {y : DataW H × List MemPlace} (h : DataW.trod enc Tryd.prog w base spare held fuel 31 [.slice a l c] = some y) : l ≤ c ∧ ∃ L, IntsAt w L a l := by
  have hm : maxLen ≤ 9223372036854775807 := by unfold maxLen; decide
  obtain ⟨h1, h2, h3⟩ := slice_rows Tryd.underlying31 cells1i (by omega) h
  refine ⟨h1, ?_⟩
  by_cases h0 : l = 0
  · subst h0
    exact ⟨[], rfl, by omega, fun h => absurd h (Nat.lt_irrefl _)⟩
  · obtain ⟨b, off, ha, hb, hall⟩ := h3 (by omega)
    obtain ⟨L, hl, hL⟩ := list_of (fun i (s : Int) => w.cell? ⟨b, off + i, none⟩ = some (.int .i64 s)) l (fun i hi => by
      obtain ⟨m, cs, z, q1, q2, q3⟩ := hall i hi
      obtain ⟨s, e2, _, ws⟩ := DataW.trod_int Tryd.underlying3 q3
      subst e2
      have := q2 0 _ rfl
      rw [Nat.mul_one, Nat.add_zero] at this
      exact ⟨s, this⟩)
    exact ⟨L, hl.symm, h2, fun _ => ⟨b, off, ha, hb, hL⟩⟩
end
end Go.Proofs.YtcfifihlfomccaaDoor
