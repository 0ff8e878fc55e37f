/-
  What is proved here: the law ReachTurns answers true of any two graphs that lie in memory, and any text; what was there is as it was.
-/
import Derived.Test.YtkdadaggolcboaaDoorQRAV
namespace Go.Proofs.YtkdadaggolcboaaDoor
open Go.RowKit
set_option linter.unusedVariables false
set_option linter.unusedSimpArgs false

theorem all_nodup {N : List Nd} {E : List Ed} {next : Int} (hg : gE N E next = 0) (kind : ByteArray) : (allF N E kind).Nodup := by
  have hR := gE_ok hg
  have hn : (N.map (·.id)).Nodup := by
    refine List.Pairwise.imp (R := fun a b : Int => a < b) (fun {a b} hab => by omega) ?_
    rw [List.pairwise_iff_getElem]
    intro i j hi hj hij
    exact hR.riseN i j _ _ hij (List.getElem?_eq_getElem hi) (List.getElem?_eq_getElem hj)
  unfold allF sortP
  exact (List.mergeSort_perm _ _).nodup_iff.2 (raws_once E kind _ hn)

set_option maxHeartbeats 8000000 in
set_option maxRecDepth 100000 in
theorem law_turnsR (N : List Nd) (E : List Ed) (na : Option Addr) (nl nc : Nat) (ea : Option Addr) (el ec : Nat) (nx : Int) (M : List Nd) (F : List Ed) (ma : Option Addr) (ml mc : Nat) (fa : Option Addr) (fl fc : Nat) (mx : Int) (kind : ByteArray) (w : World) (h : GrOk w N E na nl ea el) (h' : GrOk w M F ma ml fa fl) :
    Calls Tryd.prog 3 #[.agg #[.slice na nl nc, .slice ea el ec, .int .i64 nx], .agg #[.slice ma ml mc, .slice fa fl fc, .int .i64 mx], .string kind] w fun e w' => e = .returned (.bool true) ∧ Below w.heap.size w w' := by
  obtain ⟨er1, her1⟩ : ∃ z, z = if gE N E nx = 0 then gE M F mx else gE N E nx := ⟨_, rfl⟩
  obtain ⟨er2, her2⟩ : ∃ z, z = if gE M F mx = 0 then gE N E nx else gE M F mx := ⟨_, rfl⟩
  have HC1 := toHid fun (X : World) (kx : Below w.heap.size w X) => change_any h nx h' mx nc ec mc fc kind X kx er1 her1
  have HC2 := toHid fun (X : World) (kx : Below w.heap.size w X) => change_any h' mx h nx mc fc nc ec kind X kx er2 her2
  have HZ : Hid (er1 = 0 → gE N E nx = 0 ∧ gE M F mx = 0) := fun e0 => by
    by_cases h0 : gE N E nx = 0
    · rw [if_pos h0] at her1; exact ⟨h0, her1.symm.trans e0⟩
    · rw [if_neg h0] at her1; exact absurd (her1.symm.trans e0) h0
  have HZ2 : Hid (er1 = 0 → er2 = 0) := fun e0 => by
    obtain ⟨g1, g2⟩ := HZ.out e0
    rw [her2, if_pos g2]
    exact g1
  have HA1 : Hid (er1 = 0 → ∀ X, Below w.heap.size w X → Calls Tryd.prog 6 #[.agg #[.slice na nl nc, .slice ea el ec, .int .i64 nx], .string kind] X fun e w' => ∃ v, e = .returned (.tuple #[v, .int .i64 0]) ∧ w'.ownsRow X.heap.size 34 2 v (allF N E kind).length (pcells (allF N E kind)) ∧ Below X.heap.size X w') := fun e0 X kx => all_good h (HZ.out e0).1 nc ec kind X kx
  have HA2 : Hid (er1 = 0 → ∀ X, Below w.heap.size w X → Calls Tryd.prog 6 #[.agg #[.slice ma ml mc, .slice fa fl fc, .int .i64 mx], .string kind] X fun e w' => ∃ v, e = .returned (.tuple #[v, .int .i64 0]) ∧ w'.ownsRow X.heap.size 34 2 v (allF M F kind).length (pcells (allF M F kind)) ∧ Below X.heap.size X w') := fun e0 X kx => all_good h' (HZ.out e0).2 mc fc kind X kx
  have HLN : Hid (er1 = 0 → (allF N E kind).length ≤ 1000000 ∧ (allF M F kind).length ≤ 1000000 ∧ (allF N E kind).length + (lessP (allF M F kind) (allF N E kind)).length = (allF M F kind).length + (lessP (allF N E kind) (allF M F kind)).length) := fun e0 => by
    obtain ⟨g1, g2⟩ := HZ.out e0
    have r1 := gE_ok g1
    have r2 := gE_ok g2
    have a1 := r1.fewN
    have a2 := r1.fewE
    have a3 := r2.fewN
    have a4 := r2.fewE
    exact ⟨all_len N E kind (by omega) (by omega), all_len M F kind (by omega) (by omega), less_len (all_nodup g1 kind) (all_nodup g2 kind)⟩
  generalize allF N E kind = A at HC1 HC2 HA1 HLN
  generalize allF M F kind = B at HC1 HC2 HA2 HLN
  clear h h' her1 her2 HZ
  have hb0 : Below w.heap.size w ((w.alloc (.cells #[.slice na nl nc, .slice ea el ec, .int .i64 nx] 25)).alloc (.cells #[.slice ma ml mc, .slice fa fl fc, .int .i64 mx] 25)) := ((Below.refl _ _).alloc (Nat.le_refl _) _).alloc (by simp) _
  have HB := toHid hb0
  have HG1 : Hid (((w.alloc (.cells #[.slice na nl nc, .slice ea el ec, .int .i64 nx] 25)).alloc (.cells #[.slice ma ml mc, .slice fa fl fc, .int .i64 mx] 25)).heap[w.heap.size]? = some (.cells #[.slice na nl nc, .slice ea el ec, .int .i64 nx] 25 (0, 0))) := (Below.heap_alloc _ _ _ (by simp)).trans (alloc_new w _)
  have HG2 := toHid (alloc_two w (.cells #[.slice na nl nc, .slice ea el ec, .int .i64 nx] 25) (.cells #[.slice ma ml mc, .slice fa fl fc, .int .i64 mx] 25))
  clear hb0
  go_enter Tryd.func3, Tryd.ntmps3
  go_upto_region 1 with fail
  generalize (w.alloc (.cells #[.slice na nl nc, .slice ea el ec, .int .i64 nx] 25)).alloc (.cells #[.slice ma ml mc, .slice fa fl fc, .int .i64 mx] 25) = X at HB HG1 HG2 ⊢
  have HS : Hid (∀ W' : World, Below X.heap.size X W' → (W'.cell? ⟨w.heap.size, 0, none⟩ = some (.slice na nl nc) ∧ W'.cell? ⟨w.heap.size, 1, none⟩ = some (.slice ea el ec) ∧ W'.cell? ⟨w.heap.size, 2, none⟩ = some (.int .i64 nx) ∧ W'.cell? ⟨w.heap.size + 1, 0, none⟩ = some (.slice ma ml mc) ∧ W'.cell? ⟨w.heap.size + 1, 1, none⟩ = some (.slice fa fl fc) ∧ W'.cell? ⟨w.heap.size + 1, 2, none⟩ = some (.int .i64 mx)) ∧ w.heap.size + 1 < W'.heap.size) := by
    intro W' k
    have q1 := (k.block _ (blk_lt HG1.out)).trans HG1.out
    have q2 := (k.block _ (blk_lt HG2.out)).trans HG2.out
    exact ⟨⟨cell_of q1 0, cell_of q1 1, cell_of q1 2, cell_of q2 0, cell_of q2 1, cell_of q2 2⟩, blk_lt q2⟩
  obtain ⟨⟨x0, x1, x2, x3, x4, x5⟩, hl⟩ := HS.out X (Below.refl _ _)
  go_wp2_with fail
  refine (HC1.out X HB.out).mono ?_
  rintro e w1 ⟨a1, l1, c1, a2, l2, c2, rfl, hr1, k1⟩
  have HR1 := toHid hr1
  have HK1 := toHid k1
  clear x0 x1 x2 x3 x4 x5 hl hr1 k1
  obtain ⟨⟨x0, x1, x2, x3, x4, x5⟩, hl⟩ := HS.out w1 HK1.out
  go_wp2_with fail
  refine (HC2.out w1 (below2 HB.out HK1.out)).mono ?_
  rintro e w2 ⟨a3, l3, c3, a4, l4, c4, rfl, hr2, k2⟩
  have HR2 := toHid hr2
  have HK2 := toHid k2
  have HX2 := toHid (below2 HK1.out k2)
  have HB2 := toHid (below2 (below2 HB.out HK1.out) k2)
  clear x0 x1 x2 x3 x4 x5 hl hr2 k2
  go_wp2_with fail
  refine (reached_true _).mono ?_
  rintro e w3 ⟨rfl, k3⟩
  have HK3 := toHid k3
  have HX3 := toHid (below2 HX2.out k3)
  have HB3 := toHid (below2 HB2.out k3)
  clear k3
  by_cases he1 : er1 = 0
  case neg =>
    have hz1 : (er1 != 0) = true := by simp [he1]
    go_wp2_with fail
    refine (reached_true _).mono ?_
    rintro e w4 ⟨rfl, k4⟩
    go_wp2_with fail
    go_ret
    exact ⟨rfl, below2 HB3.out k4⟩
  have he2 := HZ2.out he1
  have hz1 : (er1 != 0) = false := by simp [he1]
  have hz2 : (er2 != 0) = false := by simp [he2]
  have HA := toHid (HA1.out he1)
  have HBB := toHid (HA2.out he1)
  have HN := toHid (HLN.out he1)
  have HQ1 := toHid (HR1.out he1)
  have HQ2 := toHid (HR2.out he2)
  clear he1 he2 HA1 HA2 HLN HR1 HR2 HC1 HC2 HZ2
  obtain ⟨⟨x0, x1, x2, x3, x4, x5⟩, hl⟩ := HS.out w3 HX3.out
  go_wp2_with fail
  refine (HA.out w3 HB3.out).mono ?_
  rintro e w4 ⟨v4, rfl, hv4, k4⟩
  obtain ⟨a5, l5, c5, rfl⟩ := slice_row hv4
  have HL5 := toHid (row_len hv4).1
  have HK4 := toHid k4
  have HX4 := toHid (below2 HX3.out k4)
  have HB4 := toHid (below2 HB3.out k4)
  clear x0 x1 x2 x3 x4 x5 hl hv4 k4 hz1 hz2
  obtain ⟨⟨x0, x1, x2, x3, x4, x5⟩, hl⟩ := HS.out w4 HX4.out
  go_wp2_with fail
  refine (HBB.out w4 HB4.out).mono ?_
  rintro e w5 ⟨v5, rfl, hv5, k5⟩
  obtain ⟨a6, l6, c6, rfl⟩ := slice_row hv5
  have HL6 := toHid (row_len hv5).1
  have HK5 := toHid k5
  have HB5 := toHid (below2 HB4.out k5)
  clear x0 x1 x2 x3 x4 x5 hl hv5 k5
  have hl1 : (lessP A B).length ≤ A.length := List.length_filter_le _ _
  have hl2 : (lessP B A).length ≤ B.length := List.length_filter_le _ _
  have n1 := HN.out.1
  have n2 := HN.out.2.1
  have n3 := HN.out.2.2
  have k25 : Below w2.heap.size w2 w5 := below2 (below2 HK3.out HK4.out) HK5.out
  have k15 : Below w1.heap.size w1 w5 := below2 HK2.out k25
  have P1 := (prs_row HQ1.out.1 (by omega)).below k15
  have P2 := (prs_row HQ1.out.2 (by omega)).below k15
  have P3 := (prs_row HQ2.out.1 (by omega)).below k25
  have P4 := (prs_row HQ2.out.2 (by omega)).below k25
  have HE1 := toHid (equalP_same (lessP A B) a1 l1 c1 a4 l4 c4 w5 P1 P4)
  have HE2 := toHid fun (Y : World) (ky : Below w5.heap.size w5 Y) => equalP_same (lessP B A) a2 l2 c2 a3 l3 c3 Y (P2.below ky) (P3.below ky)
  have q1 := P1.1
  have q2 := P2.1
  have q5 := HL5.out
  have q6 := HL6.out
  have hw1 : IntKind.i64.wrap ((l5 : Int) - (l1 : Int)) = (l5 : Int) - (l1 : Int) := by
    simp [IntKind.wrap, IntKind.bits, IntKind.signed]
    omega
  have hw2 : IntKind.i64.wrap ((l5 : Int) - (l1 : Int) + (l2 : Int)) = (l5 : Int) - (l1 : Int) + (l2 : Int) := by
    simp [IntKind.wrap, IntKind.bits, IntKind.signed]
    omega
  have hw3 : ((l5 : Int) - (l1 : Int) + (l2 : Int) == (l6 : Int)) = true := by
    simp
    omega
  clear P1 P2 P3 P4 q1 q2 q5 q6 n1 n2 n3 hl1 hl2 k25 k15
  go_wp2_with fail
  refine HE1.out.mono ?_
  rintro e w6 ⟨rfl, k6⟩
  have HK6 := toHid k6
  clear k6
  go_wp2_with fail
  refine (HE2.out _ HK6.out).mono ?_
  rintro e w7 ⟨rfl, k7⟩
  have HB7 := toHid (below2 (below2 HB5.out HK6.out) k7)
  clear k7
  go_wp2_with fail
  go_ret
  exact ⟨rfl, HB7.out⟩
end Go.Proofs.YtkdadaggolcboaaDoor
