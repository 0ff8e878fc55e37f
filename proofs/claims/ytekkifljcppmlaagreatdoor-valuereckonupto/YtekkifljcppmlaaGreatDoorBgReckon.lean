/-
  What is proved here: what espalierref.ReckonOf answers of two whole numbers.
-/
import Derived.Test.YtekkifljcppmlaaGreatDoorBgKeep
import Derived.Deep.RegionHeld3
import Derived.Deep.DeepFit
import Derived.BigQuiet
import Derived.Deep.DeepCutAuto
import Derived.ChangeArms
namespace Go.Proofs.YtekkifljcppmlaaGreatDoor
open Go.RowKit
set_option linter.unusedVariables false

/-- The three numbers of a reckoning, in whatever order they were made. -/
def ThreeAt (W : World) (a b : Int) (s8 s9 s10 : Value) (wx : World) : Prop :=
  ∃ px py pz, s8 = .pointer (some ⟨px, 0, none⟩) ∧ s9 = .pointer (some ⟨py, 0, none⟩) ∧ s10 = .pointer (some ⟨pz, 0, none⟩) ∧ IntAt wx px a ∧ IntAt wx py b ∧ wx.heap[pz]? = some (.cells #[.bool false, .slice none 0 0] 43 (0, 0)) ∧ px ≠ pz ∧ py ≠ pz ∧ W.heap.size ≤ pz ∧ Below W.heap.size W wx

theorem three_alloc (w : World) (o1 o2 o3 : Obj) : (((w.alloc o1).alloc o2).alloc o3).heap[w.heap.size]? = some o1 ∧ (((w.alloc o1).alloc o2).alloc o3).heap[w.heap.size + 1]? = some o2 ∧ (((w.alloc o1).alloc o2).alloc o3).heap[w.heap.size + 2]? = some o3 := by
  refine ⟨?_, ?_, ?_⟩
  · rw [Below.heap_alloc _ _ _ (by simp; omega), Below.heap_alloc _ _ _ (by simp)]
    exact alloc_new w o1
  · rw [Below.heap_alloc _ _ _ (by simp)]
    exact alloc_two w o1 o2
  · have := alloc_new ((w.alloc o1).alloc o2) o3
    simpa using this

theorem set4_here {w : World} {b : Nat} {t : TypeId} {x0 x1 x2 x3 : Value} (h : w.heap[b]? = some (.cells #[x0, x1, x2, x3] t (0, 0))) (v0 v1 v2 v3 : Value) : ((((w.setCell ⟨b, 0, none⟩ v0).setCell ⟨b, 1, none⟩ v1).setCell ⟨b, 2, none⟩ v2).setCell ⟨b, 3, none⟩ v3).heap[b]? = some (.cells #[v0, v1, v2, v3] t (0, 0)) := by
  simp [World.setCell, Array.getElem?_modify, h]
theorem lt_some {w : World} {b : Nat} {o : Obj} (h : w.heap[b]? = some o) : b < w.heap.size := (Array.getElem?_eq_some_iff.1 h).1

set_option maxHeartbeats 8000000 in
set_option maxRecDepth 100000 in
theorem reckonOf_add (a b : Int) (s1 s2 : ByteArray) (a1 a2 : Option Addr) (l1 c1 l2 c2 : Nat) (w : World) (ha : -9223372036854775808 ≤ a ∧ a ≤ 9223372036854775807) (hb : -9223372036854775808 ≤ b ∧ b ≤ 9223372036854775807) :
    Calls Tryz.prog 6 #[.string ⟨#[43]⟩, .agg #[.int .i64 2, .int .i64 a, .string s1, .slice a1 l1 c1], .agg #[.int .i64 2, .int .i64 b, .string s2, .slice a2 l2 c2]] w fun e w' => ((-9223372036854775808 ≤ a + b ∧ a + b ≤ 9223372036854775807 → e = .returned (.tuple #[.agg #[.int .i64 2, .int .i64 (a + b), .string ⟨#[]⟩, .slice none 0 0], .int .i64 0])) ∧ (¬ (-9223372036854775808 ≤ a + b ∧ a + b ≤ 9223372036854775807) → e = .returned (.tuple #[.agg #[.int .i64 0, .int .i64 0, .string ⟨#[]⟩, .slice none 0 0], .int .i64 4]))) ∧ Below w.heap.size w w' := by
  have HA : Hid (∀ U, Calls Tryz.prog 15 #[.int .i64 a] U fun e w' => e = .returned (.pointer (some ⟨U.heap.size, 0, none⟩)) ∧ IntAt w' U.heap.size a ∧ Below U.heap.size U w') := fun U => newInt_any a U ha
  have HBb : Hid (∀ U, Calls Tryz.prog 15 #[.int .i64 b] U fun e w' => e = .returned (.pointer (some ⟨U.heap.size, 0, none⟩)) ∧ IntAt w' U.heap.size b ∧ Below U.heap.size U w') := fun U => newInt_any b U hb
  have HRA := toHid ha
  have HRB := toHid hb
  clear ha hb
  have b0 : Below w.heap.size w (((w.alloc (.cells #[.int .i64 2, .int .i64 a, .string s1, .slice a1 l1 c1] 24)).alloc (.cells #[.int .i64 2, .int .i64 b, .string s2, .slice a2 l2 c2] 24)).alloc (.cells #[.int .i64 0, .int .i64 0, .string ⟨#[]⟩, .slice none 0 0] 24)) := (((Below.refl _ _).alloc (Nat.le_refl _) _).alloc (by simp) _).alloc (by simp; omega) _
  obtain ⟨q1, q2, q3⟩ := three_alloc w (.cells #[.int .i64 2, .int .i64 a, .string s1, .slice a1 l1 c1] 24) (.cells #[.int .i64 2, .int .i64 b, .string s2, .slice a2 l2 c2] 24) (.cells #[.int .i64 0, .int .i64 0, .string ⟨#[]⟩, .slice none 0 0] 24)
  have z0 : (((w.alloc (.cells #[.int .i64 2, .int .i64 a, .string s1, .slice a1 l1 c1] 24)).alloc (.cells #[.int .i64 2, .int .i64 b, .string s2, .slice a2 l2 c2] 24)).alloc (.cells #[.int .i64 0, .int .i64 0, .string ⟨#[]⟩, .slice none 0 0] 24)).heap.size = w.heap.size + 3 := by simp
  have HB0 := toHid b0
  have HQ1 := toHid q1
  have HQ2 := toHid q2
  have HQ3 := toHid q3
  have HZ0 := toHid z0
  clear b0 q1 q2 q3 z0
  obtain ⟨z, hz⟩ : ∃ z, z = a + b := ⟨_, rfl⟩
  rw [← hz]
  have HZZ := toHid hz
  clear hz
  go_enter Tryz.func6, Tryz.ntmps6
  go_upto_region 6 with fail
  generalize (((w.alloc (.cells #[.int .i64 2, .int .i64 a, .string s1, .slice a1 l1 c1] 24)).alloc (.cells #[.int .i64 2, .int .i64 b, .string s2, .slice a2 l2 c2] 24)).alloc (.cells #[.int .i64 0, .int .i64 0, .string ⟨#[]⟩, .slice none 0 0] 24)) = W at HB0 HQ1 HQ2 HQ3 HZ0 ⊢
  have HS : Hid (∀ W' : World, Below W.heap.size W W' → W'.cell? ⟨w.heap.size, 1, none⟩ = some (.int .i64 a) ∧ W'.cell? ⟨w.heap.size + 1, 1, none⟩ = some (.int .i64 b)) := fun W' kk =>
    ⟨(kk.cell (p := ⟨w.heap.size, 1, none⟩) (by rw [HZ0.out]; show w.heap.size < _; omega)).trans (cell_of HQ1.out 1), (kk.cell (p := ⟨w.heap.size + 1, 1, none⟩) (by rw [HZ0.out]; show w.heap.size + 1 < _; omega)).trans (cell_of HQ2.out 1)⟩
  obtain ⟨x0, x1⟩ := HS.out W (Below.refl _ _)
  have D0 : Below W.heap.size W W.drew := (Below.refl _ _).drew
  go_cut [8, 9, 10] (fun s8 s9 s10 wx => ThreeAt W a b s8 s9 s10 wx)
  case first =>
    go_region_held3 (fun W' => W'.cell? ⟨w.heap.size, 1, none⟩ = some (.int .i64 a) ∧ W'.cell? ⟨w.heap.size + 1, 1, none⟩ = some (.int .i64 b))
      (first
        | with_reducible exact HS.out _ k2
        | with_reducible exact HS.out _ k1
        | with_reducible exact HS.out _ D0
        | with_reducible exact HS.out _ (k2.alloc k2.size _)
        | with_reducible exact HS.out _ (k1.alloc k1.size _)
        | with_reducible exact HS.out _ (D0.alloc (Nat.le_refl _) _)
        | go_keep)
      (first
        | (go_at_call 15; go_fit (HBb.out u1); rintro e u2 ⟨rfl, i2, h2⟩; have k2 : Below W.heap.size W u2 := k1.trans (h2.mono k1.size); have j2 : Below u1.heap.size u1 u2 := h2)
        | (go_at_call 15; go_fit (HBb.out (u1.alloc (.cells #[.bool false, .slice none 0 0] 43))); rintro e u2 ⟨rfl, i2, h2⟩; have k2 : Below W.heap.size W u2 := (k1.alloc k1.size _).trans (h2.mono (Nat.le_trans k1.size (by simp))); have j2 : Below u1.heap.size u1 u2 := ((Below.refl _ _).alloc (Nat.le_refl _) _).trans (h2.mono (by simp)); have hp : u2.heap[u1.heap.size]? = some (.cells #[.bool false, .slice none 0 0] 43 (0, 0)) := (h2.block u1.heap.size (by simp)).trans (alloc_new u1 (.cells #[.bool false, .slice none 0 0] 43)))
        | (go_at_call 15; go_fit (HA.out W.drew); rintro e u1 ⟨rfl, i1, h1⟩; have k1 : Below W.heap.size W u1 := D0.trans h1)
        | (go_at_call 15; go_fit (HA.out (W.drew.alloc (.cells #[.bool false, .slice none 0 0] 43))); rintro e u1 ⟨rfl, i1, h1⟩; have k1 : Below W.heap.size W u1 := (D0.alloc (Nat.le_refl _) _).trans (h1.mono (by simp)); have hq : u1.heap[W.heap.size]? = some (.cells #[.bool false, .slice none 0 0] 43 (0, 0)) := (h1.block W.heap.size (by simp)).trans (alloc_new W.drew (.cells #[.bool false, .slice none 0 0] 43))))
    all_goals
      go_wp2_with fail
      go_meet
      have t1 := h1.size
      have t2 := h2.size
      have r1 := i1.lt
      have r2 := i2.lt
      try simp at t1
      try simp at t2
    · have kA : Below u2.heap.size u2 (u2.alloc (.cells #[.bool false, .slice none 0 0] 43)) := (Below.refl _ _).alloc (Nat.le_refl _) _
      exact ⟨_, _, u2.heap.size, rfl, rfl, rfl, (i1.below j2).below kA, i2.below kA, alloc_new u2 (.cells #[.bool false, .slice none 0 0] 43), by simp at r1 ⊢; omega, by simp at r2 ⊢; omega, k2.size, k2.alloc k2.size _⟩
    · have e : (u1.alloc (.cells #[.bool false, .slice none 0 0] 43)).heap.size = u1.heap.size + 1 := by simp
      rw [e] at i2
      exact ⟨_, _, u1.heap.size, rfl, rfl, rfl, i1.below j2, i2, hp, by simp at r1 ⊢; omega, by omega, k1.size, k2⟩
    · have e : (W.drew.alloc (.cells #[.bool false, .slice none 0 0] 43)).heap.size = W.heap.size + 1 := by simp
      rw [e] at i1
      exact ⟨_, _, W.heap.size, rfl, rfl, rfl, i1.below j2, i2, (j2.block W.heap.size (lt_some hq)).trans hq, by omega, by have := lt_some hq; omega, Nat.le_refl _, k2⟩
  case rest =>
    obtain ⟨px, py, pz, rfl, rfl, rfl, ix, iy, hzb, hxz, hyz, hpz, kx⟩ := hcut
    have HADD := toHid (add_int pz px py false (.slice none 0 0) a b wc hzb (fun x h => by cases h) ix iy HRA.out HRB.out hxz hyz)
    have HRR := toHid ((kx.block (w.heap.size + 2) (by rw [HZ0.out]; omega)).trans HQ3.out)
    have HKX := toHid (HB0.out.trans (kx.mono HB0.out.size))
    have spz : w.heap.size + 3 ≤ pz := by rw [HZ0.out] at hpz; exact hpz
    have swc : w.heap.size + 3 ≤ wc.heap.size := by have := kx.size; rw [HZ0.out] at this; exact this
    clear ix iy hzb hxz hyz hpz kx x0 x1 D0 HS HA HBb
    rw [← HZZ.out] at HADD
    go_wp2_with fail
    refine HADD.out.mono ?_
    rintro e w1 ⟨rfl, iz, k1⟩
    have HIZ := toHid iz
    have HR1 := toHid ((k1.block (w.heap.size + 2) (by omega)).trans HRR.out)
    have HK1 := toHid (HKX.out.trans (k1.mono (by omega)))
    have HIS := toHid (isInt64_any pz z w1 iz)
    clear iz k1 HADD
    go_wp2_with fail
    refine HIS.out.mono ?_
    rintro e w2 ⟨rfl, k2⟩
    have s1 : w.heap.size + 2 < w1.heap.size := (Array.getElem?_eq_some_iff.1 HR1.out).1
    have hr2 := (k2.block (w.heap.size + 2) s1).trans HR1.out
    have HK2 := toHid (HK1.out.trans (k2.mono HK1.out.size))
    have HIZ2 := toHid (HIZ.out.below k2)
    have HR2 := toHid hr2
    have r0 := cell_of hr2 0
    have r1 := cell_of hr2 1
    have r2 := cell_of hr2 2
    have r3 := cell_of hr2 3
    have f0 := free_of hr2 0
    have f1 := free_of hr2 1
    have f2 := free_of hr2 2
    have f3 := free_of hr2 3
    simp at r0 r1 r2 r3
    have s2 : w.heap.size + 2 < w2.heap.size := (Array.getElem?_eq_some_iff.1 hr2).1
    clear hr2 k2 HIS
    by_cases hin : -9223372036854775808 ≤ z ∧ z ≤ 9223372036854775807
    · have hd : decide (-9223372036854775808 ≤ z ∧ z ≤ 9223372036854775807) = true := by simp [hin]
      have HIN := toHid hin
      have HI64 := toHid (int64_any pz z w2 HIZ2.out hin)
      clear hin
      generalize decide (-9223372036854775808 ≤ z ∧ z ≤ 9223372036854775807) = dd at hd ⊢
      subst hd
      go_wp2_with fail
      refine HI64.out.mono ?_
      rintro e w3 ⟨rfl, rfl⟩
      go_wp2_with fail
      have E := set4_here (b := w.heap.size + 1 + 1) HR2.out (.int .i64 2) (.int .i64 z) (.string ⟨#[]⟩) (.slice none 0 0)
      have hbb : Below w.heap.size w ((((w3.setCell ⟨w.heap.size + 1 + 1, 0, none⟩ (.int .i64 2)).setCell ⟨w.heap.size + 1 + 1, 1, none⟩ (.int .i64 z)).setCell ⟨w.heap.size + 1 + 1, 2, none⟩ (.string ⟨#[]⟩)).setCell ⟨w.heap.size + 1 + 1, 3, none⟩ (.slice none 0 0)) := (((HK2.out.setCell (p := ⟨w.heap.size + 1 + 1, 0, none⟩) (by show w.heap.size ≤ w.heap.size + 1 + 1; omega) _).setCell (p := ⟨w.heap.size + 1 + 1, 1, none⟩) (by show w.heap.size ≤ w.heap.size + 1 + 1; omega) _).setCell (p := ⟨w.heap.size + 1 + 1, 2, none⟩) (by show w.heap.size ≤ w.heap.size + 1 + 1; omega) _).setCell (p := ⟨w.heap.size + 1 + 1, 3, none⟩) (by show w.heap.size ≤ w.heap.size + 1 + 1; omega) _
      generalize ((((w3.setCell ⟨w.heap.size + 1 + 1, 0, none⟩ (.int .i64 2)).setCell ⟨w.heap.size + 1 + 1, 1, none⟩ (.int .i64 z)).setCell ⟨w.heap.size + 1 + 1, 2, none⟩ (.string ⟨#[]⟩)).setCell ⟨w.heap.size + 1 + 1, 3, none⟩ (.slice none 0 0)) = Y at E hbb ⊢
      have t0 := cell_of E 0
      have t1 := cell_of E 1
      have t2 := cell_of E 2
      have t3 := cell_of E 3
      simp at t0 t1 t2 t3
      exact bodyPost_ret (v := .tuple #[.agg #[.int .i64 2, .int .i64 z, .string ⟨#[]⟩, .slice none 0 0], .int .i64 0]) (by simp [results, Tryz.results6, go_sem, t0, t1, t2, t3]) rfl ⟨⟨fun _ => rfl, fun h => absurd HIN.out h⟩, hbb⟩
    · have hd : decide (-9223372036854775808 ≤ z ∧ z ≤ 9223372036854775807) = false := by simp only [decide_eq_false_iff_not]; exact hin
      have HIN := toHid hin
      clear hin
      generalize decide (-9223372036854775808 ≤ z ∧ z ≤ 9223372036854775807) = dd at hd ⊢
      subst hd
      go_wp2_with fail
      have E := set4_here (b := w.heap.size + 1 + 1) HR2.out (.int .i64 0) (.int .i64 0) (.string ⟨#[]⟩) (.slice none 0 0)
      have hbb : Below w.heap.size w ((((w2.setCell ⟨w.heap.size + 1 + 1, 0, none⟩ (.int .i64 0)).setCell ⟨w.heap.size + 1 + 1, 1, none⟩ (.int .i64 0)).setCell ⟨w.heap.size + 1 + 1, 2, none⟩ (.string ⟨#[]⟩)).setCell ⟨w.heap.size + 1 + 1, 3, none⟩ (.slice none 0 0)) := (((HK2.out.setCell (p := ⟨w.heap.size + 1 + 1, 0, none⟩) (by show w.heap.size ≤ w.heap.size + 1 + 1; omega) _).setCell (p := ⟨w.heap.size + 1 + 1, 1, none⟩) (by show w.heap.size ≤ w.heap.size + 1 + 1; omega) _).setCell (p := ⟨w.heap.size + 1 + 1, 2, none⟩) (by show w.heap.size ≤ w.heap.size + 1 + 1; omega) _).setCell (p := ⟨w.heap.size + 1 + 1, 3, none⟩) (by show w.heap.size ≤ w.heap.size + 1 + 1; omega) _
      generalize ((((w2.setCell ⟨w.heap.size + 1 + 1, 0, none⟩ (.int .i64 0)).setCell ⟨w.heap.size + 1 + 1, 1, none⟩ (.int .i64 0)).setCell ⟨w.heap.size + 1 + 1, 2, none⟩ (.string ⟨#[]⟩)).setCell ⟨w.heap.size + 1 + 1, 3, none⟩ (.slice none 0 0)) = Y at E hbb ⊢
      have t0 := cell_of E 0
      have t1 := cell_of E 1
      have t2 := cell_of E 2
      have t3 := cell_of E 3
      simp at t0 t1 t2 t3
      exact bodyPost_ret (v := .tuple #[.agg #[.int .i64 0, .int .i64 0, .string ⟨#[]⟩, .slice none 0 0], .int .i64 4]) (by simp [results, Tryz.results6, go_sem, t0, t1, t2, t3]) rfl ⟨⟨fun h => absurd h HIN.out, fun _ => rfl⟩, hbb⟩

set_option maxHeartbeats 8000000 in
set_option maxRecDepth 100000 in
theorem reckonOf_sub (a b : Int) (s1 s2 : ByteArray) (a1 a2 : Option Addr) (l1 c1 l2 c2 : Nat) (w : World) (ha : -9223372036854775808 ≤ a ∧ a ≤ 9223372036854775807) (hb : -9223372036854775808 ≤ b ∧ b ≤ 9223372036854775807) :
    Calls Tryz.prog 6 #[.string ⟨#[45]⟩, .agg #[.int .i64 2, .int .i64 a, .string s1, .slice a1 l1 c1], .agg #[.int .i64 2, .int .i64 b, .string s2, .slice a2 l2 c2]] w fun e w' => ((-9223372036854775808 ≤ a - b ∧ a - b ≤ 9223372036854775807 → e = .returned (.tuple #[.agg #[.int .i64 2, .int .i64 (a - b), .string ⟨#[]⟩, .slice none 0 0], .int .i64 0])) ∧ (¬ (-9223372036854775808 ≤ a - b ∧ a - b ≤ 9223372036854775807) → e = .returned (.tuple #[.agg #[.int .i64 0, .int .i64 0, .string ⟨#[]⟩, .slice none 0 0], .int .i64 4]))) ∧ Below w.heap.size w w' := by
  have HA : Hid (∀ U, Calls Tryz.prog 15 #[.int .i64 a] U fun e w' => e = .returned (.pointer (some ⟨U.heap.size, 0, none⟩)) ∧ IntAt w' U.heap.size a ∧ Below U.heap.size U w') := fun U => newInt_any a U ha
  have HBb : Hid (∀ U, Calls Tryz.prog 15 #[.int .i64 b] U fun e w' => e = .returned (.pointer (some ⟨U.heap.size, 0, none⟩)) ∧ IntAt w' U.heap.size b ∧ Below U.heap.size U w') := fun U => newInt_any b U hb
  have HRA := toHid ha
  have HRB := toHid hb
  clear ha hb
  have b0 : Below w.heap.size w (((w.alloc (.cells #[.int .i64 2, .int .i64 a, .string s1, .slice a1 l1 c1] 24)).alloc (.cells #[.int .i64 2, .int .i64 b, .string s2, .slice a2 l2 c2] 24)).alloc (.cells #[.int .i64 0, .int .i64 0, .string ⟨#[]⟩, .slice none 0 0] 24)) := (((Below.refl _ _).alloc (Nat.le_refl _) _).alloc (by simp) _).alloc (by simp; omega) _
  obtain ⟨q1, q2, q3⟩ := three_alloc w (.cells #[.int .i64 2, .int .i64 a, .string s1, .slice a1 l1 c1] 24) (.cells #[.int .i64 2, .int .i64 b, .string s2, .slice a2 l2 c2] 24) (.cells #[.int .i64 0, .int .i64 0, .string ⟨#[]⟩, .slice none 0 0] 24)
  have z0 : (((w.alloc (.cells #[.int .i64 2, .int .i64 a, .string s1, .slice a1 l1 c1] 24)).alloc (.cells #[.int .i64 2, .int .i64 b, .string s2, .slice a2 l2 c2] 24)).alloc (.cells #[.int .i64 0, .int .i64 0, .string ⟨#[]⟩, .slice none 0 0] 24)).heap.size = w.heap.size + 3 := by simp
  have HB0 := toHid b0
  have HQ1 := toHid q1
  have HQ2 := toHid q2
  have HQ3 := toHid q3
  have HZ0 := toHid z0
  clear b0 q1 q2 q3 z0
  obtain ⟨z, hz⟩ : ∃ z, z = a - b := ⟨_, rfl⟩
  rw [← hz]
  have HZZ := toHid hz
  clear hz
  go_enter Tryz.func6, Tryz.ntmps6
  go_upto_region 6 with fail
  generalize (((w.alloc (.cells #[.int .i64 2, .int .i64 a, .string s1, .slice a1 l1 c1] 24)).alloc (.cells #[.int .i64 2, .int .i64 b, .string s2, .slice a2 l2 c2] 24)).alloc (.cells #[.int .i64 0, .int .i64 0, .string ⟨#[]⟩, .slice none 0 0] 24)) = W at HB0 HQ1 HQ2 HQ3 HZ0 ⊢
  have HS : Hid (∀ W' : World, Below W.heap.size W W' → W'.cell? ⟨w.heap.size, 1, none⟩ = some (.int .i64 a) ∧ W'.cell? ⟨w.heap.size + 1, 1, none⟩ = some (.int .i64 b)) := fun W' kk =>
    ⟨(kk.cell (p := ⟨w.heap.size, 1, none⟩) (by rw [HZ0.out]; show w.heap.size < _; omega)).trans (cell_of HQ1.out 1), (kk.cell (p := ⟨w.heap.size + 1, 1, none⟩) (by rw [HZ0.out]; show w.heap.size + 1 < _; omega)).trans (cell_of HQ2.out 1)⟩
  obtain ⟨x0, x1⟩ := HS.out W (Below.refl _ _)
  have D0 : Below W.heap.size W W.drew := (Below.refl _ _).drew
  go_cut [8, 9, 10] (fun s8 s9 s10 wx => ThreeAt W a b s8 s9 s10 wx)
  case first =>
    go_region_held3 (fun W' => W'.cell? ⟨w.heap.size, 1, none⟩ = some (.int .i64 a) ∧ W'.cell? ⟨w.heap.size + 1, 1, none⟩ = some (.int .i64 b))
      (first
        | with_reducible exact HS.out _ k2
        | with_reducible exact HS.out _ k1
        | with_reducible exact HS.out _ D0
        | with_reducible exact HS.out _ (k2.alloc k2.size _)
        | with_reducible exact HS.out _ (k1.alloc k1.size _)
        | with_reducible exact HS.out _ (D0.alloc (Nat.le_refl _) _)
        | go_keep)
      (first
        | (go_at_call 15; go_fit (HBb.out u1); rintro e u2 ⟨rfl, i2, h2⟩; have k2 : Below W.heap.size W u2 := k1.trans (h2.mono k1.size); have j2 : Below u1.heap.size u1 u2 := h2)
        | (go_at_call 15; go_fit (HBb.out (u1.alloc (.cells #[.bool false, .slice none 0 0] 43))); rintro e u2 ⟨rfl, i2, h2⟩; have k2 : Below W.heap.size W u2 := (k1.alloc k1.size _).trans (h2.mono (Nat.le_trans k1.size (by simp))); have j2 : Below u1.heap.size u1 u2 := ((Below.refl _ _).alloc (Nat.le_refl _) _).trans (h2.mono (by simp)); have hp : u2.heap[u1.heap.size]? = some (.cells #[.bool false, .slice none 0 0] 43 (0, 0)) := (h2.block u1.heap.size (by simp)).trans (alloc_new u1 (.cells #[.bool false, .slice none 0 0] 43)))
        | (go_at_call 15; go_fit (HA.out W.drew); rintro e u1 ⟨rfl, i1, h1⟩; have k1 : Below W.heap.size W u1 := D0.trans h1)
        | (go_at_call 15; go_fit (HA.out (W.drew.alloc (.cells #[.bool false, .slice none 0 0] 43))); rintro e u1 ⟨rfl, i1, h1⟩; have k1 : Below W.heap.size W u1 := (D0.alloc (Nat.le_refl _) _).trans (h1.mono (by simp)); have hq : u1.heap[W.heap.size]? = some (.cells #[.bool false, .slice none 0 0] 43 (0, 0)) := (h1.block W.heap.size (by simp)).trans (alloc_new W.drew (.cells #[.bool false, .slice none 0 0] 43))))
    all_goals
      go_wp2_with fail
      go_meet
      have t1 := h1.size
      have t2 := h2.size
      have r1 := i1.lt
      have r2 := i2.lt
      try simp at t1
      try simp at t2
    · have kA : Below u2.heap.size u2 (u2.alloc (.cells #[.bool false, .slice none 0 0] 43)) := (Below.refl _ _).alloc (Nat.le_refl _) _
      exact ⟨_, _, u2.heap.size, rfl, rfl, rfl, (i1.below j2).below kA, i2.below kA, alloc_new u2 (.cells #[.bool false, .slice none 0 0] 43), by simp at r1 ⊢; omega, by simp at r2 ⊢; omega, k2.size, k2.alloc k2.size _⟩
    · have e : (u1.alloc (.cells #[.bool false, .slice none 0 0] 43)).heap.size = u1.heap.size + 1 := by simp
      rw [e] at i2
      exact ⟨_, _, u1.heap.size, rfl, rfl, rfl, i1.below j2, i2, hp, by simp at r1 ⊢; omega, by omega, k1.size, k2⟩
    · have e : (W.drew.alloc (.cells #[.bool false, .slice none 0 0] 43)).heap.size = W.heap.size + 1 := by simp
      rw [e] at i1
      exact ⟨_, _, W.heap.size, rfl, rfl, rfl, i1.below j2, i2, (j2.block W.heap.size (lt_some hq)).trans hq, by omega, by have := lt_some hq; omega, Nat.le_refl _, k2⟩
  case rest =>
    obtain ⟨px, py, pz, rfl, rfl, rfl, ix, iy, hzb, hxz, hyz, hpz, kx⟩ := hcut
    have HADD := toHid (sub_int pz px py false (.slice none 0 0) a b wc hzb (fun x h => by cases h) ix iy HRA.out HRB.out hxz hyz)
    have HRR := toHid ((kx.block (w.heap.size + 2) (by rw [HZ0.out]; omega)).trans HQ3.out)
    have HKX := toHid (HB0.out.trans (kx.mono HB0.out.size))
    have spz : w.heap.size + 3 ≤ pz := by rw [HZ0.out] at hpz; exact hpz
    have swc : w.heap.size + 3 ≤ wc.heap.size := by have := kx.size; rw [HZ0.out] at this; exact this
    clear ix iy hzb hxz hyz hpz kx x0 x1 D0 HS HA HBb
    rw [← HZZ.out] at HADD
    go_wp2_with fail
    refine HADD.out.mono ?_
    rintro e w1 ⟨rfl, iz, k1⟩
    have HIZ := toHid iz
    have HR1 := toHid ((k1.block (w.heap.size + 2) (by omega)).trans HRR.out)
    have HK1 := toHid (HKX.out.trans (k1.mono (by omega)))
    have HIS := toHid (isInt64_any pz z w1 iz)
    clear iz k1 HADD
    go_wp2_with fail
    refine HIS.out.mono ?_
    rintro e w2 ⟨rfl, k2⟩
    have s1 : w.heap.size + 2 < w1.heap.size := (Array.getElem?_eq_some_iff.1 HR1.out).1
    have hr2 := (k2.block (w.heap.size + 2) s1).trans HR1.out
    have HK2 := toHid (HK1.out.trans (k2.mono HK1.out.size))
    have HIZ2 := toHid (HIZ.out.below k2)
    have HR2 := toHid hr2
    have r0 := cell_of hr2 0
    have r1 := cell_of hr2 1
    have r2 := cell_of hr2 2
    have r3 := cell_of hr2 3
    have f0 := free_of hr2 0
    have f1 := free_of hr2 1
    have f2 := free_of hr2 2
    have f3 := free_of hr2 3
    simp at r0 r1 r2 r3
    have s2 : w.heap.size + 2 < w2.heap.size := (Array.getElem?_eq_some_iff.1 hr2).1
    clear hr2 k2 HIS
    by_cases hin : -9223372036854775808 ≤ z ∧ z ≤ 9223372036854775807
    · have hd : decide (-9223372036854775808 ≤ z ∧ z ≤ 9223372036854775807) = true := by simp [hin]
      have HIN := toHid hin
      have HI64 := toHid (int64_any pz z w2 HIZ2.out hin)
      clear hin
      generalize decide (-9223372036854775808 ≤ z ∧ z ≤ 9223372036854775807) = dd at hd ⊢
      subst hd
      go_wp2_with fail
      refine HI64.out.mono ?_
      rintro e w3 ⟨rfl, rfl⟩
      go_wp2_with fail
      have E := set4_here (b := w.heap.size + 1 + 1) HR2.out (.int .i64 2) (.int .i64 z) (.string ⟨#[]⟩) (.slice none 0 0)
      have hbb : Below w.heap.size w ((((w3.setCell ⟨w.heap.size + 1 + 1, 0, none⟩ (.int .i64 2)).setCell ⟨w.heap.size + 1 + 1, 1, none⟩ (.int .i64 z)).setCell ⟨w.heap.size + 1 + 1, 2, none⟩ (.string ⟨#[]⟩)).setCell ⟨w.heap.size + 1 + 1, 3, none⟩ (.slice none 0 0)) := (((HK2.out.setCell (p := ⟨w.heap.size + 1 + 1, 0, none⟩) (by show w.heap.size ≤ w.heap.size + 1 + 1; omega) _).setCell (p := ⟨w.heap.size + 1 + 1, 1, none⟩) (by show w.heap.size ≤ w.heap.size + 1 + 1; omega) _).setCell (p := ⟨w.heap.size + 1 + 1, 2, none⟩) (by show w.heap.size ≤ w.heap.size + 1 + 1; omega) _).setCell (p := ⟨w.heap.size + 1 + 1, 3, none⟩) (by show w.heap.size ≤ w.heap.size + 1 + 1; omega) _
      generalize ((((w3.setCell ⟨w.heap.size + 1 + 1, 0, none⟩ (.int .i64 2)).setCell ⟨w.heap.size + 1 + 1, 1, none⟩ (.int .i64 z)).setCell ⟨w.heap.size + 1 + 1, 2, none⟩ (.string ⟨#[]⟩)).setCell ⟨w.heap.size + 1 + 1, 3, none⟩ (.slice none 0 0)) = Y at E hbb ⊢
      have t0 := cell_of E 0
      have t1 := cell_of E 1
      have t2 := cell_of E 2
      have t3 := cell_of E 3
      simp at t0 t1 t2 t3
      exact bodyPost_ret (v := .tuple #[.agg #[.int .i64 2, .int .i64 z, .string ⟨#[]⟩, .slice none 0 0], .int .i64 0]) (by simp [results, Tryz.results6, go_sem, t0, t1, t2, t3]) rfl ⟨⟨fun _ => rfl, fun h => absurd HIN.out h⟩, hbb⟩
    · have hd : decide (-9223372036854775808 ≤ z ∧ z ≤ 9223372036854775807) = false := by simp only [decide_eq_false_iff_not]; exact hin
      have HIN := toHid hin
      clear hin
      generalize decide (-9223372036854775808 ≤ z ∧ z ≤ 9223372036854775807) = dd at hd ⊢
      subst hd
      go_wp2_with fail
      have E := set4_here (b := w.heap.size + 1 + 1) HR2.out (.int .i64 0) (.int .i64 0) (.string ⟨#[]⟩) (.slice none 0 0)
      have hbb : Below w.heap.size w ((((w2.setCell ⟨w.heap.size + 1 + 1, 0, none⟩ (.int .i64 0)).setCell ⟨w.heap.size + 1 + 1, 1, none⟩ (.int .i64 0)).setCell ⟨w.heap.size + 1 + 1, 2, none⟩ (.string ⟨#[]⟩)).setCell ⟨w.heap.size + 1 + 1, 3, none⟩ (.slice none 0 0)) := (((HK2.out.setCell (p := ⟨w.heap.size + 1 + 1, 0, none⟩) (by show w.heap.size ≤ w.heap.size + 1 + 1; omega) _).setCell (p := ⟨w.heap.size + 1 + 1, 1, none⟩) (by show w.heap.size ≤ w.heap.size + 1 + 1; omega) _).setCell (p := ⟨w.heap.size + 1 + 1, 2, none⟩) (by show w.heap.size ≤ w.heap.size + 1 + 1; omega) _).setCell (p := ⟨w.heap.size + 1 + 1, 3, none⟩) (by show w.heap.size ≤ w.heap.size + 1 + 1; omega) _
      generalize ((((w2.setCell ⟨w.heap.size + 1 + 1, 0, none⟩ (.int .i64 0)).setCell ⟨w.heap.size + 1 + 1, 1, none⟩ (.int .i64 0)).setCell ⟨w.heap.size + 1 + 1, 2, none⟩ (.string ⟨#[]⟩)).setCell ⟨w.heap.size + 1 + 1, 3, none⟩ (.slice none 0 0)) = Y at E hbb ⊢
      have t0 := cell_of E 0
      have t1 := cell_of E 1
      have t2 := cell_of E 2
      have t3 := cell_of E 3
      simp at t0 t1 t2 t3
      exact bodyPost_ret (v := .tuple #[.agg #[.int .i64 0, .int .i64 0, .string ⟨#[]⟩, .slice none 0 0], .int .i64 4]) (by simp [results, Tryz.results6, go_sem, t0, t1, t2, t3]) rfl ⟨⟨fun h => absurd h HIN.out, fun _ => rfl⟩, hbb⟩

set_option maxHeartbeats 8000000 in
set_option maxRecDepth 100000 in
theorem reckonOf_mul (a b : Int) (s1 s2 : ByteArray) (a1 a2 : Option Addr) (l1 c1 l2 c2 : Nat) (w : World) (ha : -9223372036854775808 ≤ a ∧ a ≤ 9223372036854775807) (hb : -9223372036854775808 ≤ b ∧ b ≤ 9223372036854775807) :
    Calls Tryz.prog 6 #[.string ⟨#[42]⟩, .agg #[.int .i64 2, .int .i64 a, .string s1, .slice a1 l1 c1], .agg #[.int .i64 2, .int .i64 b, .string s2, .slice a2 l2 c2]] w fun e w' => ((-9223372036854775808 ≤ a * b ∧ a * b ≤ 9223372036854775807 → e = .returned (.tuple #[.agg #[.int .i64 2, .int .i64 (a * b), .string ⟨#[]⟩, .slice none 0 0], .int .i64 0])) ∧ (¬ (-9223372036854775808 ≤ a * b ∧ a * b ≤ 9223372036854775807) → e = .returned (.tuple #[.agg #[.int .i64 0, .int .i64 0, .string ⟨#[]⟩, .slice none 0 0], .int .i64 4]))) ∧ Below w.heap.size w w' := by
  have HA : Hid (∀ U, Calls Tryz.prog 15 #[.int .i64 a] U fun e w' => e = .returned (.pointer (some ⟨U.heap.size, 0, none⟩)) ∧ IntAt w' U.heap.size a ∧ Below U.heap.size U w') := fun U => newInt_any a U ha
  have HBb : Hid (∀ U, Calls Tryz.prog 15 #[.int .i64 b] U fun e w' => e = .returned (.pointer (some ⟨U.heap.size, 0, none⟩)) ∧ IntAt w' U.heap.size b ∧ Below U.heap.size U w') := fun U => newInt_any b U hb
  have HRA := toHid ha
  have HRB := toHid hb
  clear ha hb
  have b0 : Below w.heap.size w (((w.alloc (.cells #[.int .i64 2, .int .i64 a, .string s1, .slice a1 l1 c1] 24)).alloc (.cells #[.int .i64 2, .int .i64 b, .string s2, .slice a2 l2 c2] 24)).alloc (.cells #[.int .i64 0, .int .i64 0, .string ⟨#[]⟩, .slice none 0 0] 24)) := (((Below.refl _ _).alloc (Nat.le_refl _) _).alloc (by simp) _).alloc (by simp; omega) _
  obtain ⟨q1, q2, q3⟩ := three_alloc w (.cells #[.int .i64 2, .int .i64 a, .string s1, .slice a1 l1 c1] 24) (.cells #[.int .i64 2, .int .i64 b, .string s2, .slice a2 l2 c2] 24) (.cells #[.int .i64 0, .int .i64 0, .string ⟨#[]⟩, .slice none 0 0] 24)
  have z0 : (((w.alloc (.cells #[.int .i64 2, .int .i64 a, .string s1, .slice a1 l1 c1] 24)).alloc (.cells #[.int .i64 2, .int .i64 b, .string s2, .slice a2 l2 c2] 24)).alloc (.cells #[.int .i64 0, .int .i64 0, .string ⟨#[]⟩, .slice none 0 0] 24)).heap.size = w.heap.size + 3 := by simp
  have HB0 := toHid b0
  have HQ1 := toHid q1
  have HQ2 := toHid q2
  have HQ3 := toHid q3
  have HZ0 := toHid z0
  clear b0 q1 q2 q3 z0
  obtain ⟨z, hz⟩ : ∃ z, z = a * b := ⟨_, rfl⟩
  rw [← hz]
  have HZZ := toHid hz
  clear hz
  go_enter Tryz.func6, Tryz.ntmps6
  go_upto_region 6 with fail
  generalize (((w.alloc (.cells #[.int .i64 2, .int .i64 a, .string s1, .slice a1 l1 c1] 24)).alloc (.cells #[.int .i64 2, .int .i64 b, .string s2, .slice a2 l2 c2] 24)).alloc (.cells #[.int .i64 0, .int .i64 0, .string ⟨#[]⟩, .slice none 0 0] 24)) = W at HB0 HQ1 HQ2 HQ3 HZ0 ⊢
  have HS : Hid (∀ W' : World, Below W.heap.size W W' → W'.cell? ⟨w.heap.size, 1, none⟩ = some (.int .i64 a) ∧ W'.cell? ⟨w.heap.size + 1, 1, none⟩ = some (.int .i64 b)) := fun W' kk =>
    ⟨(kk.cell (p := ⟨w.heap.size, 1, none⟩) (by rw [HZ0.out]; show w.heap.size < _; omega)).trans (cell_of HQ1.out 1), (kk.cell (p := ⟨w.heap.size + 1, 1, none⟩) (by rw [HZ0.out]; show w.heap.size + 1 < _; omega)).trans (cell_of HQ2.out 1)⟩
  obtain ⟨x0, x1⟩ := HS.out W (Below.refl _ _)
  have D0 : Below W.heap.size W W.drew := (Below.refl _ _).drew
  go_cut [8, 9, 10] (fun s8 s9 s10 wx => ThreeAt W a b s8 s9 s10 wx)
  case first =>
    go_region_held3 (fun W' => W'.cell? ⟨w.heap.size, 1, none⟩ = some (.int .i64 a) ∧ W'.cell? ⟨w.heap.size + 1, 1, none⟩ = some (.int .i64 b))
      (first
        | with_reducible exact HS.out _ k2
        | with_reducible exact HS.out _ k1
        | with_reducible exact HS.out _ D0
        | with_reducible exact HS.out _ (k2.alloc k2.size _)
        | with_reducible exact HS.out _ (k1.alloc k1.size _)
        | with_reducible exact HS.out _ (D0.alloc (Nat.le_refl _) _)
        | go_keep)
      (first
        | (go_at_call 15; go_fit (HBb.out u1); rintro e u2 ⟨rfl, i2, h2⟩; have k2 : Below W.heap.size W u2 := k1.trans (h2.mono k1.size); have j2 : Below u1.heap.size u1 u2 := h2)
        | (go_at_call 15; go_fit (HBb.out (u1.alloc (.cells #[.bool false, .slice none 0 0] 43))); rintro e u2 ⟨rfl, i2, h2⟩; have k2 : Below W.heap.size W u2 := (k1.alloc k1.size _).trans (h2.mono (Nat.le_trans k1.size (by simp))); have j2 : Below u1.heap.size u1 u2 := ((Below.refl _ _).alloc (Nat.le_refl _) _).trans (h2.mono (by simp)); have hp : u2.heap[u1.heap.size]? = some (.cells #[.bool false, .slice none 0 0] 43 (0, 0)) := (h2.block u1.heap.size (by simp)).trans (alloc_new u1 (.cells #[.bool false, .slice none 0 0] 43)))
        | (go_at_call 15; go_fit (HA.out W.drew); rintro e u1 ⟨rfl, i1, h1⟩; have k1 : Below W.heap.size W u1 := D0.trans h1)
        | (go_at_call 15; go_fit (HA.out (W.drew.alloc (.cells #[.bool false, .slice none 0 0] 43))); rintro e u1 ⟨rfl, i1, h1⟩; have k1 : Below W.heap.size W u1 := (D0.alloc (Nat.le_refl _) _).trans (h1.mono (by simp)); have hq : u1.heap[W.heap.size]? = some (.cells #[.bool false, .slice none 0 0] 43 (0, 0)) := (h1.block W.heap.size (by simp)).trans (alloc_new W.drew (.cells #[.bool false, .slice none 0 0] 43))))
    all_goals
      go_wp2_with fail
      go_meet
      have t1 := h1.size
      have t2 := h2.size
      have r1 := i1.lt
      have r2 := i2.lt
      try simp at t1
      try simp at t2
    · have kA : Below u2.heap.size u2 (u2.alloc (.cells #[.bool false, .slice none 0 0] 43)) := (Below.refl _ _).alloc (Nat.le_refl _) _
      exact ⟨_, _, u2.heap.size, rfl, rfl, rfl, (i1.below j2).below kA, i2.below kA, alloc_new u2 (.cells #[.bool false, .slice none 0 0] 43), by simp at r1 ⊢; omega, by simp at r2 ⊢; omega, k2.size, k2.alloc k2.size _⟩
    · have e : (u1.alloc (.cells #[.bool false, .slice none 0 0] 43)).heap.size = u1.heap.size + 1 := by simp
      rw [e] at i2
      exact ⟨_, _, u1.heap.size, rfl, rfl, rfl, i1.below j2, i2, hp, by simp at r1 ⊢; omega, by omega, k1.size, k2⟩
    · have e : (W.drew.alloc (.cells #[.bool false, .slice none 0 0] 43)).heap.size = W.heap.size + 1 := by simp
      rw [e] at i1
      exact ⟨_, _, W.heap.size, rfl, rfl, rfl, i1.below j2, i2, (j2.block W.heap.size (lt_some hq)).trans hq, by omega, by have := lt_some hq; omega, Nat.le_refl _, k2⟩
  case rest =>
    obtain ⟨px, py, pz, rfl, rfl, rfl, ix, iy, hzb, hxz, hyz, hpz, kx⟩ := hcut
    have HADD := toHid (mul_int pz px py false (.slice none 0 0) a b wc hzb (fun x h => by cases h) ix iy HRA.out HRB.out hxz hyz)
    have HRR := toHid ((kx.block (w.heap.size + 2) (by rw [HZ0.out]; omega)).trans HQ3.out)
    have HKX := toHid (HB0.out.trans (kx.mono HB0.out.size))
    have spz : w.heap.size + 3 ≤ pz := by rw [HZ0.out] at hpz; exact hpz
    have swc : w.heap.size + 3 ≤ wc.heap.size := by have := kx.size; rw [HZ0.out] at this; exact this
    clear ix iy hzb hxz hyz hpz kx x0 x1 D0 HS HA HBb
    rw [← HZZ.out] at HADD
    go_wp2_with fail
    refine HADD.out.mono ?_
    rintro e w1 ⟨rfl, iz, k1⟩
    have HIZ := toHid iz
    have HR1 := toHid ((k1.block (w.heap.size + 2) (by omega)).trans HRR.out)
    have HK1 := toHid (HKX.out.trans (k1.mono (by omega)))
    have HIS := toHid (isInt64_any pz z w1 iz)
    clear iz k1 HADD
    go_wp2_with fail
    refine HIS.out.mono ?_
    rintro e w2 ⟨rfl, k2⟩
    have s1 : w.heap.size + 2 < w1.heap.size := (Array.getElem?_eq_some_iff.1 HR1.out).1
    have hr2 := (k2.block (w.heap.size + 2) s1).trans HR1.out
    have HK2 := toHid (HK1.out.trans (k2.mono HK1.out.size))
    have HIZ2 := toHid (HIZ.out.below k2)
    have HR2 := toHid hr2
    have r0 := cell_of hr2 0
    have r1 := cell_of hr2 1
    have r2 := cell_of hr2 2
    have r3 := cell_of hr2 3
    have f0 := free_of hr2 0
    have f1 := free_of hr2 1
    have f2 := free_of hr2 2
    have f3 := free_of hr2 3
    simp at r0 r1 r2 r3
    have s2 : w.heap.size + 2 < w2.heap.size := (Array.getElem?_eq_some_iff.1 hr2).1
    clear hr2 k2 HIS
    by_cases hin : -9223372036854775808 ≤ z ∧ z ≤ 9223372036854775807
    · have hd : decide (-9223372036854775808 ≤ z ∧ z ≤ 9223372036854775807) = true := by simp [hin]
      have HIN := toHid hin
      have HI64 := toHid (int64_any pz z w2 HIZ2.out hin)
      clear hin
      generalize decide (-9223372036854775808 ≤ z ∧ z ≤ 9223372036854775807) = dd at hd ⊢
      subst hd
      go_wp2_with fail
      refine HI64.out.mono ?_
      rintro e w3 ⟨rfl, rfl⟩
      go_wp2_with fail
      have E := set4_here (b := w.heap.size + 1 + 1) HR2.out (.int .i64 2) (.int .i64 z) (.string ⟨#[]⟩) (.slice none 0 0)
      have hbb : Below w.heap.size w ((((w3.setCell ⟨w.heap.size + 1 + 1, 0, none⟩ (.int .i64 2)).setCell ⟨w.heap.size + 1 + 1, 1, none⟩ (.int .i64 z)).setCell ⟨w.heap.size + 1 + 1, 2, none⟩ (.string ⟨#[]⟩)).setCell ⟨w.heap.size + 1 + 1, 3, none⟩ (.slice none 0 0)) := (((HK2.out.setCell (p := ⟨w.heap.size + 1 + 1, 0, none⟩) (by show w.heap.size ≤ w.heap.size + 1 + 1; omega) _).setCell (p := ⟨w.heap.size + 1 + 1, 1, none⟩) (by show w.heap.size ≤ w.heap.size + 1 + 1; omega) _).setCell (p := ⟨w.heap.size + 1 + 1, 2, none⟩) (by show w.heap.size ≤ w.heap.size + 1 + 1; omega) _).setCell (p := ⟨w.heap.size + 1 + 1, 3, none⟩) (by show w.heap.size ≤ w.heap.size + 1 + 1; omega) _
      generalize ((((w3.setCell ⟨w.heap.size + 1 + 1, 0, none⟩ (.int .i64 2)).setCell ⟨w.heap.size + 1 + 1, 1, none⟩ (.int .i64 z)).setCell ⟨w.heap.size + 1 + 1, 2, none⟩ (.string ⟨#[]⟩)).setCell ⟨w.heap.size + 1 + 1, 3, none⟩ (.slice none 0 0)) = Y at E hbb ⊢
      have t0 := cell_of E 0
      have t1 := cell_of E 1
      have t2 := cell_of E 2
      have t3 := cell_of E 3
      simp at t0 t1 t2 t3
      exact bodyPost_ret (v := .tuple #[.agg #[.int .i64 2, .int .i64 z, .string ⟨#[]⟩, .slice none 0 0], .int .i64 0]) (by simp [results, Tryz.results6, go_sem, t0, t1, t2, t3]) rfl ⟨⟨fun _ => rfl, fun h => absurd HIN.out h⟩, hbb⟩
    · have hd : decide (-9223372036854775808 ≤ z ∧ z ≤ 9223372036854775807) = false := by simp only [decide_eq_false_iff_not]; exact hin
      have HIN := toHid hin
      clear hin
      generalize decide (-9223372036854775808 ≤ z ∧ z ≤ 9223372036854775807) = dd at hd ⊢
      subst hd
      go_wp2_with fail
      have E := set4_here (b := w.heap.size + 1 + 1) HR2.out (.int .i64 0) (.int .i64 0) (.string ⟨#[]⟩) (.slice none 0 0)
      have hbb : Below w.heap.size w ((((w2.setCell ⟨w.heap.size + 1 + 1, 0, none⟩ (.int .i64 0)).setCell ⟨w.heap.size + 1 + 1, 1, none⟩ (.int .i64 0)).setCell ⟨w.heap.size + 1 + 1, 2, none⟩ (.string ⟨#[]⟩)).setCell ⟨w.heap.size + 1 + 1, 3, none⟩ (.slice none 0 0)) := (((HK2.out.setCell (p := ⟨w.heap.size + 1 + 1, 0, none⟩) (by show w.heap.size ≤ w.heap.size + 1 + 1; omega) _).setCell (p := ⟨w.heap.size + 1 + 1, 1, none⟩) (by show w.heap.size ≤ w.heap.size + 1 + 1; omega) _).setCell (p := ⟨w.heap.size + 1 + 1, 2, none⟩) (by show w.heap.size ≤ w.heap.size + 1 + 1; omega) _).setCell (p := ⟨w.heap.size + 1 + 1, 3, none⟩) (by show w.heap.size ≤ w.heap.size + 1 + 1; omega) _
      generalize ((((w2.setCell ⟨w.heap.size + 1 + 1, 0, none⟩ (.int .i64 0)).setCell ⟨w.heap.size + 1 + 1, 1, none⟩ (.int .i64 0)).setCell ⟨w.heap.size + 1 + 1, 2, none⟩ (.string ⟨#[]⟩)).setCell ⟨w.heap.size + 1 + 1, 3, none⟩ (.slice none 0 0)) = Y at E hbb ⊢
      have t0 := cell_of E 0
      have t1 := cell_of E 1
      have t2 := cell_of E 2
      have t3 := cell_of E 3
      simp at t0 t1 t2 t3
      exact bodyPost_ret (v := .tuple #[.agg #[.int .i64 0, .int .i64 0, .string ⟨#[]⟩, .slice none 0 0], .int .i64 4]) (by simp [results, Tryz.results6, go_sem, t0, t1, t2, t3]) rfl ⟨⟨fun h => absurd h HIN.out, fun _ => rfl⟩, hbb⟩
end Go.Proofs.YtekkifljcppmlaaGreatDoor
