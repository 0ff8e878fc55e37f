/-
  What is proved here: what the texts LBgRk4, LBgRk5 prove, in one text.
-/
import Derived.Test.YtbfhapmnnckkaaaGreatDoorQNAM
namespace Go.Proofs.YtbfhapmnnckkaaaGreatDoor
open Go.RowKit
set_option linter.unusedVariables false

set_option maxHeartbeats 2000000 in
set_option maxRecDepth 100000 in
theorem reckon_who (sign : ByteArray) (k1 k2 : Int) (n1 n2 : Int) (s1 s2 : ByteArray) (a1 a2 : Option Addr) (l1 c1 l2 c2 : Nat) (w : World) (h1 : (sign.toList == [43]) = false) (h2 : (sign.toList == [45]) = false) (h3 : (sign.toList == [42]) = false) :
    Calls Tryz.prog 94 #[.string sign, .agg #[.int .i64 k1, .int .i64 n1, .string s1, .slice a1 l1 c1], .agg #[.int .i64 k2, .int .i64 n2, .string s2, .slice a2 l2 c2]] w fun e w' => e = .returned (.tuple #[.agg #[.int .i64 0, .int .i64 0, .string ⟨#[]⟩, .slice none 0 0], .int .i64 5]) ∧ Below w.heap.size w w' := by
  go_enter Tryz.func94, Tryz.ntmps94
  go_wp2_with fail
  have E := (three_alloc w (.cells #[.int .i64 k1, .int .i64 n1, .string s1, .slice a1 l1 c1] 24) (.cells #[.int .i64 k2, .int .i64 n2, .string s2, .slice a2 l2 c2] 24) (.cells #[.int .i64 0, .int .i64 0, .string ⟨#[]⟩, .slice none 0 0] 24)).2.2
  have hbb : Below w.heap.size w (((w.alloc (.cells #[.int .i64 k1, .int .i64 n1, .string s1, .slice a1 l1 c1] 24)).alloc (.cells #[.int .i64 k2, .int .i64 n2, .string s2, .slice a2 l2 c2] 24)).alloc (.cells #[.int .i64 0, .int .i64 0, .string ⟨#[]⟩, .slice none 0 0] 24)) := (((Below.refl _ _).alloc (Nat.le_refl _) _).alloc (by simp) _).alloc (by simp; omega) _
  generalize (((w.alloc (.cells #[.int .i64 k1, .int .i64 n1, .string s1, .slice a1 l1 c1] 24)).alloc (.cells #[.int .i64 k2, .int .i64 n2, .string s2, .slice a2 l2 c2] 24)).alloc (.cells #[.int .i64 0, .int .i64 0, .string ⟨#[]⟩, .slice none 0 0] 24)) = Y at E hbb ⊢
  have t0 : Y.cell? ⟨w.heap.size + 1 + 1, 0, none⟩ = _ := cell_of E 0
  have t1 : Y.cell? ⟨w.heap.size + 1 + 1, 1, none⟩ = _ := cell_of E 1
  have t2 : Y.cell? ⟨w.heap.size + 1 + 1, 2, none⟩ = _ := cell_of E 2
  have t3 : Y.cell? ⟨w.heap.size + 1 + 1, 3, none⟩ = _ := cell_of E 3
  simp at t0 t1 t2 t3
  exact bodyPost_ret (v := .tuple #[.agg #[.int .i64 0, .int .i64 0, .string ⟨#[]⟩, .slice none 0 0], .int .i64 5]) (by simp [results, Tryz.results94, go_sem, t0, t1, t2, t3]) rfl ⟨rfl, hbb⟩

set_option maxHeartbeats 2000000 in
set_option maxRecDepth 100000 in
theorem reckon_null_add (k1 k2 : Int) (n1 n2 : Int) (s1 s2 : ByteArray) (a1 a2 : Option Addr) (l1 c1 l2 c2 : Nat) (w : World) (h : k1 = 0 ∨ k2 = 0) :
    Calls Tryz.prog 94 #[.string ⟨#[43]⟩, .agg #[.int .i64 k1, .int .i64 n1, .string s1, .slice a1 l1 c1], .agg #[.int .i64 k2, .int .i64 n2, .string s2, .slice a2 l2 c2]] w fun e w' => e = .returned (.tuple #[.agg #[.int .i64 0, .int .i64 0, .string ⟨#[]⟩, .slice none 0 0], .int .i64 0]) ∧ Below w.heap.size w w' := by
  by_cases h1 : k1 = 0
  · subst h1
    clear h
    go_enter Tryz.func94, Tryz.ntmps94
    go_wp2_with fail
    have E := (three_alloc w (.cells #[.int .i64 0, .int .i64 n1, .string s1, .slice a1 l1 c1] 24) (.cells #[.int .i64 k2, .int .i64 n2, .string s2, .slice a2 l2 c2] 24) (.cells #[.int .i64 0, .int .i64 0, .string ⟨#[]⟩, .slice none 0 0] 24)).2.2
    have hbb : Below w.heap.size w (((w.alloc (.cells #[.int .i64 0, .int .i64 n1, .string s1, .slice a1 l1 c1] 24)).alloc (.cells #[.int .i64 k2, .int .i64 n2, .string s2, .slice a2 l2 c2] 24)).alloc (.cells #[.int .i64 0, .int .i64 0, .string ⟨#[]⟩, .slice none 0 0] 24)) := (((Below.refl _ _).alloc (Nat.le_refl _) _).alloc (by simp) _).alloc (by simp; omega) _
    generalize (((w.alloc (.cells #[.int .i64 0, .int .i64 n1, .string s1, .slice a1 l1 c1] 24)).alloc (.cells #[.int .i64 k2, .int .i64 n2, .string s2, .slice a2 l2 c2] 24)).alloc (.cells #[.int .i64 0, .int .i64 0, .string ⟨#[]⟩, .slice none 0 0] 24)) = Y at E hbb ⊢
    have t0 : Y.cell? ⟨w.heap.size + 1 + 1, 0, none⟩ = _ := cell_of E 0
    have t1 : Y.cell? ⟨w.heap.size + 1 + 1, 1, none⟩ = _ := cell_of E 1
    have t2 : Y.cell? ⟨w.heap.size + 1 + 1, 2, none⟩ = _ := cell_of E 2
    have t3 : Y.cell? ⟨w.heap.size + 1 + 1, 3, none⟩ = _ := cell_of E 3
    simp at t0 t1 t2 t3
    exact bodyPost_ret (v := .tuple #[.agg #[.int .i64 0, .int .i64 0, .string ⟨#[]⟩, .slice none 0 0], .int .i64 0]) (by simp [results, Tryz.results94, go_sem, t0, t1, t2, t3]) rfl ⟨rfl, hbb⟩
  · have h2 : k2 = 0 := h.resolve_left h1
    subst h2
    have h1' : (k1 == 0) = false := by simp [h1]
    clear h
    go_enter Tryz.func94, Tryz.ntmps94
    go_wp2_with fail
    have E := (three_alloc w (.cells #[.int .i64 k1, .int .i64 n1, .string s1, .slice a1 l1 c1] 24) (.cells #[.int .i64 0, .int .i64 n2, .string s2, .slice a2 l2 c2] 24) (.cells #[.int .i64 0, .int .i64 0, .string ⟨#[]⟩, .slice none 0 0] 24)).2.2
    have hbb : Below w.heap.size w (((w.alloc (.cells #[.int .i64 k1, .int .i64 n1, .string s1, .slice a1 l1 c1] 24)).alloc (.cells #[.int .i64 0, .int .i64 n2, .string s2, .slice a2 l2 c2] 24)).alloc (.cells #[.int .i64 0, .int .i64 0, .string ⟨#[]⟩, .slice none 0 0] 24)) := (((Below.refl _ _).alloc (Nat.le_refl _) _).alloc (by simp) _).alloc (by simp; omega) _
    generalize (((w.alloc (.cells #[.int .i64 k1, .int .i64 n1, .string s1, .slice a1 l1 c1] 24)).alloc (.cells #[.int .i64 0, .int .i64 n2, .string s2, .slice a2 l2 c2] 24)).alloc (.cells #[.int .i64 0, .int .i64 0, .string ⟨#[]⟩, .slice none 0 0] 24)) = Y at E hbb ⊢
    have t0 : Y.cell? ⟨w.heap.size + 1 + 1, 0, none⟩ = _ := cell_of E 0
    have t1 : Y.cell? ⟨w.heap.size + 1 + 1, 1, none⟩ = _ := cell_of E 1
    have t2 : Y.cell? ⟨w.heap.size + 1 + 1, 2, none⟩ = _ := cell_of E 2
    have t3 : Y.cell? ⟨w.heap.size + 1 + 1, 3, none⟩ = _ := cell_of E 3
    simp at t0 t1 t2 t3
    exact bodyPost_ret (v := .tuple #[.agg #[.int .i64 0, .int .i64 0, .string ⟨#[]⟩, .slice none 0 0], .int .i64 0]) (by simp [results, Tryz.results94, go_sem, t0, t1, t2, t3]) rfl ⟨rfl, hbb⟩

set_option maxHeartbeats 2000000 in
set_option maxRecDepth 100000 in
theorem reckon_kind_add (k1 k2 : Int) (n1 n2 : Int) (s1 s2 : ByteArray) (a1 a2 : Option Addr) (l1 c1 l2 c2 : Nat) (w : World) (h1 : k1 ≠ 0) (h2 : k2 ≠ 0) (h3 : ¬ (k1 = 2 ∧ k2 = 2)) (h4 : k1 ≠ k2 ∨ (k1 ≠ 3 ∧ k1 ≠ 4)) :
    Calls Tryz.prog 94 #[.string ⟨#[43]⟩, .agg #[.int .i64 k1, .int .i64 n1, .string s1, .slice a1 l1 c1], .agg #[.int .i64 k2, .int .i64 n2, .string s2, .slice a2 l2 c2]] w fun e w' => e = .returned (.tuple #[.agg #[.int .i64 0, .int .i64 0, .string ⟨#[]⟩, .slice none 0 0], .int .i64 3]) ∧ Below w.heap.size w w' := by
  have h1' : (k1 == 0) = false := by simp [h1]
  have h2' : (k2 == 0) = false := by simp [h2]
  by_cases h5 : k1 = k2
  · subst h5
    have h7 : (k1 == 2) = false := by simp; omega
    have h6 : k1 ≠ 3 ∧ k1 ≠ 4 := h4.resolve_left (fun h => h rfl)
    have h8 : (k1 == 3) = false := by simp [h6.1]
    have h9 : (k1 == 4) = false := by simp [h6.2]
    clear h1 h2 h3 h4 h6
    go_enter Tryz.func94, Tryz.ntmps94
    go_wp2_with fail
    have E := (three_alloc w (.cells #[.int .i64 k1, .int .i64 n1, .string s1, .slice a1 l1 c1] 24) (.cells #[.int .i64 k1, .int .i64 n2, .string s2, .slice a2 l2 c2] 24) (.cells #[.int .i64 0, .int .i64 0, .string ⟨#[]⟩, .slice none 0 0] 24)).2.2
    have hbb : Below w.heap.size w (((w.alloc (.cells #[.int .i64 k1, .int .i64 n1, .string s1, .slice a1 l1 c1] 24)).alloc (.cells #[.int .i64 k1, .int .i64 n2, .string s2, .slice a2 l2 c2] 24)).alloc (.cells #[.int .i64 0, .int .i64 0, .string ⟨#[]⟩, .slice none 0 0] 24)) := (((Below.refl _ _).alloc (Nat.le_refl _) _).alloc (by simp) _).alloc (by simp; omega) _
    generalize (((w.alloc (.cells #[.int .i64 k1, .int .i64 n1, .string s1, .slice a1 l1 c1] 24)).alloc (.cells #[.int .i64 k1, .int .i64 n2, .string s2, .slice a2 l2 c2] 24)).alloc (.cells #[.int .i64 0, .int .i64 0, .string ⟨#[]⟩, .slice none 0 0] 24)) = Y at E hbb ⊢
    have t0 : Y.cell? ⟨w.heap.size + 1 + 1, 0, none⟩ = _ := cell_of E 0
    have t1 : Y.cell? ⟨w.heap.size + 1 + 1, 1, none⟩ = _ := cell_of E 1
    have t2 : Y.cell? ⟨w.heap.size + 1 + 1, 2, none⟩ = _ := cell_of E 2
    have t3 : Y.cell? ⟨w.heap.size + 1 + 1, 3, none⟩ = _ := cell_of E 3
    simp at t0 t1 t2 t3
    exact bodyPost_ret (v := .tuple #[.agg #[.int .i64 0, .int .i64 0, .string ⟨#[]⟩, .slice none 0 0], .int .i64 3]) (by simp [results, Tryz.results94, go_sem, t0, t1, t2, t3]) rfl ⟨rfl, hbb⟩
  · have h6 : (k1 != k2) = true := by simp [h5]
    clear h1 h2 h3 h5 h4
    go_enter Tryz.func94, Tryz.ntmps94
    go_wp2_with fail
    have E := (three_alloc w (.cells #[.int .i64 k1, .int .i64 n1, .string s1, .slice a1 l1 c1] 24) (.cells #[.int .i64 k2, .int .i64 n2, .string s2, .slice a2 l2 c2] 24) (.cells #[.int .i64 0, .int .i64 0, .string ⟨#[]⟩, .slice none 0 0] 24)).2.2
    have hbb : Below w.heap.size w (((w.alloc (.cells #[.int .i64 k1, .int .i64 n1, .string s1, .slice a1 l1 c1] 24)).alloc (.cells #[.int .i64 k2, .int .i64 n2, .string s2, .slice a2 l2 c2] 24)).alloc (.cells #[.int .i64 0, .int .i64 0, .string ⟨#[]⟩, .slice none 0 0] 24)) := (((Below.refl _ _).alloc (Nat.le_refl _) _).alloc (by simp) _).alloc (by simp; omega) _
    generalize (((w.alloc (.cells #[.int .i64 k1, .int .i64 n1, .string s1, .slice a1 l1 c1] 24)).alloc (.cells #[.int .i64 k2, .int .i64 n2, .string s2, .slice a2 l2 c2] 24)).alloc (.cells #[.int .i64 0, .int .i64 0, .string ⟨#[]⟩, .slice none 0 0] 24)) = Y at E hbb ⊢
    have t0 : Y.cell? ⟨w.heap.size + 1 + 1, 0, none⟩ = _ := cell_of E 0
    have t1 : Y.cell? ⟨w.heap.size + 1 + 1, 1, none⟩ = _ := cell_of E 1
    have t2 : Y.cell? ⟨w.heap.size + 1 + 1, 2, none⟩ = _ := cell_of E 2
    have t3 : Y.cell? ⟨w.heap.size + 1 + 1, 3, none⟩ = _ := cell_of E 3
    simp at t0 t1 t2 t3
    exact bodyPost_ret (v := .tuple #[.agg #[.int .i64 0, .int .i64 0, .string ⟨#[]⟩, .slice none 0 0], .int .i64 3]) (by simp [results, Tryz.results94, go_sem, t0, t1, t2, t3]) rfl ⟨rfl, hbb⟩

set_option maxHeartbeats 2000000 in
set_option maxRecDepth 100000 in
theorem reckon_null_sub (k1 k2 : Int) (n1 n2 : Int) (s1 s2 : ByteArray) (a1 a2 : Option Addr) (l1 c1 l2 c2 : Nat) (w : World) (h : k1 = 0 ∨ k2 = 0) :
    Calls Tryz.prog 94 #[.string ⟨#[45]⟩, .agg #[.int .i64 k1, .int .i64 n1, .string s1, .slice a1 l1 c1], .agg #[.int .i64 k2, .int .i64 n2, .string s2, .slice a2 l2 c2]] w fun e w' => e = .returned (.tuple #[.agg #[.int .i64 0, .int .i64 0, .string ⟨#[]⟩, .slice none 0 0], .int .i64 0]) ∧ Below w.heap.size w w' := by
  by_cases h1 : k1 = 0
  · subst h1
    clear h
    go_enter Tryz.func94, Tryz.ntmps94
    go_wp2_with fail
    have E := (three_alloc w (.cells #[.int .i64 0, .int .i64 n1, .string s1, .slice a1 l1 c1] 24) (.cells #[.int .i64 k2, .int .i64 n2, .string s2, .slice a2 l2 c2] 24) (.cells #[.int .i64 0, .int .i64 0, .string ⟨#[]⟩, .slice none 0 0] 24)).2.2
    have hbb : Below w.heap.size w (((w.alloc (.cells #[.int .i64 0, .int .i64 n1, .string s1, .slice a1 l1 c1] 24)).alloc (.cells #[.int .i64 k2, .int .i64 n2, .string s2, .slice a2 l2 c2] 24)).alloc (.cells #[.int .i64 0, .int .i64 0, .string ⟨#[]⟩, .slice none 0 0] 24)) := (((Below.refl _ _).alloc (Nat.le_refl _) _).alloc (by simp) _).alloc (by simp; omega) _
    generalize (((w.alloc (.cells #[.int .i64 0, .int .i64 n1, .string s1, .slice a1 l1 c1] 24)).alloc (.cells #[.int .i64 k2, .int .i64 n2, .string s2, .slice a2 l2 c2] 24)).alloc (.cells #[.int .i64 0, .int .i64 0, .string ⟨#[]⟩, .slice none 0 0] 24)) = Y at E hbb ⊢
    have t0 : Y.cell? ⟨w.heap.size + 1 + 1, 0, none⟩ = _ := cell_of E 0
    have t1 : Y.cell? ⟨w.heap.size + 1 + 1, 1, none⟩ = _ := cell_of E 1
    have t2 : Y.cell? ⟨w.heap.size + 1 + 1, 2, none⟩ = _ := cell_of E 2
    have t3 : Y.cell? ⟨w.heap.size + 1 + 1, 3, none⟩ = _ := cell_of E 3
    simp at t0 t1 t2 t3
    exact bodyPost_ret (v := .tuple #[.agg #[.int .i64 0, .int .i64 0, .string ⟨#[]⟩, .slice none 0 0], .int .i64 0]) (by simp [results, Tryz.results94, go_sem, t0, t1, t2, t3]) rfl ⟨rfl, hbb⟩
  · have h2 : k2 = 0 := h.resolve_left h1
    subst h2
    have h1' : (k1 == 0) = false := by simp [h1]
    clear h
    go_enter Tryz.func94, Tryz.ntmps94
    go_wp2_with fail
    have E := (three_alloc w (.cells #[.int .i64 k1, .int .i64 n1, .string s1, .slice a1 l1 c1] 24) (.cells #[.int .i64 0, .int .i64 n2, .string s2, .slice a2 l2 c2] 24) (.cells #[.int .i64 0, .int .i64 0, .string ⟨#[]⟩, .slice none 0 0] 24)).2.2
    have hbb : Below w.heap.size w (((w.alloc (.cells #[.int .i64 k1, .int .i64 n1, .string s1, .slice a1 l1 c1] 24)).alloc (.cells #[.int .i64 0, .int .i64 n2, .string s2, .slice a2 l2 c2] 24)).alloc (.cells #[.int .i64 0, .int .i64 0, .string ⟨#[]⟩, .slice none 0 0] 24)) := (((Below.refl _ _).alloc (Nat.le_refl _) _).alloc (by simp) _).alloc (by simp; omega) _
    generalize (((w.alloc (.cells #[.int .i64 k1, .int .i64 n1, .string s1, .slice a1 l1 c1] 24)).alloc (.cells #[.int .i64 0, .int .i64 n2, .string s2, .slice a2 l2 c2] 24)).alloc (.cells #[.int .i64 0, .int .i64 0, .string ⟨#[]⟩, .slice none 0 0] 24)) = Y at E hbb ⊢
    have t0 : Y.cell? ⟨w.heap.size + 1 + 1, 0, none⟩ = _ := cell_of E 0
    have t1 : Y.cell? ⟨w.heap.size + 1 + 1, 1, none⟩ = _ := cell_of E 1
    have t2 : Y.cell? ⟨w.heap.size + 1 + 1, 2, none⟩ = _ := cell_of E 2
    have t3 : Y.cell? ⟨w.heap.size + 1 + 1, 3, none⟩ = _ := cell_of E 3
    simp at t0 t1 t2 t3
    exact bodyPost_ret (v := .tuple #[.agg #[.int .i64 0, .int .i64 0, .string ⟨#[]⟩, .slice none 0 0], .int .i64 0]) (by simp [results, Tryz.results94, go_sem, t0, t1, t2, t3]) rfl ⟨rfl, hbb⟩

set_option maxHeartbeats 2000000 in
set_option maxRecDepth 100000 in
theorem reckon_kind_sub (k1 k2 : Int) (n1 n2 : Int) (s1 s2 : ByteArray) (a1 a2 : Option Addr) (l1 c1 l2 c2 : Nat) (w : World) (h1 : k1 ≠ 0) (h2 : k2 ≠ 0) (h3 : ¬ (k1 = 2 ∧ k2 = 2)) :
    Calls Tryz.prog 94 #[.string ⟨#[45]⟩, .agg #[.int .i64 k1, .int .i64 n1, .string s1, .slice a1 l1 c1], .agg #[.int .i64 k2, .int .i64 n2, .string s2, .slice a2 l2 c2]] w fun e w' => e = .returned (.tuple #[.agg #[.int .i64 0, .int .i64 0, .string ⟨#[]⟩, .slice none 0 0], .int .i64 3]) ∧ Below w.heap.size w w' := by
  have h1' : (k1 == 0) = false := by simp [h1]
  have h2' : (k2 == 0) = false := by simp [h2]
  by_cases h5 : k1 = k2
  · subst h5
    have h7 : (k1 == 2) = false := by simp; omega
    clear h1 h2 h3
    by_cases h8 : k1 = 3
    · subst h8
      go_enter Tryz.func94, Tryz.ntmps94
      go_wp2_with fail
      have E := (three_alloc w (.cells #[.int .i64 3, .int .i64 n1, .string s1, .slice a1 l1 c1] 24) (.cells #[.int .i64 3, .int .i64 n2, .string s2, .slice a2 l2 c2] 24) (.cells #[.int .i64 0, .int .i64 0, .string ⟨#[]⟩, .slice none 0 0] 24)).2.2
      have hbb : Below w.heap.size w (((w.alloc (.cells #[.int .i64 3, .int .i64 n1, .string s1, .slice a1 l1 c1] 24)).alloc (.cells #[.int .i64 3, .int .i64 n2, .string s2, .slice a2 l2 c2] 24)).alloc (.cells #[.int .i64 0, .int .i64 0, .string ⟨#[]⟩, .slice none 0 0] 24)) := (((Below.refl _ _).alloc (Nat.le_refl _) _).alloc (by simp) _).alloc (by simp; omega) _
      generalize (((w.alloc (.cells #[.int .i64 3, .int .i64 n1, .string s1, .slice a1 l1 c1] 24)).alloc (.cells #[.int .i64 3, .int .i64 n2, .string s2, .slice a2 l2 c2] 24)).alloc (.cells #[.int .i64 0, .int .i64 0, .string ⟨#[]⟩, .slice none 0 0] 24)) = Y at E hbb ⊢
      have t0 : Y.cell? ⟨w.heap.size + 1 + 1, 0, none⟩ = _ := cell_of E 0
      have t1 : Y.cell? ⟨w.heap.size + 1 + 1, 1, none⟩ = _ := cell_of E 1
      have t2 : Y.cell? ⟨w.heap.size + 1 + 1, 2, none⟩ = _ := cell_of E 2
      have t3 : Y.cell? ⟨w.heap.size + 1 + 1, 3, none⟩ = _ := cell_of E 3
      simp at t0 t1 t2 t3
      exact bodyPost_ret (v := .tuple #[.agg #[.int .i64 0, .int .i64 0, .string ⟨#[]⟩, .slice none 0 0], .int .i64 3]) (by simp [results, Tryz.results94, go_sem, t0, t1, t2, t3]) rfl ⟨rfl, hbb⟩
    · have h8' : (k1 == 3) = false := by simp [h8]
      by_cases h9 : k1 = 4
      · subst h9
        go_enter Tryz.func94, Tryz.ntmps94
        go_wp2_with fail
        have E := (three_alloc w (.cells #[.int .i64 4, .int .i64 n1, .string s1, .slice a1 l1 c1] 24) (.cells #[.int .i64 4, .int .i64 n2, .string s2, .slice a2 l2 c2] 24) (.cells #[.int .i64 0, .int .i64 0, .string ⟨#[]⟩, .slice none 0 0] 24)).2.2
        have hbb : Below w.heap.size w (((w.alloc (.cells #[.int .i64 4, .int .i64 n1, .string s1, .slice a1 l1 c1] 24)).alloc (.cells #[.int .i64 4, .int .i64 n2, .string s2, .slice a2 l2 c2] 24)).alloc (.cells #[.int .i64 0, .int .i64 0, .string ⟨#[]⟩, .slice none 0 0] 24)) := (((Below.refl _ _).alloc (Nat.le_refl _) _).alloc (by simp) _).alloc (by simp; omega) _
        generalize (((w.alloc (.cells #[.int .i64 4, .int .i64 n1, .string s1, .slice a1 l1 c1] 24)).alloc (.cells #[.int .i64 4, .int .i64 n2, .string s2, .slice a2 l2 c2] 24)).alloc (.cells #[.int .i64 0, .int .i64 0, .string ⟨#[]⟩, .slice none 0 0] 24)) = Y at E hbb ⊢
        have t0 : Y.cell? ⟨w.heap.size + 1 + 1, 0, none⟩ = _ := cell_of E 0
        have t1 : Y.cell? ⟨w.heap.size + 1 + 1, 1, none⟩ = _ := cell_of E 1
        have t2 : Y.cell? ⟨w.heap.size + 1 + 1, 2, none⟩ = _ := cell_of E 2
        have t3 : Y.cell? ⟨w.heap.size + 1 + 1, 3, none⟩ = _ := cell_of E 3
        simp at t0 t1 t2 t3
        exact bodyPost_ret (v := .tuple #[.agg #[.int .i64 0, .int .i64 0, .string ⟨#[]⟩, .slice none 0 0], .int .i64 3]) (by simp [results, Tryz.results94, go_sem, t0, t1, t2, t3]) rfl ⟨rfl, hbb⟩
      · have h9' : (k1 == 4) = false := by simp [h9]
        clear h8 h9
        go_enter Tryz.func94, Tryz.ntmps94
        go_wp2_with fail
        have E := (three_alloc w (.cells #[.int .i64 k1, .int .i64 n1, .string s1, .slice a1 l1 c1] 24) (.cells #[.int .i64 k1, .int .i64 n2, .string s2, .slice a2 l2 c2] 24) (.cells #[.int .i64 0, .int .i64 0, .string ⟨#[]⟩, .slice none 0 0] 24)).2.2
        have hbb : Below w.heap.size w (((w.alloc (.cells #[.int .i64 k1, .int .i64 n1, .string s1, .slice a1 l1 c1] 24)).alloc (.cells #[.int .i64 k1, .int .i64 n2, .string s2, .slice a2 l2 c2] 24)).alloc (.cells #[.int .i64 0, .int .i64 0, .string ⟨#[]⟩, .slice none 0 0] 24)) := (((Below.refl _ _).alloc (Nat.le_refl _) _).alloc (by simp) _).alloc (by simp; omega) _
        generalize (((w.alloc (.cells #[.int .i64 k1, .int .i64 n1, .string s1, .slice a1 l1 c1] 24)).alloc (.cells #[.int .i64 k1, .int .i64 n2, .string s2, .slice a2 l2 c2] 24)).alloc (.cells #[.int .i64 0, .int .i64 0, .string ⟨#[]⟩, .slice none 0 0] 24)) = Y at E hbb ⊢
        have t0 : Y.cell? ⟨w.heap.size + 1 + 1, 0, none⟩ = _ := cell_of E 0
        have t1 : Y.cell? ⟨w.heap.size + 1 + 1, 1, none⟩ = _ := cell_of E 1
        have t2 : Y.cell? ⟨w.heap.size + 1 + 1, 2, none⟩ = _ := cell_of E 2
        have t3 : Y.cell? ⟨w.heap.size + 1 + 1, 3, none⟩ = _ := cell_of E 3
        simp at t0 t1 t2 t3
        exact bodyPost_ret (v := .tuple #[.agg #[.int .i64 0, .int .i64 0, .string ⟨#[]⟩, .slice none 0 0], .int .i64 3]) (by simp [results, Tryz.results94, go_sem, t0, t1, t2, t3]) rfl ⟨rfl, hbb⟩
  · have h6 : (k1 != k2) = true := by simp [h5]
    clear h1 h2 h3 h5
    go_enter Tryz.func94, Tryz.ntmps94
    go_wp2_with fail
    have E := (three_alloc w (.cells #[.int .i64 k1, .int .i64 n1, .string s1, .slice a1 l1 c1] 24) (.cells #[.int .i64 k2, .int .i64 n2, .string s2, .slice a2 l2 c2] 24) (.cells #[.int .i64 0, .int .i64 0, .string ⟨#[]⟩, .slice none 0 0] 24)).2.2
    have hbb : Below w.heap.size w (((w.alloc (.cells #[.int .i64 k1, .int .i64 n1, .string s1, .slice a1 l1 c1] 24)).alloc (.cells #[.int .i64 k2, .int .i64 n2, .string s2, .slice a2 l2 c2] 24)).alloc (.cells #[.int .i64 0, .int .i64 0, .string ⟨#[]⟩, .slice none 0 0] 24)) := (((Below.refl _ _).alloc (Nat.le_refl _) _).alloc (by simp) _).alloc (by simp; omega) _
    generalize (((w.alloc (.cells #[.int .i64 k1, .int .i64 n1, .string s1, .slice a1 l1 c1] 24)).alloc (.cells #[.int .i64 k2, .int .i64 n2, .string s2, .slice a2 l2 c2] 24)).alloc (.cells #[.int .i64 0, .int .i64 0, .string ⟨#[]⟩, .slice none 0 0] 24)) = Y at E hbb ⊢
    have t0 : Y.cell? ⟨w.heap.size + 1 + 1, 0, none⟩ = _ := cell_of E 0
    have t1 : Y.cell? ⟨w.heap.size + 1 + 1, 1, none⟩ = _ := cell_of E 1
    have t2 : Y.cell? ⟨w.heap.size + 1 + 1, 2, none⟩ = _ := cell_of E 2
    have t3 : Y.cell? ⟨w.heap.size + 1 + 1, 3, none⟩ = _ := cell_of E 3
    simp at t0 t1 t2 t3
    exact bodyPost_ret (v := .tuple #[.agg #[.int .i64 0, .int .i64 0, .string ⟨#[]⟩, .slice none 0 0], .int .i64 3]) (by simp [results, Tryz.results94, go_sem, t0, t1, t2, t3]) rfl ⟨rfl, hbb⟩

set_option maxHeartbeats 2000000 in
set_option maxRecDepth 100000 in
theorem reckon_null_mul (k1 k2 : Int) (n1 n2 : Int) (s1 s2 : ByteArray) (a1 a2 : Option Addr) (l1 c1 l2 c2 : Nat) (w : World) (h : k1 = 0 ∨ k2 = 0) :
    Calls Tryz.prog 94 #[.string ⟨#[42]⟩, .agg #[.int .i64 k1, .int .i64 n1, .string s1, .slice a1 l1 c1], .agg #[.int .i64 k2, .int .i64 n2, .string s2, .slice a2 l2 c2]] w fun e w' => e = .returned (.tuple #[.agg #[.int .i64 0, .int .i64 0, .string ⟨#[]⟩, .slice none 0 0], .int .i64 0]) ∧ Below w.heap.size w w' := by
  by_cases h1 : k1 = 0
  · subst h1
    clear h
    go_enter Tryz.func94, Tryz.ntmps94
    go_wp2_with fail
    have E := (three_alloc w (.cells #[.int .i64 0, .int .i64 n1, .string s1, .slice a1 l1 c1] 24) (.cells #[.int .i64 k2, .int .i64 n2, .string s2, .slice a2 l2 c2] 24) (.cells #[.int .i64 0, .int .i64 0, .string ⟨#[]⟩, .slice none 0 0] 24)).2.2
    have hbb : Below w.heap.size w (((w.alloc (.cells #[.int .i64 0, .int .i64 n1, .string s1, .slice a1 l1 c1] 24)).alloc (.cells #[.int .i64 k2, .int .i64 n2, .string s2, .slice a2 l2 c2] 24)).alloc (.cells #[.int .i64 0, .int .i64 0, .string ⟨#[]⟩, .slice none 0 0] 24)) := (((Below.refl _ _).alloc (Nat.le_refl _) _).alloc (by simp) _).alloc (by simp; omega) _
    generalize (((w.alloc (.cells #[.int .i64 0, .int .i64 n1, .string s1, .slice a1 l1 c1] 24)).alloc (.cells #[.int .i64 k2, .int .i64 n2, .string s2, .slice a2 l2 c2] 24)).alloc (.cells #[.int .i64 0, .int .i64 0, .string ⟨#[]⟩, .slice none 0 0] 24)) = Y at E hbb ⊢
    have t0 : Y.cell? ⟨w.heap.size + 1 + 1, 0, none⟩ = _ := cell_of E 0
    have t1 : Y.cell? ⟨w.heap.size + 1 + 1, 1, none⟩ = _ := cell_of E 1
    have t2 : Y.cell? ⟨w.heap.size + 1 + 1, 2, none⟩ = _ := cell_of E 2
    have t3 : Y.cell? ⟨w.heap.size + 1 + 1, 3, none⟩ = _ := cell_of E 3
    simp at t0 t1 t2 t3
    exact bodyPost_ret (v := .tuple #[.agg #[.int .i64 0, .int .i64 0, .string ⟨#[]⟩, .slice none 0 0], .int .i64 0]) (by simp [results, Tryz.results94, go_sem, t0, t1, t2, t3]) rfl ⟨rfl, hbb⟩
  · have h2 : k2 = 0 := h.resolve_left h1
    subst h2
    have h1' : (k1 == 0) = false := by simp [h1]
    clear h
    go_enter Tryz.func94, Tryz.ntmps94
    go_wp2_with fail
    have E := (three_alloc w (.cells #[.int .i64 k1, .int .i64 n1, .string s1, .slice a1 l1 c1] 24) (.cells #[.int .i64 0, .int .i64 n2, .string s2, .slice a2 l2 c2] 24) (.cells #[.int .i64 0, .int .i64 0, .string ⟨#[]⟩, .slice none 0 0] 24)).2.2
    have hbb : Below w.heap.size w (((w.alloc (.cells #[.int .i64 k1, .int .i64 n1, .string s1, .slice a1 l1 c1] 24)).alloc (.cells #[.int .i64 0, .int .i64 n2, .string s2, .slice a2 l2 c2] 24)).alloc (.cells #[.int .i64 0, .int .i64 0, .string ⟨#[]⟩, .slice none 0 0] 24)) := (((Below.refl _ _).alloc (Nat.le_refl _) _).alloc (by simp) _).alloc (by simp; omega) _
    generalize (((w.alloc (.cells #[.int .i64 k1, .int .i64 n1, .string s1, .slice a1 l1 c1] 24)).alloc (.cells #[.int .i64 0, .int .i64 n2, .string s2, .slice a2 l2 c2] 24)).alloc (.cells #[.int .i64 0, .int .i64 0, .string ⟨#[]⟩, .slice none 0 0] 24)) = Y at E hbb ⊢
    have t0 : Y.cell? ⟨w.heap.size + 1 + 1, 0, none⟩ = _ := cell_of E 0
    have t1 : Y.cell? ⟨w.heap.size + 1 + 1, 1, none⟩ = _ := cell_of E 1
    have t2 : Y.cell? ⟨w.heap.size + 1 + 1, 2, none⟩ = _ := cell_of E 2
    have t3 : Y.cell? ⟨w.heap.size + 1 + 1, 3, none⟩ = _ := cell_of E 3
    simp at t0 t1 t2 t3
    exact bodyPost_ret (v := .tuple #[.agg #[.int .i64 0, .int .i64 0, .string ⟨#[]⟩, .slice none 0 0], .int .i64 0]) (by simp [results, Tryz.results94, go_sem, t0, t1, t2, t3]) rfl ⟨rfl, hbb⟩

set_option maxHeartbeats 2000000 in
set_option maxRecDepth 100000 in
theorem reckon_kind_mul (k1 k2 : Int) (n1 n2 : Int) (s1 s2 : ByteArray) (a1 a2 : Option Addr) (l1 c1 l2 c2 : Nat) (w : World) (h1 : k1 ≠ 0) (h2 : k2 ≠ 0) (h3 : ¬ (k1 = 2 ∧ k2 = 2)) :
    Calls Tryz.prog 94 #[.string ⟨#[42]⟩, .agg #[.int .i64 k1, .int .i64 n1, .string s1, .slice a1 l1 c1], .agg #[.int .i64 k2, .int .i64 n2, .string s2, .slice a2 l2 c2]] w fun e w' => e = .returned (.tuple #[.agg #[.int .i64 0, .int .i64 0, .string ⟨#[]⟩, .slice none 0 0], .int .i64 3]) ∧ Below w.heap.size w w' := by
  have h1' : (k1 == 0) = false := by simp [h1]
  have h2' : (k2 == 0) = false := by simp [h2]
  by_cases h5 : k1 = k2
  · subst h5
    have h7 : (k1 == 2) = false := by simp; omega
    clear h1 h2 h3
    by_cases h8 : k1 = 3
    · subst h8
      go_enter Tryz.func94, Tryz.ntmps94
      go_wp2_with fail
      have E := (three_alloc w (.cells #[.int .i64 3, .int .i64 n1, .string s1, .slice a1 l1 c1] 24) (.cells #[.int .i64 3, .int .i64 n2, .string s2, .slice a2 l2 c2] 24) (.cells #[.int .i64 0, .int .i64 0, .string ⟨#[]⟩, .slice none 0 0] 24)).2.2
      have hbb : Below w.heap.size w (((w.alloc (.cells #[.int .i64 3, .int .i64 n1, .string s1, .slice a1 l1 c1] 24)).alloc (.cells #[.int .i64 3, .int .i64 n2, .string s2, .slice a2 l2 c2] 24)).alloc (.cells #[.int .i64 0, .int .i64 0, .string ⟨#[]⟩, .slice none 0 0] 24)) := (((Below.refl _ _).alloc (Nat.le_refl _) _).alloc (by simp) _).alloc (by simp; omega) _
      generalize (((w.alloc (.cells #[.int .i64 3, .int .i64 n1, .string s1, .slice a1 l1 c1] 24)).alloc (.cells #[.int .i64 3, .int .i64 n2, .string s2, .slice a2 l2 c2] 24)).alloc (.cells #[.int .i64 0, .int .i64 0, .string ⟨#[]⟩, .slice none 0 0] 24)) = Y at E hbb ⊢
      have t0 : Y.cell? ⟨w.heap.size + 1 + 1, 0, none⟩ = _ := cell_of E 0
      have t1 : Y.cell? ⟨w.heap.size + 1 + 1, 1, none⟩ = _ := cell_of E 1
      have t2 : Y.cell? ⟨w.heap.size + 1 + 1, 2, none⟩ = _ := cell_of E 2
      have t3 : Y.cell? ⟨w.heap.size + 1 + 1, 3, none⟩ = _ := cell_of E 3
      simp at t0 t1 t2 t3
      exact bodyPost_ret (v := .tuple #[.agg #[.int .i64 0, .int .i64 0, .string ⟨#[]⟩, .slice none 0 0], .int .i64 3]) (by simp [results, Tryz.results94, go_sem, t0, t1, t2, t3]) rfl ⟨rfl, hbb⟩
    · have h8' : (k1 == 3) = false := by simp [h8]
      by_cases h9 : k1 = 4
      · subst h9
        go_enter Tryz.func94, Tryz.ntmps94
        go_wp2_with fail
        have E := (three_alloc w (.cells #[.int .i64 4, .int .i64 n1, .string s1, .slice a1 l1 c1] 24) (.cells #[.int .i64 4, .int .i64 n2, .string s2, .slice a2 l2 c2] 24) (.cells #[.int .i64 0, .int .i64 0, .string ⟨#[]⟩, .slice none 0 0] 24)).2.2
        have hbb : Below w.heap.size w (((w.alloc (.cells #[.int .i64 4, .int .i64 n1, .string s1, .slice a1 l1 c1] 24)).alloc (.cells #[.int .i64 4, .int .i64 n2, .string s2, .slice a2 l2 c2] 24)).alloc (.cells #[.int .i64 0, .int .i64 0, .string ⟨#[]⟩, .slice none 0 0] 24)) := (((Below.refl _ _).alloc (Nat.le_refl _) _).alloc (by simp) _).alloc (by simp; omega) _
        generalize (((w.alloc (.cells #[.int .i64 4, .int .i64 n1, .string s1, .slice a1 l1 c1] 24)).alloc (.cells #[.int .i64 4, .int .i64 n2, .string s2, .slice a2 l2 c2] 24)).alloc (.cells #[.int .i64 0, .int .i64 0, .string ⟨#[]⟩, .slice none 0 0] 24)) = Y at E hbb ⊢
        have t0 : Y.cell? ⟨w.heap.size + 1 + 1, 0, none⟩ = _ := cell_of E 0
        have t1 : Y.cell? ⟨w.heap.size + 1 + 1, 1, none⟩ = _ := cell_of E 1
        have t2 : Y.cell? ⟨w.heap.size + 1 + 1, 2, none⟩ = _ := cell_of E 2
        have t3 : Y.cell? ⟨w.heap.size + 1 + 1, 3, none⟩ = _ := cell_of E 3
        simp at t0 t1 t2 t3
        exact bodyPost_ret (v := .tuple #[.agg #[.int .i64 0, .int .i64 0, .string ⟨#[]⟩, .slice none 0 0], .int .i64 3]) (by simp [results, Tryz.results94, go_sem, t0, t1, t2, t3]) rfl ⟨rfl, hbb⟩
      · have h9' : (k1 == 4) = false := by simp [h9]
        clear h8 h9
        go_enter Tryz.func94, Tryz.ntmps94
        go_wp2_with fail
        have E := (three_alloc w (.cells #[.int .i64 k1, .int .i64 n1, .string s1, .slice a1 l1 c1] 24) (.cells #[.int .i64 k1, .int .i64 n2, .string s2, .slice a2 l2 c2] 24) (.cells #[.int .i64 0, .int .i64 0, .string ⟨#[]⟩, .slice none 0 0] 24)).2.2
        have hbb : Below w.heap.size w (((w.alloc (.cells #[.int .i64 k1, .int .i64 n1, .string s1, .slice a1 l1 c1] 24)).alloc (.cells #[.int .i64 k1, .int .i64 n2, .string s2, .slice a2 l2 c2] 24)).alloc (.cells #[.int .i64 0, .int .i64 0, .string ⟨#[]⟩, .slice none 0 0] 24)) := (((Below.refl _ _).alloc (Nat.le_refl _) _).alloc (by simp) _).alloc (by simp; omega) _
        generalize (((w.alloc (.cells #[.int .i64 k1, .int .i64 n1, .string s1, .slice a1 l1 c1] 24)).alloc (.cells #[.int .i64 k1, .int .i64 n2, .string s2, .slice a2 l2 c2] 24)).alloc (.cells #[.int .i64 0, .int .i64 0, .string ⟨#[]⟩, .slice none 0 0] 24)) = Y at E hbb ⊢
        have t0 : Y.cell? ⟨w.heap.size + 1 + 1, 0, none⟩ = _ := cell_of E 0
        have t1 : Y.cell? ⟨w.heap.size + 1 + 1, 1, none⟩ = _ := cell_of E 1
        have t2 : Y.cell? ⟨w.heap.size + 1 + 1, 2, none⟩ = _ := cell_of E 2
        have t3 : Y.cell? ⟨w.heap.size + 1 + 1, 3, none⟩ = _ := cell_of E 3
        simp at t0 t1 t2 t3
        exact bodyPost_ret (v := .tuple #[.agg #[.int .i64 0, .int .i64 0, .string ⟨#[]⟩, .slice none 0 0], .int .i64 3]) (by simp [results, Tryz.results94, go_sem, t0, t1, t2, t3]) rfl ⟨rfl, hbb⟩
  · have h6 : (k1 != k2) = true := by simp [h5]
    clear h1 h2 h3 h5
    go_enter Tryz.func94, Tryz.ntmps94
    go_wp2_with fail
    have E := (three_alloc w (.cells #[.int .i64 k1, .int .i64 n1, .string s1, .slice a1 l1 c1] 24) (.cells #[.int .i64 k2, .int .i64 n2, .string s2, .slice a2 l2 c2] 24) (.cells #[.int .i64 0, .int .i64 0, .string ⟨#[]⟩, .slice none 0 0] 24)).2.2
    have hbb : Below w.heap.size w (((w.alloc (.cells #[.int .i64 k1, .int .i64 n1, .string s1, .slice a1 l1 c1] 24)).alloc (.cells #[.int .i64 k2, .int .i64 n2, .string s2, .slice a2 l2 c2] 24)).alloc (.cells #[.int .i64 0, .int .i64 0, .string ⟨#[]⟩, .slice none 0 0] 24)) := (((Below.refl _ _).alloc (Nat.le_refl _) _).alloc (by simp) _).alloc (by simp; omega) _
    generalize (((w.alloc (.cells #[.int .i64 k1, .int .i64 n1, .string s1, .slice a1 l1 c1] 24)).alloc (.cells #[.int .i64 k2, .int .i64 n2, .string s2, .slice a2 l2 c2] 24)).alloc (.cells #[.int .i64 0, .int .i64 0, .string ⟨#[]⟩, .slice none 0 0] 24)) = Y at E hbb ⊢
    have t0 : Y.cell? ⟨w.heap.size + 1 + 1, 0, none⟩ = _ := cell_of E 0
    have t1 : Y.cell? ⟨w.heap.size + 1 + 1, 1, none⟩ = _ := cell_of E 1
    have t2 : Y.cell? ⟨w.heap.size + 1 + 1, 2, none⟩ = _ := cell_of E 2
    have t3 : Y.cell? ⟨w.heap.size + 1 + 1, 3, none⟩ = _ := cell_of E 3
    simp at t0 t1 t2 t3
    exact bodyPost_ret (v := .tuple #[.agg #[.int .i64 0, .int .i64 0, .string ⟨#[]⟩, .slice none 0 0], .int .i64 3]) (by simp [results, Tryz.results94, go_sem, t0, t1, t2, t3]) rfl ⟨rfl, hbb⟩

set_option maxHeartbeats 2000000 in
set_option maxRecDepth 100000 in
theorem joinTexts_short (s1 s2 : ByteArray) (w : World) (hs : s1.size + s2.size ≤ 4000) :
    Calls Tryz.prog 124 #[.string s1, .string s2] w fun e w' => e = .returned (.tuple #[.agg #[.int .i64 3, .int .i64 0, .string (s1 ++ s2), .slice none 0 0], .int .i64 0]) ∧ Below w.heap.size w w' := by
  have hs1 : ¬ ((4000 : Int) < (s1.size : Int) + (s2.size : Int)) := by omega
  go_enter Tryz.func124, Tryz.ntmps124
  go_wp2_with fail
  have E := alloc_new w (.cells #[.int .i64 3, .int .i64 0, .string (s1 ++ s2), .slice none 0 0] 24)
  have hbb : Below w.heap.size w (w.alloc (.cells #[.int .i64 3, .int .i64 0, .string (s1 ++ s2), .slice none 0 0] 24)) := (Below.refl _ _).alloc (Nat.le_refl _) _
  generalize w.alloc (.cells #[.int .i64 3, .int .i64 0, .string (s1 ++ s2), .slice none 0 0] 24) = Y at E hbb ⊢
  have t0 := cell_of E 0
  have t1 := cell_of E 1
  have t2 := cell_of E 2
  have t3 := cell_of E 3
  simp at t0 t1 t2 t3
  exact bodyPost_ret (v := .tuple #[.agg #[.int .i64 3, .int .i64 0, .string (s1 ++ s2), .slice none 0 0], .int .i64 0]) (by simp [results, Tryz.results124, go_sem, t0, t1, t2, t3]) rfl ⟨rfl, hbb⟩

set_option maxHeartbeats 2000000 in
set_option maxRecDepth 100000 in
theorem joinTexts_long (s1 s2 : ByteArray) (w : World) (hs : 4000 < s1.size + s2.size) (hm : s1.size + s2.size ≤ 9223372036854775807) :
    Calls Tryz.prog 124 #[.string s1, .string s2] w fun e w' => e = .returned (.tuple #[.agg #[.int .i64 0, .int .i64 0, .string ⟨#[]⟩, .slice none 0 0], .int .i64 2]) ∧ Below w.heap.size w w' := by
  have hs1 : (4000 : Int) < (s1.size : Int) + (s2.size : Int) := by omega
  go_enter Tryz.func124, Tryz.ntmps124
  go_wp2_with fail
  have E := alloc_new w (.cells #[.int .i64 0, .int .i64 0, .string ⟨#[]⟩, .slice none 0 0] 24)
  have hbb : Below w.heap.size w (w.alloc (.cells #[.int .i64 0, .int .i64 0, .string ⟨#[]⟩, .slice none 0 0] 24)) := (Below.refl _ _).alloc (Nat.le_refl _) _
  generalize w.alloc (.cells #[.int .i64 0, .int .i64 0, .string ⟨#[]⟩, .slice none 0 0] 24) = Y at E hbb ⊢
  have t0 := cell_of E 0
  have t1 := cell_of E 1
  have t2 := cell_of E 2
  have t3 := cell_of E 3
  simp at t0 t1 t2 t3
  exact bodyPost_ret (v := .tuple #[.agg #[.int .i64 0, .int .i64 0, .string ⟨#[]⟩, .slice none 0 0], .int .i64 2]) (by simp [results, Tryz.results124, go_sem, t0, t1, t2, t3]) rfl ⟨rfl, hbb⟩

set_option maxHeartbeats 2000000 in
set_option maxRecDepth 100000 in
theorem reckon_text (n1 n2 : Int) (s1 s2 : ByteArray) (a1 a2 : Option Addr) (l1 c1 l2 c2 : Nat) (w : World) (hs : s1.size + s2.size ≤ 4000) :
    Calls Tryz.prog 94 #[.string ⟨#[43]⟩, .agg #[.int .i64 3, .int .i64 n1, .string s1, .slice a1 l1 c1], .agg #[.int .i64 3, .int .i64 n2, .string s2, .slice a2 l2 c2]] w fun e w' => e = .returned (.tuple #[.agg #[.int .i64 3, .int .i64 0, .string (s1 ++ s2), .slice none 0 0], .int .i64 0]) ∧ Below w.heap.size w w' := by
  have HJ : Hid (∀ U, Calls Tryz.prog 124 #[.string s1, .string s2] U fun e w' => e = .returned (.tuple #[.agg #[.int .i64 3, .int .i64 0, .string (s1 ++ s2), .slice none 0 0], .int .i64 0]) ∧ Below U.heap.size U w') := fun U => joinTexts_short s1 s2 U hs
  have b0 : Below w.heap.size w (((w.alloc (.cells #[.int .i64 3, .int .i64 n1, .string s1, .slice a1 l1 c1] 24)).alloc (.cells #[.int .i64 3, .int .i64 n2, .string s2, .slice a2 l2 c2] 24)).alloc (.cells #[.int .i64 0, .int .i64 0, .string ⟨#[]⟩, .slice none 0 0] 24)) := (((Below.refl _ _).alloc (Nat.le_refl _) _).alloc (by simp) _).alloc (by simp; omega) _
  have q3 := (three_alloc w (.cells #[.int .i64 3, .int .i64 n1, .string s1, .slice a1 l1 c1] 24) (.cells #[.int .i64 3, .int .i64 n2, .string s2, .slice a2 l2 c2] 24) (.cells #[.int .i64 0, .int .i64 0, .string ⟨#[]⟩, .slice none 0 0] 24)).2.2
  have z0 : (((w.alloc (.cells #[.int .i64 3, .int .i64 n1, .string s1, .slice a1 l1 c1] 24)).alloc (.cells #[.int .i64 3, .int .i64 n2, .string s2, .slice a2 l2 c2] 24)).alloc (.cells #[.int .i64 0, .int .i64 0, .string ⟨#[]⟩, .slice none 0 0] 24)).heap.size = w.heap.size + 3 := by simp
  have HB0 := toHid b0
  have HQ3 := toHid q3
  have HZ0 := toHid z0
  clear b0 q3 z0
  go_enter Tryz.func94, Tryz.ntmps94
  go_wp2_with fail
  refine (HJ.out _).mono ?_
  generalize (((w.alloc (.cells #[.int .i64 3, .int .i64 n1, .string s1, .slice a1 l1 c1] 24)).alloc (.cells #[.int .i64 3, .int .i64 n2, .string s2, .slice a2 l2 c2] 24)).alloc (.cells #[.int .i64 0, .int .i64 0, .string ⟨#[]⟩, .slice none 0 0] 24)) = W at HB0 HQ3 HZ0 ⊢
  rintro e w1 ⟨rfl, k1⟩
  have hr := (k1.block (w.heap.size + 2) (by rw [HZ0.out]; omega)).trans HQ3.out
  have HK := toHid (HB0.out.trans (k1.mono HB0.out.size))
  have HR := toHid hr
  have r0 := cell_of hr 0
  have r1 := cell_of hr 1
  have r2 := cell_of hr 2
  have r3 := cell_of hr 3
  have f0 := free_of hr 0
  have f1 := free_of hr 1
  have f2 := free_of hr 2
  have f3 := free_of hr 3
  simp at r0 r1 r2 r3
  have sz2 : w.heap.size + 2 < w1.heap.size := (Array.getElem?_eq_some_iff.1 hr).1
  clear hr k1
  go_wp2_with fail
  have E := set4_here (b := w.heap.size + 1 + 1) HR.out (.int .i64 3) (.int .i64 0) (.string (s1 ++ s2)) (.slice none 0 0)
  have hbb : Below w.heap.size w ((((w1.setCell ⟨w.heap.size + 1 + 1, 0, none⟩ (.int .i64 3)).setCell ⟨w.heap.size + 1 + 1, 1, none⟩ (.int .i64 0)).setCell ⟨w.heap.size + 1 + 1, 2, none⟩ (.string (s1 ++ s2))).setCell ⟨w.heap.size + 1 + 1, 3, none⟩ (.slice none 0 0)) := (((HK.out.setCell (p := ⟨w.heap.size + 1 + 1, 0, none⟩) (by show w.heap.size ≤ w.heap.size + 1 + 1; omega) _).setCell (p := ⟨w.heap.size + 1 + 1, 1, none⟩) (by show w.heap.size ≤ w.heap.size + 1 + 1; omega) _).setCell (p := ⟨w.heap.size + 1 + 1, 2, none⟩) (by show w.heap.size ≤ w.heap.size + 1 + 1; omega) _).setCell (p := ⟨w.heap.size + 1 + 1, 3, none⟩) (by show w.heap.size ≤ w.heap.size + 1 + 1; omega) _
  generalize ((((w1.setCell ⟨w.heap.size + 1 + 1, 0, none⟩ (.int .i64 3)).setCell ⟨w.heap.size + 1 + 1, 1, none⟩ (.int .i64 0)).setCell ⟨w.heap.size + 1 + 1, 2, none⟩ (.string (s1 ++ s2))).setCell ⟨w.heap.size + 1 + 1, 3, none⟩ (.slice none 0 0)) = Y at E hbb ⊢
  have t0 := cell_of E 0
  have t1 := cell_of E 1
  have t2 := cell_of E 2
  have t3 := cell_of E 3
  simp at t0 t1 t2 t3
  exact bodyPost_ret (v := .tuple #[.agg #[.int .i64 3, .int .i64 0, .string (s1 ++ s2), .slice none 0 0], .int .i64 0]) (by simp [results, Tryz.results94, go_sem, t0, t1, t2, t3]) rfl ⟨rfl, hbb⟩

set_option maxHeartbeats 2000000 in
set_option maxRecDepth 100000 in
theorem reckon_long (n1 n2 : Int) (s1 s2 : ByteArray) (a1 a2 : Option Addr) (l1 c1 l2 c2 : Nat) (w : World) (hs : 4000 < s1.size + s2.size) (hm : s1.size + s2.size ≤ 9223372036854775807) :
    Calls Tryz.prog 94 #[.string ⟨#[43]⟩, .agg #[.int .i64 3, .int .i64 n1, .string s1, .slice a1 l1 c1], .agg #[.int .i64 3, .int .i64 n2, .string s2, .slice a2 l2 c2]] w fun e w' => e = .returned (.tuple #[.agg #[.int .i64 0, .int .i64 0, .string ⟨#[]⟩, .slice none 0 0], .int .i64 2]) ∧ Below w.heap.size w w' := by
  have HJ : Hid (∀ U, Calls Tryz.prog 124 #[.string s1, .string s2] U fun e w' => e = .returned (.tuple #[.agg #[.int .i64 0, .int .i64 0, .string ⟨#[]⟩, .slice none 0 0], .int .i64 2]) ∧ Below U.heap.size U w') := fun U => joinTexts_long s1 s2 U hs hm
  have b0 : Below w.heap.size w (((w.alloc (.cells #[.int .i64 3, .int .i64 n1, .string s1, .slice a1 l1 c1] 24)).alloc (.cells #[.int .i64 3, .int .i64 n2, .string s2, .slice a2 l2 c2] 24)).alloc (.cells #[.int .i64 0, .int .i64 0, .string ⟨#[]⟩, .slice none 0 0] 24)) := (((Below.refl _ _).alloc (Nat.le_refl _) _).alloc (by simp) _).alloc (by simp; omega) _
  have q3 := (three_alloc w (.cells #[.int .i64 3, .int .i64 n1, .string s1, .slice a1 l1 c1] 24) (.cells #[.int .i64 3, .int .i64 n2, .string s2, .slice a2 l2 c2] 24) (.cells #[.int .i64 0, .int .i64 0, .string ⟨#[]⟩, .slice none 0 0] 24)).2.2
  have z0 : (((w.alloc (.cells #[.int .i64 3, .int .i64 n1, .string s1, .slice a1 l1 c1] 24)).alloc (.cells #[.int .i64 3, .int .i64 n2, .string s2, .slice a2 l2 c2] 24)).alloc (.cells #[.int .i64 0, .int .i64 0, .string ⟨#[]⟩, .slice none 0 0] 24)).heap.size = w.heap.size + 3 := by simp
  have HB0 := toHid b0
  have HQ3 := toHid q3
  have HZ0 := toHid z0
  clear b0 q3 z0
  go_enter Tryz.func94, Tryz.ntmps94
  go_wp2_with fail
  refine (HJ.out _).mono ?_
  generalize (((w.alloc (.cells #[.int .i64 3, .int .i64 n1, .string s1, .slice a1 l1 c1] 24)).alloc (.cells #[.int .i64 3, .int .i64 n2, .string s2, .slice a2 l2 c2] 24)).alloc (.cells #[.int .i64 0, .int .i64 0, .string ⟨#[]⟩, .slice none 0 0] 24)) = W at HB0 HQ3 HZ0 ⊢
  rintro e w1 ⟨rfl, k1⟩
  have hr := (k1.block (w.heap.size + 2) (by rw [HZ0.out]; omega)).trans HQ3.out
  have HK := toHid (HB0.out.trans (k1.mono HB0.out.size))
  have HR := toHid hr
  have r0 := cell_of hr 0
  have r1 := cell_of hr 1
  have r2 := cell_of hr 2
  have r3 := cell_of hr 3
  have f0 := free_of hr 0
  have f1 := free_of hr 1
  have f2 := free_of hr 2
  have f3 := free_of hr 3
  simp at r0 r1 r2 r3
  have sz2 : w.heap.size + 2 < w1.heap.size := (Array.getElem?_eq_some_iff.1 hr).1
  clear hr k1
  go_wp2_with fail
  have E := set4_here (b := w.heap.size + 1 + 1) HR.out (.int .i64 0) (.int .i64 0) (.string ⟨#[]⟩) (.slice none 0 0)
  have hbb : Below w.heap.size w ((((w1.setCell ⟨w.heap.size + 1 + 1, 0, none⟩ (.int .i64 0)).setCell ⟨w.heap.size + 1 + 1, 1, none⟩ (.int .i64 0)).setCell ⟨w.heap.size + 1 + 1, 2, none⟩ (.string ⟨#[]⟩)).setCell ⟨w.heap.size + 1 + 1, 3, none⟩ (.slice none 0 0)) := (((HK.out.setCell (p := ⟨w.heap.size + 1 + 1, 0, none⟩) (by show w.heap.size ≤ w.heap.size + 1 + 1; omega) _).setCell (p := ⟨w.heap.size + 1 + 1, 1, none⟩) (by show w.heap.size ≤ w.heap.size + 1 + 1; omega) _).setCell (p := ⟨w.heap.size + 1 + 1, 2, none⟩) (by show w.heap.size ≤ w.heap.size + 1 + 1; omega) _).setCell (p := ⟨w.heap.size + 1 + 1, 3, none⟩) (by show w.heap.size ≤ w.heap.size + 1 + 1; omega) _
  generalize ((((w1.setCell ⟨w.heap.size + 1 + 1, 0, none⟩ (.int .i64 0)).setCell ⟨w.heap.size + 1 + 1, 1, none⟩ (.int .i64 0)).setCell ⟨w.heap.size + 1 + 1, 2, none⟩ (.string ⟨#[]⟩)).setCell ⟨w.heap.size + 1 + 1, 3, none⟩ (.slice none 0 0)) = Y at E hbb ⊢
  have t0 := cell_of E 0
  have t1 := cell_of E 1
  have t2 := cell_of E 2
  have t3 := cell_of E 3
  simp at t0 t1 t2 t3
  exact bodyPost_ret (v := .tuple #[.agg #[.int .i64 0, .int .i64 0, .string ⟨#[]⟩, .slice none 0 0], .int .i64 2]) (by simp [results, Tryz.results94, go_sem, t0, t1, t2, t3]) rfl ⟨rfl, hbb⟩
end Go.Proofs.YtbfhapmnnckkaaaGreatDoor
