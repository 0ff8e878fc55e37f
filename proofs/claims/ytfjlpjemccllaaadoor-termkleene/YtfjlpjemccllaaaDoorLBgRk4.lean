/-
  What is proved here: see the remark of the text BgRk4 (the parts of it that this seat needs).
-/
import Derived.Test.YtfjlpjemccllaaaDoorQTAQ
namespace Go.Proofs.YtfjlpjemccllaaaDoor
open Go.RowKit
set_option linter.unusedVariables false

set_option maxHeartbeats 2000000 in
set_option maxRecDepth 100000 in
theorem reckon_who (sign : ByteArray) (k1 k2 : Int) (n1 n2 : Int) (s1 s2 : ByteArray) (a1 a2 : Option Addr) (l1 c1 l2 c2 : Nat) (w : World) (h1 : (sign.toList == [43]) = false) (h2 : (sign.toList == [45]) = false) (h3 : (sign.toList == [42]) = false) :
    Calls Tryd.prog 58 #[.string sign, .agg #[.int .i64 k1, .int .i64 n1, .string s1, .slice a1 l1 c1], .agg #[.int .i64 k2, .int .i64 n2, .string s2, .slice a2 l2 c2]] w fun e w' => e = .returned (.tuple #[.agg #[.int .i64 0, .int .i64 0, .string ⟨#[]⟩, .slice none 0 0], .int .i64 5]) ∧ Below w.heap.size w w' := by
  go_enter Tryd.func58, Tryd.ntmps58
  go_wp2_with fail
  have E := (three_alloc w (.cells #[.int .i64 k1, .int .i64 n1, .string s1, .slice a1 l1 c1] 30) (.cells #[.int .i64 k2, .int .i64 n2, .string s2, .slice a2 l2 c2] 30) (.cells #[.int .i64 0, .int .i64 0, .string ⟨#[]⟩, .slice none 0 0] 30)).2.2
  have hbb : Below w.heap.size w (((w.alloc (.cells #[.int .i64 k1, .int .i64 n1, .string s1, .slice a1 l1 c1] 30)).alloc (.cells #[.int .i64 k2, .int .i64 n2, .string s2, .slice a2 l2 c2] 30)).alloc (.cells #[.int .i64 0, .int .i64 0, .string ⟨#[]⟩, .slice none 0 0] 30)) := (((Below.refl _ _).alloc (Nat.le_refl _) _).alloc (by simp) _).alloc (by simp; omega) _
  generalize (((w.alloc (.cells #[.int .i64 k1, .int .i64 n1, .string s1, .slice a1 l1 c1] 30)).alloc (.cells #[.int .i64 k2, .int .i64 n2, .string s2, .slice a2 l2 c2] 30)).alloc (.cells #[.int .i64 0, .int .i64 0, .string ⟨#[]⟩, .slice none 0 0] 30)) = Y at E hbb ⊢
  have t0 : Y.cell? ⟨w.heap.size + 1 + 1, 0, none⟩ = _ := cell_of E 0
  have t1 : Y.cell? ⟨w.heap.size + 1 + 1, 1, none⟩ = _ := cell_of E 1
  have t2 : Y.cell? ⟨w.heap.size + 1 + 1, 2, none⟩ = _ := cell_of E 2
  have t3 : Y.cell? ⟨w.heap.size + 1 + 1, 3, none⟩ = _ := cell_of E 3
  simp at t0 t1 t2 t3
  exact bodyPost_ret (v := .tuple #[.agg #[.int .i64 0, .int .i64 0, .string ⟨#[]⟩, .slice none 0 0], .int .i64 5]) (by simp [results, Tryd.results58, go_sem, t0, t1, t2, t3]) rfl ⟨rfl, hbb⟩

set_option maxHeartbeats 2000000 in
set_option maxRecDepth 100000 in
theorem reckon_null_add (k1 k2 : Int) (n1 n2 : Int) (s1 s2 : ByteArray) (a1 a2 : Option Addr) (l1 c1 l2 c2 : Nat) (w : World) (h : k1 = 0 ∨ k2 = 0) :
    Calls Tryd.prog 58 #[.string ⟨#[43]⟩, .agg #[.int .i64 k1, .int .i64 n1, .string s1, .slice a1 l1 c1], .agg #[.int .i64 k2, .int .i64 n2, .string s2, .slice a2 l2 c2]] w fun e w' => e = .returned (.tuple #[.agg #[.int .i64 0, .int .i64 0, .string ⟨#[]⟩, .slice none 0 0], .int .i64 0]) ∧ Below w.heap.size w w' := by
  by_cases h1 : k1 = 0
  · subst h1
    clear h
    go_enter Tryd.func58, Tryd.ntmps58
    go_wp2_with fail
    have E := (three_alloc w (.cells #[.int .i64 0, .int .i64 n1, .string s1, .slice a1 l1 c1] 30) (.cells #[.int .i64 k2, .int .i64 n2, .string s2, .slice a2 l2 c2] 30) (.cells #[.int .i64 0, .int .i64 0, .string ⟨#[]⟩, .slice none 0 0] 30)).2.2
    have hbb : Below w.heap.size w (((w.alloc (.cells #[.int .i64 0, .int .i64 n1, .string s1, .slice a1 l1 c1] 30)).alloc (.cells #[.int .i64 k2, .int .i64 n2, .string s2, .slice a2 l2 c2] 30)).alloc (.cells #[.int .i64 0, .int .i64 0, .string ⟨#[]⟩, .slice none 0 0] 30)) := (((Below.refl _ _).alloc (Nat.le_refl _) _).alloc (by simp) _).alloc (by simp; omega) _
    generalize (((w.alloc (.cells #[.int .i64 0, .int .i64 n1, .string s1, .slice a1 l1 c1] 30)).alloc (.cells #[.int .i64 k2, .int .i64 n2, .string s2, .slice a2 l2 c2] 30)).alloc (.cells #[.int .i64 0, .int .i64 0, .string ⟨#[]⟩, .slice none 0 0] 30)) = Y at E hbb ⊢
    have t0 : Y.cell? ⟨w.heap.size + 1 + 1, 0, none⟩ = _ := cell_of E 0
    have t1 : Y.cell? ⟨w.heap.size + 1 + 1, 1, none⟩ = _ := cell_of E 1
    have t2 : Y.cell? ⟨w.heap.size + 1 + 1, 2, none⟩ = _ := cell_of E 2
    have t3 : Y.cell? ⟨w.heap.size + 1 + 1, 3, none⟩ = _ := cell_of E 3
    simp at t0 t1 t2 t3
    exact bodyPost_ret (v := .tuple #[.agg #[.int .i64 0, .int .i64 0, .string ⟨#[]⟩, .slice none 0 0], .int .i64 0]) (by simp [results, Tryd.results58, go_sem, t0, t1, t2, t3]) rfl ⟨rfl, hbb⟩
  · have h2 : k2 = 0 := h.resolve_left h1
    subst h2
    have h1' : (k1 == 0) = false := by simp [h1]
    clear h
    go_enter Tryd.func58, Tryd.ntmps58
    go_wp2_with fail
    have E := (three_alloc w (.cells #[.int .i64 k1, .int .i64 n1, .string s1, .slice a1 l1 c1] 30) (.cells #[.int .i64 0, .int .i64 n2, .string s2, .slice a2 l2 c2] 30) (.cells #[.int .i64 0, .int .i64 0, .string ⟨#[]⟩, .slice none 0 0] 30)).2.2
    have hbb : Below w.heap.size w (((w.alloc (.cells #[.int .i64 k1, .int .i64 n1, .string s1, .slice a1 l1 c1] 30)).alloc (.cells #[.int .i64 0, .int .i64 n2, .string s2, .slice a2 l2 c2] 30)).alloc (.cells #[.int .i64 0, .int .i64 0, .string ⟨#[]⟩, .slice none 0 0] 30)) := (((Below.refl _ _).alloc (Nat.le_refl _) _).alloc (by simp) _).alloc (by simp; omega) _
    generalize (((w.alloc (.cells #[.int .i64 k1, .int .i64 n1, .string s1, .slice a1 l1 c1] 30)).alloc (.cells #[.int .i64 0, .int .i64 n2, .string s2, .slice a2 l2 c2] 30)).alloc (.cells #[.int .i64 0, .int .i64 0, .string ⟨#[]⟩, .slice none 0 0] 30)) = Y at E hbb ⊢
    have t0 : Y.cell? ⟨w.heap.size + 1 + 1, 0, none⟩ = _ := cell_of E 0
    have t1 : Y.cell? ⟨w.heap.size + 1 + 1, 1, none⟩ = _ := cell_of E 1
    have t2 : Y.cell? ⟨w.heap.size + 1 + 1, 2, none⟩ = _ := cell_of E 2
    have t3 : Y.cell? ⟨w.heap.size + 1 + 1, 3, none⟩ = _ := cell_of E 3
    simp at t0 t1 t2 t3
    exact bodyPost_ret (v := .tuple #[.agg #[.int .i64 0, .int .i64 0, .string ⟨#[]⟩, .slice none 0 0], .int .i64 0]) (by simp [results, Tryd.results58, go_sem, t0, t1, t2, t3]) rfl ⟨rfl, hbb⟩

set_option maxHeartbeats 2000000 in
set_option maxRecDepth 100000 in
theorem reckon_kind_add (k1 k2 : Int) (n1 n2 : Int) (s1 s2 : ByteArray) (a1 a2 : Option Addr) (l1 c1 l2 c2 : Nat) (w : World) (h1 : k1 ≠ 0) (h2 : k2 ≠ 0) (h3 : ¬ (k1 = 2 ∧ k2 = 2)) (h4 : k1 ≠ k2 ∨ (k1 ≠ 3 ∧ k1 ≠ 4)) :
    Calls Tryd.prog 58 #[.string ⟨#[43]⟩, .agg #[.int .i64 k1, .int .i64 n1, .string s1, .slice a1 l1 c1], .agg #[.int .i64 k2, .int .i64 n2, .string s2, .slice a2 l2 c2]] w fun e w' => e = .returned (.tuple #[.agg #[.int .i64 0, .int .i64 0, .string ⟨#[]⟩, .slice none 0 0], .int .i64 3]) ∧ Below w.heap.size w w' := by
  have h1' : (k1 == 0) = false := by simp [h1]
  have h2' : (k2 == 0) = false := by simp [h2]
  by_cases h5 : k1 = k2
  · subst h5
    have h7 : (k1 == 2) = false := by simp; omega
    have h6 : k1 ≠ 3 ∧ k1 ≠ 4 := h4.resolve_left (fun h => h rfl)
    have h8 : (k1 == 3) = false := by simp [h6.1]
    have h9 : (k1 == 4) = false := by simp [h6.2]
    clear h1 h2 h3 h4 h6
    go_enter Tryd.func58, Tryd.ntmps58
    go_wp2_with fail
    have E := (three_alloc w (.cells #[.int .i64 k1, .int .i64 n1, .string s1, .slice a1 l1 c1] 30) (.cells #[.int .i64 k1, .int .i64 n2, .string s2, .slice a2 l2 c2] 30) (.cells #[.int .i64 0, .int .i64 0, .string ⟨#[]⟩, .slice none 0 0] 30)).2.2
    have hbb : Below w.heap.size w (((w.alloc (.cells #[.int .i64 k1, .int .i64 n1, .string s1, .slice a1 l1 c1] 30)).alloc (.cells #[.int .i64 k1, .int .i64 n2, .string s2, .slice a2 l2 c2] 30)).alloc (.cells #[.int .i64 0, .int .i64 0, .string ⟨#[]⟩, .slice none 0 0] 30)) := (((Below.refl _ _).alloc (Nat.le_refl _) _).alloc (by simp) _).alloc (by simp; omega) _
    generalize (((w.alloc (.cells #[.int .i64 k1, .int .i64 n1, .string s1, .slice a1 l1 c1] 30)).alloc (.cells #[.int .i64 k1, .int .i64 n2, .string s2, .slice a2 l2 c2] 30)).alloc (.cells #[.int .i64 0, .int .i64 0, .string ⟨#[]⟩, .slice none 0 0] 30)) = Y at E hbb ⊢
    have t0 : Y.cell? ⟨w.heap.size + 1 + 1, 0, none⟩ = _ := cell_of E 0
    have t1 : Y.cell? ⟨w.heap.size + 1 + 1, 1, none⟩ = _ := cell_of E 1
    have t2 : Y.cell? ⟨w.heap.size + 1 + 1, 2, none⟩ = _ := cell_of E 2
    have t3 : Y.cell? ⟨w.heap.size + 1 + 1, 3, none⟩ = _ := cell_of E 3
    simp at t0 t1 t2 t3
    exact bodyPost_ret (v := .tuple #[.agg #[.int .i64 0, .int .i64 0, .string ⟨#[]⟩, .slice none 0 0], .int .i64 3]) (by simp [results, Tryd.results58, go_sem, t0, t1, t2, t3]) rfl ⟨rfl, hbb⟩
  · have h6 : (k1 != k2) = true := by simp [h5]
    clear h1 h2 h3 h5 h4
    go_enter Tryd.func58, Tryd.ntmps58
    go_wp2_with fail
    have E := (three_alloc w (.cells #[.int .i64 k1, .int .i64 n1, .string s1, .slice a1 l1 c1] 30) (.cells #[.int .i64 k2, .int .i64 n2, .string s2, .slice a2 l2 c2] 30) (.cells #[.int .i64 0, .int .i64 0, .string ⟨#[]⟩, .slice none 0 0] 30)).2.2
    have hbb : Below w.heap.size w (((w.alloc (.cells #[.int .i64 k1, .int .i64 n1, .string s1, .slice a1 l1 c1] 30)).alloc (.cells #[.int .i64 k2, .int .i64 n2, .string s2, .slice a2 l2 c2] 30)).alloc (.cells #[.int .i64 0, .int .i64 0, .string ⟨#[]⟩, .slice none 0 0] 30)) := (((Below.refl _ _).alloc (Nat.le_refl _) _).alloc (by simp) _).alloc (by simp; omega) _
    generalize (((w.alloc (.cells #[.int .i64 k1, .int .i64 n1, .string s1, .slice a1 l1 c1] 30)).alloc (.cells #[.int .i64 k2, .int .i64 n2, .string s2, .slice a2 l2 c2] 30)).alloc (.cells #[.int .i64 0, .int .i64 0, .string ⟨#[]⟩, .slice none 0 0] 30)) = Y at E hbb ⊢
    have t0 : Y.cell? ⟨w.heap.size + 1 + 1, 0, none⟩ = _ := cell_of E 0
    have t1 : Y.cell? ⟨w.heap.size + 1 + 1, 1, none⟩ = _ := cell_of E 1
    have t2 : Y.cell? ⟨w.heap.size + 1 + 1, 2, none⟩ = _ := cell_of E 2
    have t3 : Y.cell? ⟨w.heap.size + 1 + 1, 3, none⟩ = _ := cell_of E 3
    simp at t0 t1 t2 t3
    exact bodyPost_ret (v := .tuple #[.agg #[.int .i64 0, .int .i64 0, .string ⟨#[]⟩, .slice none 0 0], .int .i64 3]) (by simp [results, Tryd.results58, go_sem, t0, t1, t2, t3]) rfl ⟨rfl, hbb⟩

set_option maxHeartbeats 2000000 in
set_option maxRecDepth 100000 in
theorem reckon_null_sub (k1 k2 : Int) (n1 n2 : Int) (s1 s2 : ByteArray) (a1 a2 : Option Addr) (l1 c1 l2 c2 : Nat) (w : World) (h : k1 = 0 ∨ k2 = 0) :
    Calls Tryd.prog 58 #[.string ⟨#[45]⟩, .agg #[.int .i64 k1, .int .i64 n1, .string s1, .slice a1 l1 c1], .agg #[.int .i64 k2, .int .i64 n2, .string s2, .slice a2 l2 c2]] w fun e w' => e = .returned (.tuple #[.agg #[.int .i64 0, .int .i64 0, .string ⟨#[]⟩, .slice none 0 0], .int .i64 0]) ∧ Below w.heap.size w w' := by
  by_cases h1 : k1 = 0
  · subst h1
    clear h
    go_enter Tryd.func58, Tryd.ntmps58
    go_wp2_with fail
    have E := (three_alloc w (.cells #[.int .i64 0, .int .i64 n1, .string s1, .slice a1 l1 c1] 30) (.cells #[.int .i64 k2, .int .i64 n2, .string s2, .slice a2 l2 c2] 30) (.cells #[.int .i64 0, .int .i64 0, .string ⟨#[]⟩, .slice none 0 0] 30)).2.2
    have hbb : Below w.heap.size w (((w.alloc (.cells #[.int .i64 0, .int .i64 n1, .string s1, .slice a1 l1 c1] 30)).alloc (.cells #[.int .i64 k2, .int .i64 n2, .string s2, .slice a2 l2 c2] 30)).alloc (.cells #[.int .i64 0, .int .i64 0, .string ⟨#[]⟩, .slice none 0 0] 30)) := (((Below.refl _ _).alloc (Nat.le_refl _) _).alloc (by simp) _).alloc (by simp; omega) _
    generalize (((w.alloc (.cells #[.int .i64 0, .int .i64 n1, .string s1, .slice a1 l1 c1] 30)).alloc (.cells #[.int .i64 k2, .int .i64 n2, .string s2, .slice a2 l2 c2] 30)).alloc (.cells #[.int .i64 0, .int .i64 0, .string ⟨#[]⟩, .slice none 0 0] 30)) = Y at E hbb ⊢
    have t0 : Y.cell? ⟨w.heap.size + 1 + 1, 0, none⟩ = _ := cell_of E 0
    have t1 : Y.cell? ⟨w.heap.size + 1 + 1, 1, none⟩ = _ := cell_of E 1
    have t2 : Y.cell? ⟨w.heap.size + 1 + 1, 2, none⟩ = _ := cell_of E 2
    have t3 : Y.cell? ⟨w.heap.size + 1 + 1, 3, none⟩ = _ := cell_of E 3
    simp at t0 t1 t2 t3
    exact bodyPost_ret (v := .tuple #[.agg #[.int .i64 0, .int .i64 0, .string ⟨#[]⟩, .slice none 0 0], .int .i64 0]) (by simp [results, Tryd.results58, go_sem, t0, t1, t2, t3]) rfl ⟨rfl, hbb⟩
  · have h2 : k2 = 0 := h.resolve_left h1
    subst h2
    have h1' : (k1 == 0) = false := by simp [h1]
    clear h
    go_enter Tryd.func58, Tryd.ntmps58
    go_wp2_with fail
    have E := (three_alloc w (.cells #[.int .i64 k1, .int .i64 n1, .string s1, .slice a1 l1 c1] 30) (.cells #[.int .i64 0, .int .i64 n2, .string s2, .slice a2 l2 c2] 30) (.cells #[.int .i64 0, .int .i64 0, .string ⟨#[]⟩, .slice none 0 0] 30)).2.2
    have hbb : Below w.heap.size w (((w.alloc (.cells #[.int .i64 k1, .int .i64 n1, .string s1, .slice a1 l1 c1] 30)).alloc (.cells #[.int .i64 0, .int .i64 n2, .string s2, .slice a2 l2 c2] 30)).alloc (.cells #[.int .i64 0, .int .i64 0, .string ⟨#[]⟩, .slice none 0 0] 30)) := (((Below.refl _ _).alloc (Nat.le_refl _) _).alloc (by simp) _).alloc (by simp; omega) _
    generalize (((w.alloc (.cells #[.int .i64 k1, .int .i64 n1, .string s1, .slice a1 l1 c1] 30)).alloc (.cells #[.int .i64 0, .int .i64 n2, .string s2, .slice a2 l2 c2] 30)).alloc (.cells #[.int .i64 0, .int .i64 0, .string ⟨#[]⟩, .slice none 0 0] 30)) = Y at E hbb ⊢
    have t0 : Y.cell? ⟨w.heap.size + 1 + 1, 0, none⟩ = _ := cell_of E 0
    have t1 : Y.cell? ⟨w.heap.size + 1 + 1, 1, none⟩ = _ := cell_of E 1
    have t2 : Y.cell? ⟨w.heap.size + 1 + 1, 2, none⟩ = _ := cell_of E 2
    have t3 : Y.cell? ⟨w.heap.size + 1 + 1, 3, none⟩ = _ := cell_of E 3
    simp at t0 t1 t2 t3
    exact bodyPost_ret (v := .tuple #[.agg #[.int .i64 0, .int .i64 0, .string ⟨#[]⟩, .slice none 0 0], .int .i64 0]) (by simp [results, Tryd.results58, go_sem, t0, t1, t2, t3]) rfl ⟨rfl, hbb⟩

set_option maxHeartbeats 2000000 in
set_option maxRecDepth 100000 in
theorem reckon_kind_sub (k1 k2 : Int) (n1 n2 : Int) (s1 s2 : ByteArray) (a1 a2 : Option Addr) (l1 c1 l2 c2 : Nat) (w : World) (h1 : k1 ≠ 0) (h2 : k2 ≠ 0) (h3 : ¬ (k1 = 2 ∧ k2 = 2)) :
    Calls Tryd.prog 58 #[.string ⟨#[45]⟩, .agg #[.int .i64 k1, .int .i64 n1, .string s1, .slice a1 l1 c1], .agg #[.int .i64 k2, .int .i64 n2, .string s2, .slice a2 l2 c2]] w fun e w' => e = .returned (.tuple #[.agg #[.int .i64 0, .int .i64 0, .string ⟨#[]⟩, .slice none 0 0], .int .i64 3]) ∧ Below w.heap.size w w' := by
  have h1' : (k1 == 0) = false := by simp [h1]
  have h2' : (k2 == 0) = false := by simp [h2]
  by_cases h5 : k1 = k2
  · subst h5
    have h7 : (k1 == 2) = false := by simp; omega
    clear h1 h2 h3
    by_cases h8 : k1 = 3
    · subst h8
      go_enter Tryd.func58, Tryd.ntmps58
      go_wp2_with fail
      have E := (three_alloc w (.cells #[.int .i64 3, .int .i64 n1, .string s1, .slice a1 l1 c1] 30) (.cells #[.int .i64 3, .int .i64 n2, .string s2, .slice a2 l2 c2] 30) (.cells #[.int .i64 0, .int .i64 0, .string ⟨#[]⟩, .slice none 0 0] 30)).2.2
      have hbb : Below w.heap.size w (((w.alloc (.cells #[.int .i64 3, .int .i64 n1, .string s1, .slice a1 l1 c1] 30)).alloc (.cells #[.int .i64 3, .int .i64 n2, .string s2, .slice a2 l2 c2] 30)).alloc (.cells #[.int .i64 0, .int .i64 0, .string ⟨#[]⟩, .slice none 0 0] 30)) := (((Below.refl _ _).alloc (Nat.le_refl _) _).alloc (by simp) _).alloc (by simp; omega) _
      generalize (((w.alloc (.cells #[.int .i64 3, .int .i64 n1, .string s1, .slice a1 l1 c1] 30)).alloc (.cells #[.int .i64 3, .int .i64 n2, .string s2, .slice a2 l2 c2] 30)).alloc (.cells #[.int .i64 0, .int .i64 0, .string ⟨#[]⟩, .slice none 0 0] 30)) = Y at E hbb ⊢
      have t0 : Y.cell? ⟨w.heap.size + 1 + 1, 0, none⟩ = _ := cell_of E 0
      have t1 : Y.cell? ⟨w.heap.size + 1 + 1, 1, none⟩ = _ := cell_of E 1
      have t2 : Y.cell? ⟨w.heap.size + 1 + 1, 2, none⟩ = _ := cell_of E 2
      have t3 : Y.cell? ⟨w.heap.size + 1 + 1, 3, none⟩ = _ := cell_of E 3
      simp at t0 t1 t2 t3
      exact bodyPost_ret (v := .tuple #[.agg #[.int .i64 0, .int .i64 0, .string ⟨#[]⟩, .slice none 0 0], .int .i64 3]) (by simp [results, Tryd.results58, go_sem, t0, t1, t2, t3]) rfl ⟨rfl, hbb⟩
    · have h8' : (k1 == 3) = false := by simp [h8]
      by_cases h9 : k1 = 4
      · subst h9
        go_enter Tryd.func58, Tryd.ntmps58
        go_wp2_with fail
        have E := (three_alloc w (.cells #[.int .i64 4, .int .i64 n1, .string s1, .slice a1 l1 c1] 30) (.cells #[.int .i64 4, .int .i64 n2, .string s2, .slice a2 l2 c2] 30) (.cells #[.int .i64 0, .int .i64 0, .string ⟨#[]⟩, .slice none 0 0] 30)).2.2
        have hbb : Below w.heap.size w (((w.alloc (.cells #[.int .i64 4, .int .i64 n1, .string s1, .slice a1 l1 c1] 30)).alloc (.cells #[.int .i64 4, .int .i64 n2, .string s2, .slice a2 l2 c2] 30)).alloc (.cells #[.int .i64 0, .int .i64 0, .string ⟨#[]⟩, .slice none 0 0] 30)) := (((Below.refl _ _).alloc (Nat.le_refl _) _).alloc (by simp) _).alloc (by simp; omega) _
        generalize (((w.alloc (.cells #[.int .i64 4, .int .i64 n1, .string s1, .slice a1 l1 c1] 30)).alloc (.cells #[.int .i64 4, .int .i64 n2, .string s2, .slice a2 l2 c2] 30)).alloc (.cells #[.int .i64 0, .int .i64 0, .string ⟨#[]⟩, .slice none 0 0] 30)) = Y at E hbb ⊢
        have t0 : Y.cell? ⟨w.heap.size + 1 + 1, 0, none⟩ = _ := cell_of E 0
        have t1 : Y.cell? ⟨w.heap.size + 1 + 1, 1, none⟩ = _ := cell_of E 1
        have t2 : Y.cell? ⟨w.heap.size + 1 + 1, 2, none⟩ = _ := cell_of E 2
        have t3 : Y.cell? ⟨w.heap.size + 1 + 1, 3, none⟩ = _ := cell_of E 3
        simp at t0 t1 t2 t3
        exact bodyPost_ret (v := .tuple #[.agg #[.int .i64 0, .int .i64 0, .string ⟨#[]⟩, .slice none 0 0], .int .i64 3]) (by simp [results, Tryd.results58, go_sem, t0, t1, t2, t3]) rfl ⟨rfl, hbb⟩
      · have h9' : (k1 == 4) = false := by simp [h9]
        clear h8 h9
        go_enter Tryd.func58, Tryd.ntmps58
        go_wp2_with fail
        have E := (three_alloc w (.cells #[.int .i64 k1, .int .i64 n1, .string s1, .slice a1 l1 c1] 30) (.cells #[.int .i64 k1, .int .i64 n2, .string s2, .slice a2 l2 c2] 30) (.cells #[.int .i64 0, .int .i64 0, .string ⟨#[]⟩, .slice none 0 0] 30)).2.2
        have hbb : Below w.heap.size w (((w.alloc (.cells #[.int .i64 k1, .int .i64 n1, .string s1, .slice a1 l1 c1] 30)).alloc (.cells #[.int .i64 k1, .int .i64 n2, .string s2, .slice a2 l2 c2] 30)).alloc (.cells #[.int .i64 0, .int .i64 0, .string ⟨#[]⟩, .slice none 0 0] 30)) := (((Below.refl _ _).alloc (Nat.le_refl _) _).alloc (by simp) _).alloc (by simp; omega) _
        generalize (((w.alloc (.cells #[.int .i64 k1, .int .i64 n1, .string s1, .slice a1 l1 c1] 30)).alloc (.cells #[.int .i64 k1, .int .i64 n2, .string s2, .slice a2 l2 c2] 30)).alloc (.cells #[.int .i64 0, .int .i64 0, .string ⟨#[]⟩, .slice none 0 0] 30)) = Y at E hbb ⊢
        have t0 : Y.cell? ⟨w.heap.size + 1 + 1, 0, none⟩ = _ := cell_of E 0
        have t1 : Y.cell? ⟨w.heap.size + 1 + 1, 1, none⟩ = _ := cell_of E 1
        have t2 : Y.cell? ⟨w.heap.size + 1 + 1, 2, none⟩ = _ := cell_of E 2
        have t3 : Y.cell? ⟨w.heap.size + 1 + 1, 3, none⟩ = _ := cell_of E 3
        simp at t0 t1 t2 t3
        exact bodyPost_ret (v := .tuple #[.agg #[.int .i64 0, .int .i64 0, .string ⟨#[]⟩, .slice none 0 0], .int .i64 3]) (by simp [results, Tryd.results58, go_sem, t0, t1, t2, t3]) rfl ⟨rfl, hbb⟩
  · have h6 : (k1 != k2) = true := by simp [h5]
    clear h1 h2 h3 h5
    go_enter Tryd.func58, Tryd.ntmps58
    go_wp2_with fail
    have E := (three_alloc w (.cells #[.int .i64 k1, .int .i64 n1, .string s1, .slice a1 l1 c1] 30) (.cells #[.int .i64 k2, .int .i64 n2, .string s2, .slice a2 l2 c2] 30) (.cells #[.int .i64 0, .int .i64 0, .string ⟨#[]⟩, .slice none 0 0] 30)).2.2
    have hbb : Below w.heap.size w (((w.alloc (.cells #[.int .i64 k1, .int .i64 n1, .string s1, .slice a1 l1 c1] 30)).alloc (.cells #[.int .i64 k2, .int .i64 n2, .string s2, .slice a2 l2 c2] 30)).alloc (.cells #[.int .i64 0, .int .i64 0, .string ⟨#[]⟩, .slice none 0 0] 30)) := (((Below.refl _ _).alloc (Nat.le_refl _) _).alloc (by simp) _).alloc (by simp; omega) _
    generalize (((w.alloc (.cells #[.int .i64 k1, .int .i64 n1, .string s1, .slice a1 l1 c1] 30)).alloc (.cells #[.int .i64 k2, .int .i64 n2, .string s2, .slice a2 l2 c2] 30)).alloc (.cells #[.int .i64 0, .int .i64 0, .string ⟨#[]⟩, .slice none 0 0] 30)) = Y at E hbb ⊢
    have t0 : Y.cell? ⟨w.heap.size + 1 + 1, 0, none⟩ = _ := cell_of E 0
    have t1 : Y.cell? ⟨w.heap.size + 1 + 1, 1, none⟩ = _ := cell_of E 1
    have t2 : Y.cell? ⟨w.heap.size + 1 + 1, 2, none⟩ = _ := cell_of E 2
    have t3 : Y.cell? ⟨w.heap.size + 1 + 1, 3, none⟩ = _ := cell_of E 3
    simp at t0 t1 t2 t3
    exact bodyPost_ret (v := .tuple #[.agg #[.int .i64 0, .int .i64 0, .string ⟨#[]⟩, .slice none 0 0], .int .i64 3]) (by simp [results, Tryd.results58, go_sem, t0, t1, t2, t3]) rfl ⟨rfl, hbb⟩

set_option maxHeartbeats 2000000 in
set_option maxRecDepth 100000 in
theorem reckon_null_mul (k1 k2 : Int) (n1 n2 : Int) (s1 s2 : ByteArray) (a1 a2 : Option Addr) (l1 c1 l2 c2 : Nat) (w : World) (h : k1 = 0 ∨ k2 = 0) :
    Calls Tryd.prog 58 #[.string ⟨#[42]⟩, .agg #[.int .i64 k1, .int .i64 n1, .string s1, .slice a1 l1 c1], .agg #[.int .i64 k2, .int .i64 n2, .string s2, .slice a2 l2 c2]] w fun e w' => e = .returned (.tuple #[.agg #[.int .i64 0, .int .i64 0, .string ⟨#[]⟩, .slice none 0 0], .int .i64 0]) ∧ Below w.heap.size w w' := by
  by_cases h1 : k1 = 0
  · subst h1
    clear h
    go_enter Tryd.func58, Tryd.ntmps58
    go_wp2_with fail
    have E := (three_alloc w (.cells #[.int .i64 0, .int .i64 n1, .string s1, .slice a1 l1 c1] 30) (.cells #[.int .i64 k2, .int .i64 n2, .string s2, .slice a2 l2 c2] 30) (.cells #[.int .i64 0, .int .i64 0, .string ⟨#[]⟩, .slice none 0 0] 30)).2.2
    have hbb : Below w.heap.size w (((w.alloc (.cells #[.int .i64 0, .int .i64 n1, .string s1, .slice a1 l1 c1] 30)).alloc (.cells #[.int .i64 k2, .int .i64 n2, .string s2, .slice a2 l2 c2] 30)).alloc (.cells #[.int .i64 0, .int .i64 0, .string ⟨#[]⟩, .slice none 0 0] 30)) := (((Below.refl _ _).alloc (Nat.le_refl _) _).alloc (by simp) _).alloc (by simp; omega) _
    generalize (((w.alloc (.cells #[.int .i64 0, .int .i64 n1, .string s1, .slice a1 l1 c1] 30)).alloc (.cells #[.int .i64 k2, .int .i64 n2, .string s2, .slice a2 l2 c2] 30)).alloc (.cells #[.int .i64 0, .int .i64 0, .string ⟨#[]⟩, .slice none 0 0] 30)) = Y at E hbb ⊢
    have t0 : Y.cell? ⟨w.heap.size + 1 + 1, 0, none⟩ = _ := cell_of E 0
    have t1 : Y.cell? ⟨w.heap.size + 1 + 1, 1, none⟩ = _ := cell_of E 1
    have t2 : Y.cell? ⟨w.heap.size + 1 + 1, 2, none⟩ = _ := cell_of E 2
    have t3 : Y.cell? ⟨w.heap.size + 1 + 1, 3, none⟩ = _ := cell_of E 3
    simp at t0 t1 t2 t3
    exact bodyPost_ret (v := .tuple #[.agg #[.int .i64 0, .int .i64 0, .string ⟨#[]⟩, .slice none 0 0], .int .i64 0]) (by simp [results, Tryd.results58, go_sem, t0, t1, t2, t3]) rfl ⟨rfl, hbb⟩
  · have h2 : k2 = 0 := h.resolve_left h1
    subst h2
    have h1' : (k1 == 0) = false := by simp [h1]
    clear h
    go_enter Tryd.func58, Tryd.ntmps58
    go_wp2_with fail
    have E := (three_alloc w (.cells #[.int .i64 k1, .int .i64 n1, .string s1, .slice a1 l1 c1] 30) (.cells #[.int .i64 0, .int .i64 n2, .string s2, .slice a2 l2 c2] 30) (.cells #[.int .i64 0, .int .i64 0, .string ⟨#[]⟩, .slice none 0 0] 30)).2.2
    have hbb : Below w.heap.size w (((w.alloc (.cells #[.int .i64 k1, .int .i64 n1, .string s1, .slice a1 l1 c1] 30)).alloc (.cells #[.int .i64 0, .int .i64 n2, .string s2, .slice a2 l2 c2] 30)).alloc (.cells #[.int .i64 0, .int .i64 0, .string ⟨#[]⟩, .slice none 0 0] 30)) := (((Below.refl _ _).alloc (Nat.le_refl _) _).alloc (by simp) _).alloc (by simp; omega) _
    generalize (((w.alloc (.cells #[.int .i64 k1, .int .i64 n1, .string s1, .slice a1 l1 c1] 30)).alloc (.cells #[.int .i64 0, .int .i64 n2, .string s2, .slice a2 l2 c2] 30)).alloc (.cells #[.int .i64 0, .int .i64 0, .string ⟨#[]⟩, .slice none 0 0] 30)) = Y at E hbb ⊢
    have t0 : Y.cell? ⟨w.heap.size + 1 + 1, 0, none⟩ = _ := cell_of E 0
    have t1 : Y.cell? ⟨w.heap.size + 1 + 1, 1, none⟩ = _ := cell_of E 1
    have t2 : Y.cell? ⟨w.heap.size + 1 + 1, 2, none⟩ = _ := cell_of E 2
    have t3 : Y.cell? ⟨w.heap.size + 1 + 1, 3, none⟩ = _ := cell_of E 3
    simp at t0 t1 t2 t3
    exact bodyPost_ret (v := .tuple #[.agg #[.int .i64 0, .int .i64 0, .string ⟨#[]⟩, .slice none 0 0], .int .i64 0]) (by simp [results, Tryd.results58, go_sem, t0, t1, t2, t3]) rfl ⟨rfl, hbb⟩

set_option maxHeartbeats 2000000 in
set_option maxRecDepth 100000 in
theorem reckon_kind_mul (k1 k2 : Int) (n1 n2 : Int) (s1 s2 : ByteArray) (a1 a2 : Option Addr) (l1 c1 l2 c2 : Nat) (w : World) (h1 : k1 ≠ 0) (h2 : k2 ≠ 0) (h3 : ¬ (k1 = 2 ∧ k2 = 2)) :
    Calls Tryd.prog 58 #[.string ⟨#[42]⟩, .agg #[.int .i64 k1, .int .i64 n1, .string s1, .slice a1 l1 c1], .agg #[.int .i64 k2, .int .i64 n2, .string s2, .slice a2 l2 c2]] w fun e w' => e = .returned (.tuple #[.agg #[.int .i64 0, .int .i64 0, .string ⟨#[]⟩, .slice none 0 0], .int .i64 3]) ∧ Below w.heap.size w w' := by
  have h1' : (k1 == 0) = false := by simp [h1]
  have h2' : (k2 == 0) = false := by simp [h2]
  by_cases h5 : k1 = k2
  · subst h5
    have h7 : (k1 == 2) = false := by simp; omega
    clear h1 h2 h3
    by_cases h8 : k1 = 3
    · subst h8
      go_enter Tryd.func58, Tryd.ntmps58
      go_wp2_with fail
      have E := (three_alloc w (.cells #[.int .i64 3, .int .i64 n1, .string s1, .slice a1 l1 c1] 30) (.cells #[.int .i64 3, .int .i64 n2, .string s2, .slice a2 l2 c2] 30) (.cells #[.int .i64 0, .int .i64 0, .string ⟨#[]⟩, .slice none 0 0] 30)).2.2
      have hbb : Below w.heap.size w (((w.alloc (.cells #[.int .i64 3, .int .i64 n1, .string s1, .slice a1 l1 c1] 30)).alloc (.cells #[.int .i64 3, .int .i64 n2, .string s2, .slice a2 l2 c2] 30)).alloc (.cells #[.int .i64 0, .int .i64 0, .string ⟨#[]⟩, .slice none 0 0] 30)) := (((Below.refl _ _).alloc (Nat.le_refl _) _).alloc (by simp) _).alloc (by simp; omega) _
      generalize (((w.alloc (.cells #[.int .i64 3, .int .i64 n1, .string s1, .slice a1 l1 c1] 30)).alloc (.cells #[.int .i64 3, .int .i64 n2, .string s2, .slice a2 l2 c2] 30)).alloc (.cells #[.int .i64 0, .int .i64 0, .string ⟨#[]⟩, .slice none 0 0] 30)) = Y at E hbb ⊢
      have t0 : Y.cell? ⟨w.heap.size + 1 + 1, 0, none⟩ = _ := cell_of E 0
      have t1 : Y.cell? ⟨w.heap.size + 1 + 1, 1, none⟩ = _ := cell_of E 1
      have t2 : Y.cell? ⟨w.heap.size + 1 + 1, 2, none⟩ = _ := cell_of E 2
      have t3 : Y.cell? ⟨w.heap.size + 1 + 1, 3, none⟩ = _ := cell_of E 3
      simp at t0 t1 t2 t3
      exact bodyPost_ret (v := .tuple #[.agg #[.int .i64 0, .int .i64 0, .string ⟨#[]⟩, .slice none 0 0], .int .i64 3]) (by simp [results, Tryd.results58, go_sem, t0, t1, t2, t3]) rfl ⟨rfl, hbb⟩
    · have h8' : (k1 == 3) = false := by simp [h8]
      by_cases h9 : k1 = 4
      · subst h9
        go_enter Tryd.func58, Tryd.ntmps58
        go_wp2_with fail
        have E := (three_alloc w (.cells #[.int .i64 4, .int .i64 n1, .string s1, .slice a1 l1 c1] 30) (.cells #[.int .i64 4, .int .i64 n2, .string s2, .slice a2 l2 c2] 30) (.cells #[.int .i64 0, .int .i64 0, .string ⟨#[]⟩, .slice none 0 0] 30)).2.2
        have hbb : Below w.heap.size w (((w.alloc (.cells #[.int .i64 4, .int .i64 n1, .string s1, .slice a1 l1 c1] 30)).alloc (.cells #[.int .i64 4, .int .i64 n2, .string s2, .slice a2 l2 c2] 30)).alloc (.cells #[.int .i64 0, .int .i64 0, .string ⟨#[]⟩, .slice none 0 0] 30)) := (((Below.refl _ _).alloc (Nat.le_refl _) _).alloc (by simp) _).alloc (by simp; omega) _
        generalize (((w.alloc (.cells #[.int .i64 4, .int .i64 n1, .string s1, .slice a1 l1 c1] 30)).alloc (.cells #[.int .i64 4, .int .i64 n2, .string s2, .slice a2 l2 c2] 30)).alloc (.cells #[.int .i64 0, .int .i64 0, .string ⟨#[]⟩, .slice none 0 0] 30)) = Y at E hbb ⊢
        have t0 : Y.cell? ⟨w.heap.size + 1 + 1, 0, none⟩ = _ := cell_of E 0
        have t1 : Y.cell? ⟨w.heap.size + 1 + 1, 1, none⟩ = _ := cell_of E 1
        have t2 : Y.cell? ⟨w.heap.size + 1 + 1, 2, none⟩ = _ := cell_of E 2
        have t3 : Y.cell? ⟨w.heap.size + 1 + 1, 3, none⟩ = _ := cell_of E 3
        simp at t0 t1 t2 t3
        exact bodyPost_ret (v := .tuple #[.agg #[.int .i64 0, .int .i64 0, .string ⟨#[]⟩, .slice none 0 0], .int .i64 3]) (by simp [results, Tryd.results58, go_sem, t0, t1, t2, t3]) rfl ⟨rfl, hbb⟩
      · have h9' : (k1 == 4) = false := by simp [h9]
        clear h8 h9
        go_enter Tryd.func58, Tryd.ntmps58
        go_wp2_with fail
        have E := (three_alloc w (.cells #[.int .i64 k1, .int .i64 n1, .string s1, .slice a1 l1 c1] 30) (.cells #[.int .i64 k1, .int .i64 n2, .string s2, .slice a2 l2 c2] 30) (.cells #[.int .i64 0, .int .i64 0, .string ⟨#[]⟩, .slice none 0 0] 30)).2.2
        have hbb : Below w.heap.size w (((w.alloc (.cells #[.int .i64 k1, .int .i64 n1, .string s1, .slice a1 l1 c1] 30)).alloc (.cells #[.int .i64 k1, .int .i64 n2, .string s2, .slice a2 l2 c2] 30)).alloc (.cells #[.int .i64 0, .int .i64 0, .string ⟨#[]⟩, .slice none 0 0] 30)) := (((Below.refl _ _).alloc (Nat.le_refl _) _).alloc (by simp) _).alloc (by simp; omega) _
        generalize (((w.alloc (.cells #[.int .i64 k1, .int .i64 n1, .string s1, .slice a1 l1 c1] 30)).alloc (.cells #[.int .i64 k1, .int .i64 n2, .string s2, .slice a2 l2 c2] 30)).alloc (.cells #[.int .i64 0, .int .i64 0, .string ⟨#[]⟩, .slice none 0 0] 30)) = Y at E hbb ⊢
        have t0 : Y.cell? ⟨w.heap.size + 1 + 1, 0, none⟩ = _ := cell_of E 0
        have t1 : Y.cell? ⟨w.heap.size + 1 + 1, 1, none⟩ = _ := cell_of E 1
        have t2 : Y.cell? ⟨w.heap.size + 1 + 1, 2, none⟩ = _ := cell_of E 2
        have t3 : Y.cell? ⟨w.heap.size + 1 + 1, 3, none⟩ = _ := cell_of E 3
        simp at t0 t1 t2 t3
        exact bodyPost_ret (v := .tuple #[.agg #[.int .i64 0, .int .i64 0, .string ⟨#[]⟩, .slice none 0 0], .int .i64 3]) (by simp [results, Tryd.results58, go_sem, t0, t1, t2, t3]) rfl ⟨rfl, hbb⟩
  · have h6 : (k1 != k2) = true := by simp [h5]
    clear h1 h2 h3 h5
    go_enter Tryd.func58, Tryd.ntmps58
    go_wp2_with fail
    have E := (three_alloc w (.cells #[.int .i64 k1, .int .i64 n1, .string s1, .slice a1 l1 c1] 30) (.cells #[.int .i64 k2, .int .i64 n2, .string s2, .slice a2 l2 c2] 30) (.cells #[.int .i64 0, .int .i64 0, .string ⟨#[]⟩, .slice none 0 0] 30)).2.2
    have hbb : Below w.heap.size w (((w.alloc (.cells #[.int .i64 k1, .int .i64 n1, .string s1, .slice a1 l1 c1] 30)).alloc (.cells #[.int .i64 k2, .int .i64 n2, .string s2, .slice a2 l2 c2] 30)).alloc (.cells #[.int .i64 0, .int .i64 0, .string ⟨#[]⟩, .slice none 0 0] 30)) := (((Below.refl _ _).alloc (Nat.le_refl _) _).alloc (by simp) _).alloc (by simp; omega) _
    generalize (((w.alloc (.cells #[.int .i64 k1, .int .i64 n1, .string s1, .slice a1 l1 c1] 30)).alloc (.cells #[.int .i64 k2, .int .i64 n2, .string s2, .slice a2 l2 c2] 30)).alloc (.cells #[.int .i64 0, .int .i64 0, .string ⟨#[]⟩, .slice none 0 0] 30)) = Y at E hbb ⊢
    have t0 : Y.cell? ⟨w.heap.size + 1 + 1, 0, none⟩ = _ := cell_of E 0
    have t1 : Y.cell? ⟨w.heap.size + 1 + 1, 1, none⟩ = _ := cell_of E 1
    have t2 : Y.cell? ⟨w.heap.size + 1 + 1, 2, none⟩ = _ := cell_of E 2
    have t3 : Y.cell? ⟨w.heap.size + 1 + 1, 3, none⟩ = _ := cell_of E 3
    simp at t0 t1 t2 t3
    exact bodyPost_ret (v := .tuple #[.agg #[.int .i64 0, .int .i64 0, .string ⟨#[]⟩, .slice none 0 0], .int .i64 3]) (by simp [results, Tryd.results58, go_sem, t0, t1, t2, t3]) rfl ⟨rfl, hbb⟩

end Go.Proofs.YtfjlpjemccllaaaDoor
