/-
  What is proved here: what the texts LBgRk6, LBgRk7, LVApp, LVList prove, in one text.
-/
import Derived.Test.YtfjlpjemccllaaaDoorQTAS
import Derived.Deep.AppendLies
import Derived.Laws.OwnMore
namespace Go.Proofs.YtfjlpjemccllaaaDoor
open Go.RowKit
set_option linter.unusedVariables false

set_option maxHeartbeats 2000000 in
set_option maxRecDepth 100000 in
theorem reckon_int_add (k n er : Int) (n1 n2 : Int) (s1 s2 : ByteArray) (a1 a2 : Option Addr) (l1 c1 l2 c2 : Nat) (w : World)
    (h : ∀ U, Calls Tryd.prog 75 #[.string ⟨#[43]⟩, .int .i64 n1, .int .i64 n2] U fun e w' => e = .returned (.tuple #[.agg #[.int .i64 k, .int .i64 n, .string ⟨#[]⟩, .slice none 0 0], .int .i64 er]) ∧ Below U.heap.size U w') :
    Calls Tryd.prog 58 #[.string ⟨#[43]⟩, .agg #[.int .i64 2, .int .i64 n1, .string s1, .slice a1 l1 c1], .agg #[.int .i64 2, .int .i64 n2, .string s2, .slice a2 l2 c2]] w fun e w' => e = .returned (.tuple #[.agg #[.int .i64 k, .int .i64 n, .string ⟨#[]⟩, .slice none 0 0], .int .i64 er]) ∧ Below w.heap.size w w' := by
  have HJ : Hid (∀ U, Calls Tryd.prog 75 #[.string ⟨#[43]⟩, .int .i64 n1, .int .i64 n2] U fun e w' => e = .returned (.tuple #[.agg #[.int .i64 k, .int .i64 n, .string ⟨#[]⟩, .slice none 0 0], .int .i64 er]) ∧ Below U.heap.size U w') := fun U => h U
  have b0 : Below w.heap.size w (((w.alloc (.cells #[.int .i64 2, .int .i64 n1, .string s1, .slice a1 l1 c1] 30)).alloc (.cells #[.int .i64 2, .int .i64 n2, .string s2, .slice a2 l2 c2] 30)).alloc (.cells #[.int .i64 0, .int .i64 0, .string ⟨#[]⟩, .slice none 0 0] 30)) := (((Below.refl _ _).alloc (Nat.le_refl _) _).alloc (by simp) _).alloc (by simp; omega) _
  have q3 := (three_alloc w (.cells #[.int .i64 2, .int .i64 n1, .string s1, .slice a1 l1 c1] 30) (.cells #[.int .i64 2, .int .i64 n2, .string s2, .slice a2 l2 c2] 30) (.cells #[.int .i64 0, .int .i64 0, .string ⟨#[]⟩, .slice none 0 0] 30)).2.2
  have z0 : (((w.alloc (.cells #[.int .i64 2, .int .i64 n1, .string s1, .slice a1 l1 c1] 30)).alloc (.cells #[.int .i64 2, .int .i64 n2, .string s2, .slice a2 l2 c2] 30)).alloc (.cells #[.int .i64 0, .int .i64 0, .string ⟨#[]⟩, .slice none 0 0] 30)).heap.size = w.heap.size + 3 := by simp
  have HB0 := toHid b0
  have HQ3 := toHid q3
  have HZ0 := toHid z0
  clear b0 q3 z0
  go_enter Tryd.func58, Tryd.ntmps58
  go_wp2_with fail
  refine (HJ.out _).mono ?_
  generalize (((w.alloc (.cells #[.int .i64 2, .int .i64 n1, .string s1, .slice a1 l1 c1] 30)).alloc (.cells #[.int .i64 2, .int .i64 n2, .string s2, .slice a2 l2 c2] 30)).alloc (.cells #[.int .i64 0, .int .i64 0, .string ⟨#[]⟩, .slice none 0 0] 30)) = W at HB0 HQ3 HZ0 ⊢
  rintro e w1 ⟨rfl, k1⟩
  have hr := (k1.block (w.heap.size + 2) (by rw [HZ0.out]; omega)).trans HQ3.out
  have HK := toHid (HB0.out.trans (k1.mono HB0.out.size))
  have HR := toHid hr
  have r0 := cell_of hr 0
  have r1 := cell_of hr 1
  have r2 := cell_of hr 2
  have r3 := cell_of hr 3
  have f0 := free_of hr 0
  have f1 := free_of hr 1
  have f2 := free_of hr 2
  have f3 := free_of hr 3
  simp at r0 r1 r2 r3
  have sz2 : w.heap.size + 2 < w1.heap.size := (Array.getElem?_eq_some_iff.1 hr).1
  clear hr k1
  go_wp2_with fail
  have E := set4_here (b := w.heap.size + 1 + 1) HR.out (.int .i64 k) (.int .i64 n) (.string ⟨#[]⟩) (.slice none 0 0)
  have hbb : Below w.heap.size w ((((w1.setCell ⟨w.heap.size + 1 + 1, 0, none⟩ (.int .i64 k)).setCell ⟨w.heap.size + 1 + 1, 1, none⟩ (.int .i64 n)).setCell ⟨w.heap.size + 1 + 1, 2, none⟩ (.string ⟨#[]⟩)).setCell ⟨w.heap.size + 1 + 1, 3, none⟩ (.slice none 0 0)) := (((HK.out.setCell (p := ⟨w.heap.size + 1 + 1, 0, none⟩) (by show w.heap.size ≤ w.heap.size + 1 + 1; omega) _).setCell (p := ⟨w.heap.size + 1 + 1, 1, none⟩) (by show w.heap.size ≤ w.heap.size + 1 + 1; omega) _).setCell (p := ⟨w.heap.size + 1 + 1, 2, none⟩) (by show w.heap.size ≤ w.heap.size + 1 + 1; omega) _).setCell (p := ⟨w.heap.size + 1 + 1, 3, none⟩) (by show w.heap.size ≤ w.heap.size + 1 + 1; omega) _
  generalize ((((w1.setCell ⟨w.heap.size + 1 + 1, 0, none⟩ (.int .i64 k)).setCell ⟨w.heap.size + 1 + 1, 1, none⟩ (.int .i64 n)).setCell ⟨w.heap.size + 1 + 1, 2, none⟩ (.string ⟨#[]⟩)).setCell ⟨w.heap.size + 1 + 1, 3, none⟩ (.slice none 0 0)) = Y at E hbb ⊢
  have t0 := cell_of E 0
  have t1 := cell_of E 1
  have t2 := cell_of E 2
  have t3 := cell_of E 3
  simp at t0 t1 t2 t3
  exact bodyPost_ret (v := .tuple #[.agg #[.int .i64 k, .int .i64 n, .string ⟨#[]⟩, .slice none 0 0], .int .i64 er]) (by simp [results, Tryd.results58, go_sem, t0, t1, t2, t3]) rfl ⟨rfl, hbb⟩

set_option maxHeartbeats 2000000 in
set_option maxRecDepth 100000 in
theorem reckon_int_sub (k n er : Int) (n1 n2 : Int) (s1 s2 : ByteArray) (a1 a2 : Option Addr) (l1 c1 l2 c2 : Nat) (w : World)
    (h : ∀ U, Calls Tryd.prog 75 #[.string ⟨#[45]⟩, .int .i64 n1, .int .i64 n2] U fun e w' => e = .returned (.tuple #[.agg #[.int .i64 k, .int .i64 n, .string ⟨#[]⟩, .slice none 0 0], .int .i64 er]) ∧ Below U.heap.size U w') :
    Calls Tryd.prog 58 #[.string ⟨#[45]⟩, .agg #[.int .i64 2, .int .i64 n1, .string s1, .slice a1 l1 c1], .agg #[.int .i64 2, .int .i64 n2, .string s2, .slice a2 l2 c2]] w fun e w' => e = .returned (.tuple #[.agg #[.int .i64 k, .int .i64 n, .string ⟨#[]⟩, .slice none 0 0], .int .i64 er]) ∧ Below w.heap.size w w' := by
  have HJ : Hid (∀ U, Calls Tryd.prog 75 #[.string ⟨#[45]⟩, .int .i64 n1, .int .i64 n2] U fun e w' => e = .returned (.tuple #[.agg #[.int .i64 k, .int .i64 n, .string ⟨#[]⟩, .slice none 0 0], .int .i64 er]) ∧ Below U.heap.size U w') := fun U => h U
  have b0 : Below w.heap.size w (((w.alloc (.cells #[.int .i64 2, .int .i64 n1, .string s1, .slice a1 l1 c1] 30)).alloc (.cells #[.int .i64 2, .int .i64 n2, .string s2, .slice a2 l2 c2] 30)).alloc (.cells #[.int .i64 0, .int .i64 0, .string ⟨#[]⟩, .slice none 0 0] 30)) := (((Below.refl _ _).alloc (Nat.le_refl _) _).alloc (by simp) _).alloc (by simp; omega) _
  have q3 := (three_alloc w (.cells #[.int .i64 2, .int .i64 n1, .string s1, .slice a1 l1 c1] 30) (.cells #[.int .i64 2, .int .i64 n2, .string s2, .slice a2 l2 c2] 30) (.cells #[.int .i64 0, .int .i64 0, .string ⟨#[]⟩, .slice none 0 0] 30)).2.2
  have z0 : (((w.alloc (.cells #[.int .i64 2, .int .i64 n1, .string s1, .slice a1 l1 c1] 30)).alloc (.cells #[.int .i64 2, .int .i64 n2, .string s2, .slice a2 l2 c2] 30)).alloc (.cells #[.int .i64 0, .int .i64 0, .string ⟨#[]⟩, .slice none 0 0] 30)).heap.size = w.heap.size + 3 := by simp
  have HB0 := toHid b0
  have HQ3 := toHid q3
  have HZ0 := toHid z0
  clear b0 q3 z0
  go_enter Tryd.func58, Tryd.ntmps58
  go_wp2_with fail
  refine (HJ.out _).mono ?_
  generalize (((w.alloc (.cells #[.int .i64 2, .int .i64 n1, .string s1, .slice a1 l1 c1] 30)).alloc (.cells #[.int .i64 2, .int .i64 n2, .string s2, .slice a2 l2 c2] 30)).alloc (.cells #[.int .i64 0, .int .i64 0, .string ⟨#[]⟩, .slice none 0 0] 30)) = W at HB0 HQ3 HZ0 ⊢
  rintro e w1 ⟨rfl, k1⟩
  have hr := (k1.block (w.heap.size + 2) (by rw [HZ0.out]; omega)).trans HQ3.out
  have HK := toHid (HB0.out.trans (k1.mono HB0.out.size))
  have HR := toHid hr
  have r0 := cell_of hr 0
  have r1 := cell_of hr 1
  have r2 := cell_of hr 2
  have r3 := cell_of hr 3
  have f0 := free_of hr 0
  have f1 := free_of hr 1
  have f2 := free_of hr 2
  have f3 := free_of hr 3
  simp at r0 r1 r2 r3
  have sz2 : w.heap.size + 2 < w1.heap.size := (Array.getElem?_eq_some_iff.1 hr).1
  clear hr k1
  go_wp2_with fail
  have E := set4_here (b := w.heap.size + 1 + 1) HR.out (.int .i64 k) (.int .i64 n) (.string ⟨#[]⟩) (.slice none 0 0)
  have hbb : Below w.heap.size w ((((w1.setCell ⟨w.heap.size + 1 + 1, 0, none⟩ (.int .i64 k)).setCell ⟨w.heap.size + 1 + 1, 1, none⟩ (.int .i64 n)).setCell ⟨w.heap.size + 1 + 1, 2, none⟩ (.string ⟨#[]⟩)).setCell ⟨w.heap.size + 1 + 1, 3, none⟩ (.slice none 0 0)) := (((HK.out.setCell (p := ⟨w.heap.size + 1 + 1, 0, none⟩) (by show w.heap.size ≤ w.heap.size + 1 + 1; omega) _).setCell (p := ⟨w.heap.size + 1 + 1, 1, none⟩) (by show w.heap.size ≤ w.heap.size + 1 + 1; omega) _).setCell (p := ⟨w.heap.size + 1 + 1, 2, none⟩) (by show w.heap.size ≤ w.heap.size + 1 + 1; omega) _).setCell (p := ⟨w.heap.size + 1 + 1, 3, none⟩) (by show w.heap.size ≤ w.heap.size + 1 + 1; omega) _
  generalize ((((w1.setCell ⟨w.heap.size + 1 + 1, 0, none⟩ (.int .i64 k)).setCell ⟨w.heap.size + 1 + 1, 1, none⟩ (.int .i64 n)).setCell ⟨w.heap.size + 1 + 1, 2, none⟩ (.string ⟨#[]⟩)).setCell ⟨w.heap.size + 1 + 1, 3, none⟩ (.slice none 0 0)) = Y at E hbb ⊢
  have t0 := cell_of E 0
  have t1 := cell_of E 1
  have t2 := cell_of E 2
  have t3 := cell_of E 3
  simp at t0 t1 t2 t3
  exact bodyPost_ret (v := .tuple #[.agg #[.int .i64 k, .int .i64 n, .string ⟨#[]⟩, .slice none 0 0], .int .i64 er]) (by simp [results, Tryd.results58, go_sem, t0, t1, t2, t3]) rfl ⟨rfl, hbb⟩

set_option maxHeartbeats 2000000 in
set_option maxRecDepth 100000 in
theorem reckon_int_mul (k n er : Int) (n1 n2 : Int) (s1 s2 : ByteArray) (a1 a2 : Option Addr) (l1 c1 l2 c2 : Nat) (w : World)
    (h : ∀ U, Calls Tryd.prog 75 #[.string ⟨#[42]⟩, .int .i64 n1, .int .i64 n2] U fun e w' => e = .returned (.tuple #[.agg #[.int .i64 k, .int .i64 n, .string ⟨#[]⟩, .slice none 0 0], .int .i64 er]) ∧ Below U.heap.size U w') :
    Calls Tryd.prog 58 #[.string ⟨#[42]⟩, .agg #[.int .i64 2, .int .i64 n1, .string s1, .slice a1 l1 c1], .agg #[.int .i64 2, .int .i64 n2, .string s2, .slice a2 l2 c2]] w fun e w' => e = .returned (.tuple #[.agg #[.int .i64 k, .int .i64 n, .string ⟨#[]⟩, .slice none 0 0], .int .i64 er]) ∧ Below w.heap.size w w' := by
  have HJ : Hid (∀ U, Calls Tryd.prog 75 #[.string ⟨#[42]⟩, .int .i64 n1, .int .i64 n2] U fun e w' => e = .returned (.tuple #[.agg #[.int .i64 k, .int .i64 n, .string ⟨#[]⟩, .slice none 0 0], .int .i64 er]) ∧ Below U.heap.size U w') := fun U => h U
  have b0 : Below w.heap.size w (((w.alloc (.cells #[.int .i64 2, .int .i64 n1, .string s1, .slice a1 l1 c1] 30)).alloc (.cells #[.int .i64 2, .int .i64 n2, .string s2, .slice a2 l2 c2] 30)).alloc (.cells #[.int .i64 0, .int .i64 0, .string ⟨#[]⟩, .slice none 0 0] 30)) := (((Below.refl _ _).alloc (Nat.le_refl _) _).alloc (by simp) _).alloc (by simp; omega) _
  have q3 := (three_alloc w (.cells #[.int .i64 2, .int .i64 n1, .string s1, .slice a1 l1 c1] 30) (.cells #[.int .i64 2, .int .i64 n2, .string s2, .slice a2 l2 c2] 30) (.cells #[.int .i64 0, .int .i64 0, .string ⟨#[]⟩, .slice none 0 0] 30)).2.2
  have z0 : (((w.alloc (.cells #[.int .i64 2, .int .i64 n1, .string s1, .slice a1 l1 c1] 30)).alloc (.cells #[.int .i64 2, .int .i64 n2, .string s2, .slice a2 l2 c2] 30)).alloc (.cells #[.int .i64 0, .int .i64 0, .string ⟨#[]⟩, .slice none 0 0] 30)).heap.size = w.heap.size + 3 := by simp
  have HB0 := toHid b0
  have HQ3 := toHid q3
  have HZ0 := toHid z0
  clear b0 q3 z0
  go_enter Tryd.func58, Tryd.ntmps58
  go_wp2_with fail
  refine (HJ.out _).mono ?_
  generalize (((w.alloc (.cells #[.int .i64 2, .int .i64 n1, .string s1, .slice a1 l1 c1] 30)).alloc (.cells #[.int .i64 2, .int .i64 n2, .string s2, .slice a2 l2 c2] 30)).alloc (.cells #[.int .i64 0, .int .i64 0, .string ⟨#[]⟩, .slice none 0 0] 30)) = W at HB0 HQ3 HZ0 ⊢
  rintro e w1 ⟨rfl, k1⟩
  have hr := (k1.block (w.heap.size + 2) (by rw [HZ0.out]; omega)).trans HQ3.out
  have HK := toHid (HB0.out.trans (k1.mono HB0.out.size))
  have HR := toHid hr
  have r0 := cell_of hr 0
  have r1 := cell_of hr 1
  have r2 := cell_of hr 2
  have r3 := cell_of hr 3
  have f0 := free_of hr 0
  have f1 := free_of hr 1
  have f2 := free_of hr 2
  have f3 := free_of hr 3
  simp at r0 r1 r2 r3
  have sz2 : w.heap.size + 2 < w1.heap.size := (Array.getElem?_eq_some_iff.1 hr).1
  clear hr k1
  go_wp2_with fail
  have E := set4_here (b := w.heap.size + 1 + 1) HR.out (.int .i64 k) (.int .i64 n) (.string ⟨#[]⟩) (.slice none 0 0)
  have hbb : Below w.heap.size w ((((w1.setCell ⟨w.heap.size + 1 + 1, 0, none⟩ (.int .i64 k)).setCell ⟨w.heap.size + 1 + 1, 1, none⟩ (.int .i64 n)).setCell ⟨w.heap.size + 1 + 1, 2, none⟩ (.string ⟨#[]⟩)).setCell ⟨w.heap.size + 1 + 1, 3, none⟩ (.slice none 0 0)) := (((HK.out.setCell (p := ⟨w.heap.size + 1 + 1, 0, none⟩) (by show w.heap.size ≤ w.heap.size + 1 + 1; omega) _).setCell (p := ⟨w.heap.size + 1 + 1, 1, none⟩) (by show w.heap.size ≤ w.heap.size + 1 + 1; omega) _).setCell (p := ⟨w.heap.size + 1 + 1, 2, none⟩) (by show w.heap.size ≤ w.heap.size + 1 + 1; omega) _).setCell (p := ⟨w.heap.size + 1 + 1, 3, none⟩) (by show w.heap.size ≤ w.heap.size + 1 + 1; omega) _
  generalize ((((w1.setCell ⟨w.heap.size + 1 + 1, 0, none⟩ (.int .i64 k)).setCell ⟨w.heap.size + 1 + 1, 1, none⟩ (.int .i64 n)).setCell ⟨w.heap.size + 1 + 1, 2, none⟩ (.string ⟨#[]⟩)).setCell ⟨w.heap.size + 1 + 1, 3, none⟩ (.slice none 0 0)) = Y at E hbb ⊢
  have t0 := cell_of E 0
  have t1 := cell_of E 1
  have t2 := cell_of E 2
  have t3 := cell_of E 3
  simp at t0 t1 t2 t3
  exact bodyPost_ret (v := .tuple #[.agg #[.int .i64 k, .int .i64 n, .string ⟨#[]⟩, .slice none 0 0], .int .i64 er]) (by simp [results, Tryd.results58, go_sem, t0, t1, t2, t3]) rfl ⟨rfl, hbb⟩

set_option maxHeartbeats 2000000 in
set_option maxRecDepth 100000 in
theorem joinLists_many (a1 a2 : Option Addr) (l1 c1 l2 c2 : Nat) (w : World) (hs : 30 < l1 + l2) (hm : l1 + l2 ≤ 9223372036854775807) :
    Calls Tryd.prog 77 #[.slice a1 l1 c1, .slice a2 l2 c2] w fun e w' => e = .returned (.tuple #[.agg #[.int .i64 0, .int .i64 0, .string ⟨#[]⟩, .slice none 0 0], .int .i64 2]) ∧ Below w.heap.size w w' := by
  have hs1 : (30 : Int) < (l1 : Int) + (l2 : Int) := by omega
  go_enter Tryd.func77, Tryd.ntmps77
  go_wp2_with fail
  have E := alloc_new w (.cells #[.int .i64 0, .int .i64 0, .string ⟨#[]⟩, .slice none 0 0] 30)
  have hbb : Below w.heap.size w (w.alloc (.cells #[.int .i64 0, .int .i64 0, .string ⟨#[]⟩, .slice none 0 0] 30)) := (Below.refl _ _).alloc (Nat.le_refl _) _
  generalize w.alloc (.cells #[.int .i64 0, .int .i64 0, .string ⟨#[]⟩, .slice none 0 0] 30) = Y at E hbb ⊢
  have t0 := cell_of E 0
  have t1 := cell_of E 1
  have t2 := cell_of E 2
  have t3 := cell_of E 3
  simp at t0 t1 t2 t3
  exact bodyPost_ret (v := .tuple #[.agg #[.int .i64 0, .int .i64 0, .string ⟨#[]⟩, .slice none 0 0], .int .i64 2]) (by simp [results, Tryd.results77, go_sem, t0, t1, t2, t3]) rfl ⟨rfl, hbb⟩

set_option maxHeartbeats 2000000 in
set_option maxRecDepth 100000 in
theorem reckon_many (n1 n2 : Int) (s1 s2 : ByteArray) (a1 a2 : Option Addr) (l1 c1 l2 c2 : Nat) (w : World) (hs : 30 < l1 + l2) (hm : l1 + l2 ≤ 9223372036854775807) :
    Calls Tryd.prog 58 #[.string ⟨#[43]⟩, .agg #[.int .i64 4, .int .i64 n1, .string s1, .slice a1 l1 c1], .agg #[.int .i64 4, .int .i64 n2, .string s2, .slice a2 l2 c2]] w fun e w' => e = .returned (.tuple #[.agg #[.int .i64 0, .int .i64 0, .string ⟨#[]⟩, .slice none 0 0], .int .i64 2]) ∧ Below w.heap.size w w' := by
  have HJ : Hid (∀ U, Calls Tryd.prog 77 #[.slice a1 l1 c1, .slice a2 l2 c2] U fun e w' => e = .returned (.tuple #[.agg #[.int .i64 0, .int .i64 0, .string ⟨#[]⟩, .slice none 0 0], .int .i64 2]) ∧ Below U.heap.size U w') := fun U => joinLists_many a1 a2 l1 c1 l2 c2 U hs hm
  have b0 : Below w.heap.size w (((w.alloc (.cells #[.int .i64 4, .int .i64 n1, .string s1, .slice a1 l1 c1] 30)).alloc (.cells #[.int .i64 4, .int .i64 n2, .string s2, .slice a2 l2 c2] 30)).alloc (.cells #[.int .i64 0, .int .i64 0, .string ⟨#[]⟩, .slice none 0 0] 30)) := (((Below.refl _ _).alloc (Nat.le_refl _) _).alloc (by simp) _).alloc (by simp; omega) _
  have q3 := (three_alloc w (.cells #[.int .i64 4, .int .i64 n1, .string s1, .slice a1 l1 c1] 30) (.cells #[.int .i64 4, .int .i64 n2, .string s2, .slice a2 l2 c2] 30) (.cells #[.int .i64 0, .int .i64 0, .string ⟨#[]⟩, .slice none 0 0] 30)).2.2
  have z0 : (((w.alloc (.cells #[.int .i64 4, .int .i64 n1, .string s1, .slice a1 l1 c1] 30)).alloc (.cells #[.int .i64 4, .int .i64 n2, .string s2, .slice a2 l2 c2] 30)).alloc (.cells #[.int .i64 0, .int .i64 0, .string ⟨#[]⟩, .slice none 0 0] 30)).heap.size = w.heap.size + 3 := by simp
  have HB0 := toHid b0
  have HQ3 := toHid q3
  have HZ0 := toHid z0
  clear b0 q3 z0
  go_enter Tryd.func58, Tryd.ntmps58
  go_wp2_with fail
  refine (HJ.out _).mono ?_
  generalize (((w.alloc (.cells #[.int .i64 4, .int .i64 n1, .string s1, .slice a1 l1 c1] 30)).alloc (.cells #[.int .i64 4, .int .i64 n2, .string s2, .slice a2 l2 c2] 30)).alloc (.cells #[.int .i64 0, .int .i64 0, .string ⟨#[]⟩, .slice none 0 0] 30)) = W at HB0 HQ3 HZ0 ⊢
  rintro e w1 ⟨rfl, k1⟩
  have hr := (k1.block (w.heap.size + 2) (by rw [HZ0.out]; omega)).trans HQ3.out
  have HK := toHid (HB0.out.trans (k1.mono HB0.out.size))
  have HR := toHid hr
  have r0 := cell_of hr 0
  have r1 := cell_of hr 1
  have r2 := cell_of hr 2
  have r3 := cell_of hr 3
  have f0 := free_of hr 0
  have f1 := free_of hr 1
  have f2 := free_of hr 2
  have f3 := free_of hr 3
  simp at r0 r1 r2 r3
  have sz2 : w.heap.size + 2 < w1.heap.size := (Array.getElem?_eq_some_iff.1 hr).1
  clear hr k1
  go_wp2_with fail
  have E := set4_here (b := w.heap.size + 1 + 1) HR.out (.int .i64 0) (.int .i64 0) (.string ⟨#[]⟩) (.slice none 0 0)
  have hbb : Below w.heap.size w ((((w1.setCell ⟨w.heap.size + 1 + 1, 0, none⟩ (.int .i64 0)).setCell ⟨w.heap.size + 1 + 1, 1, none⟩ (.int .i64 0)).setCell ⟨w.heap.size + 1 + 1, 2, none⟩ (.string ⟨#[]⟩)).setCell ⟨w.heap.size + 1 + 1, 3, none⟩ (.slice none 0 0)) := (((HK.out.setCell (p := ⟨w.heap.size + 1 + 1, 0, none⟩) (by show w.heap.size ≤ w.heap.size + 1 + 1; omega) _).setCell (p := ⟨w.heap.size + 1 + 1, 1, none⟩) (by show w.heap.size ≤ w.heap.size + 1 + 1; omega) _).setCell (p := ⟨w.heap.size + 1 + 1, 2, none⟩) (by show w.heap.size ≤ w.heap.size + 1 + 1; omega) _).setCell (p := ⟨w.heap.size + 1 + 1, 3, none⟩) (by show w.heap.size ≤ w.heap.size + 1 + 1; omega) _
  generalize ((((w1.setCell ⟨w.heap.size + 1 + 1, 0, none⟩ (.int .i64 0)).setCell ⟨w.heap.size + 1 + 1, 1, none⟩ (.int .i64 0)).setCell ⟨w.heap.size + 1 + 1, 2, none⟩ (.string ⟨#[]⟩)).setCell ⟨w.heap.size + 1 + 1, 3, none⟩ (.slice none 0 0)) = Y at E hbb ⊢
  have t0 := cell_of E 0
  have t1 := cell_of E 1
  have t2 := cell_of E 2
  have t3 := cell_of E 3
  simp at t0 t1 t2 t3
  exact bodyPost_ret (v := .tuple #[.agg #[.int .i64 0, .int .i64 0, .string ⟨#[]⟩, .slice none 0 0], .int .i64 2]) (by simp [results, Tryd.results58, go_sem, t0, t1, t2, t3]) rfl ⟨rfl, hbb⟩

section
variable {P : Program} (w : World)
theorem run_append_both (t ty : TypeId) (base : Nat) (e : TypeId) (i : TypeInfo) (z : Value) (size bytes : Nat) (ht : P.underlying t = some (.slice e)) (hi : P.info? e = some i) (hz : i.zero = some z)
    (hsize : i.size = size) (hby : i.bytes = bytes) (hzs : z.cells.size = size) (hsz : 0 < size)
    (v : Value) (n : Nat) (xs : List Value) (hown : w.ownsRow base e size v n xs)
    (ax : Option Addr) (m c : Nat) (news : List Value) (hl : news.length = m * size) (hnews : ∀ j u, news[j]? = some u → ∃ ad, ax = some ad ∧ w.cell? (ad.add j) = some u) (h1 : ∀ u ∈ news, u.oneCell' = true)
    (h63 : n + m ≤ maxLen) (hbytes : (n + m) * bytes ≤ 140737488355328) (hbase : base ≤ w.heap.size) :
    ∃ v' w', (Builtin.append_ #[t, t] ty #[v, .slice ax m c]).run P w = .ok v' w' ∧
      w'.ownsRow base e size v' (n + m) (xs ++ news) ∧ w.grownBy w' v.ownBlock ∧ (v'.ownBlock = v.ownBlock ∨ v'.ownBlock = some w.heap.size) := by
  cases ax with
  | some ad =>
    obtain ⟨v', w', hr, h2, h3, _, h5⟩ := run_append_own_at (P := P) w base t ty e i z size bytes ht hi hz hsize hby hzs hsz v n xs hown ad m c news hl (fun j u hu => by
      obtain ⟨ad', e1, e2⟩ := hnews j u hu
      cases e1
      exact e2) h1 h63 hbytes hbase
    exact ⟨v', w', hr, h2, h3, h5⟩
  | none =>
    have hn : news = [] := by
      cases news with
      | nil => rfl
      | cons u us =>
        obtain ⟨_, e1, _⟩ := hnews 0 u rfl
        cases e1
    subst hn
    have hm : m = 0 := by
      rcases Nat.eq_zero_or_pos m with h | h
      · exact h
      · have := Nat.mul_pos h hsz
        simp at hl
        omega
    subst hm
    refine ⟨v, w, ?_, by simpa using hown, ⟨rfl, rfl, rfl, Nat.le_refl _, fun _ _ _ => rfl⟩, .inl rfl⟩
    rcases hown.2 with ⟨rfl, rfl⟩ | ⟨g, cap, cur, rfl, _, _, hnc, _⟩
    · simp [Builtin.append_, run_underlying ht, sizeOf, typeInfo, hi, Builtin.lenOf, Builtin.firstCells]
    · simp [Builtin.append_, run_underlying ht, sizeOf, typeInfo, hi, Builtin.lenOf, Builtin.firstCells, hnc, storeCells]
end

section
variable {P : Program} (w : World)
theorem wp_append_both {o : Oper} {a : Act} {K : Act → World → Prop} {Q : Exit → Act → World → Prop} (s x : Operand) (t : TypeId)
    (ho : o.op = .call { callee := .builtin .append, args := #[s, x], argTypes := #[t, t] })
    (base : Nat) (e : TypeId) (i : TypeInfo) (z : Value) (size bytes : Nat) (ht : P.underlying t = some (.slice e)) (hi : P.info? e = some i) (hz : i.zero = some z)
    (hsize : i.size = size) (hby : i.bytes = bytes) (hzs : z.cells.size = size) (hsz : 0 < size)
    (v : Value) (n : Nat) (xs : List Value) (hs : a.eval s = v) (hown : w.ownsRow base e size v n xs)
    (ax : Option Addr) (m c : Nat) (news : List Value) (hx : a.eval x = .slice ax m c) (hl : news.length = m * size) (hnews : ∀ j u, news[j]? = some u → ∃ ad, ax = some ad ∧ w.cell? (ad.add j) = some u) (h1 : ∀ u ∈ news, u.oneCell' = true)
    (h63 : n + m ≤ maxLen) (hbytes : (n + m) * bytes ≤ 140737488355328) (hbase : base ≤ w.heap.size)
    (h : ∀ v' w', w'.ownsRow base e size v' (n + m) (xs ++ news) → w.grownBy w' v.ownBlock → (v'.ownBlock = v.ownBlock ∨ v'.ownBlock = some w.heap.size) → K (a.put o.dst v') w') : o.wp P a w K Q := by
  obtain ⟨v', w', hr, h2, h3, h4⟩ := run_append_both (P := P) w t o.type base e i z size bytes ht hi hz hsize hby hzs hsz v n xs hown ax m c news hl hnews h1 h63 hbytes hbase
  unfold Oper.wp execOp
  simp only [ho, resolve, invoke, builtin, Sem.run_bind, Sem.run_pure, Result.andThen_ok, List.map_toArray, List.map_cons, List.map_nil, hs, hx, hr]
  exact h v' w' h2 h3 h4
end

section
variable {P : Program} (w : World)
theorem wpList_append_both {ops : Array Oper} {rest : List Oper} {o : Oper} {a : Act} {Q : Exit → Act → World → Prop} (hgd : o.guard = none) (s x : Operand) (t : TypeId)
    (ho : o.op = .call { callee := .builtin .append, args := #[s, x], argTypes := #[t, t] })
    (base : Nat) (e : TypeId) (i : TypeInfo) (z : Value) (size bytes : Nat) (ht : P.underlying t = some (.slice e)) (hi : P.info? e = some i) (hz : i.zero = some z)
    (hsize : i.size = size) (hby : i.bytes = bytes) (hzs : z.cells.size = size) (hsz : 0 < size)
    (v : Value) (n : Nat) (xs : List Value) (hs : a.eval s = v) (hown : w.ownsRow base e size v n xs)
    (ax : Option Addr) (m c : Nat) (news : List Value) (hx : a.eval x = .slice ax m c) (hl : news.length = m * size) (hnews : ∀ j u, news[j]? = some u → ∃ ad, ax = some ad ∧ w.cell? (ad.add j) = some u) (h1 : ∀ u ∈ news, u.oneCell' = true)
    (h63 : n + m ≤ maxLen) (hbytes : (n + m) * bytes ≤ 140737488355328) (hbase : base ≤ w.heap.size)
    (h : ∀ v' w', w'.ownsRow base e size v' (n + m) (xs ++ news) → w.grownBy w' v.ownBlock → (v'.ownBlock = v.ownBlock ∨ v'.ownBlock = some w.heap.size) → wpList P ops Q rest (a.put o.dst v') w') : wpList P ops Q (o :: rest) a w :=
  wpList_plain hgd fun _ hK => wp_append_both w s x t ho base e i z size bytes ht hi hz hsize hby hzs hsz v n xs hs hown ax m c news hx hl hnews h1 h63 hbytes hbase fun v' w' h2 h3 h4 => hK _ _ (h v' w' h2 h3 h4)
end

/-- What the cells of a list's values hold. -/
def CellsOf (W : World) (L : List T) (cs : List Value) : Prop := ∀ (j : Nat) (k n : Int) (s : ByteArray) (Lt : List T), L[j]? = some (.node k n s Lt) → s.size ≤ 9223372036854775807 ∧ cs[j * 4]? = some (.int .i64 k) ∧ cs[j * 4 + 1]? = some (.int .i64 n) ∧ cs[j * 4 + 2]? = some (.string s) ∧ ∃ a l c, cs[j * 4 + 3]? = some (.slice a l c) ∧ l ≤ c ∧ LiesS W Lt a l

theorem cells_any {W : World} {L : List T} {a : Option Addr} {l : Nat} (h : LiesS W L a l) : ∃ cs : List Value, cs.length = l * 4 ∧ (∀ j u, cs[j]? = some u → ∃ ad, a = some ad ∧ ad.block < W.heap.size ∧ W.cell? (ad.add j) = some u) ∧ (∀ u ∈ cs, u.oneCell' = true) ∧ CellsOf W L cs := by
  cases L with
  | nil =>
    unfold LiesS at h
    subst h
    exact ⟨[], rfl, (fun j u h => by simp at h), (fun u h => by cases h), (fun j k n s Lt h => by simp at h)⟩
  | cons t ts =>
    have hl := h.length.1
    have h0 := h
    unfold LiesS at h0
    obtain ⟨b, off, rfl, _, _, hb, _⟩ := h0
    obtain ⟨cs, q1, q2, q3, q4⟩ := copy_cells (t :: ts) b off (by rw [← hl]; exact h)
    exact ⟨cs, by rw [q1, hl], fun j u hu => ⟨_, rfl, hb, by rw [add_none]; exact q2 j u hu⟩, q3, q4⟩

theorem CellsOf.append {W : World} {L1 L2 : List T} {c1 c2 : List Value} (h1 : CellsOf W L1 c1) (h2 : CellsOf W L2 c2) (hl : c1.length = L1.length * 4) : CellsOf W (L1 ++ L2) (c1 ++ c2) := by
  intro j k n s Lt hj
  rcases Nat.lt_or_ge j L1.length with hlt | hge
  · rw [List.getElem?_append_left hlt] at hj
    obtain ⟨a0, a1, a2, a3, a, l, c, a4, a5⟩ := h1 j k n s Lt hj
    have q : ∀ o u, c1[o]? = some u → (c1 ++ c2)[o]? = some u := fun o u hu => by
      rw [List.getElem?_append_left (List.getElem?_eq_some_iff.1 hu).1]
      exact hu
    exact ⟨a0, q _ _ a1, q _ _ a2, q _ _ a3, a, l, c, q _ _ a4, a5⟩
  · rw [List.getElem?_append_right hge] at hj
    obtain ⟨a0, a1, a2, a3, a, l, c, a4, a5⟩ := h2 (j - L1.length) k n s Lt hj
    have q : ∀ o u, c2[(j - L1.length) * 4 + o]? = some u → (c1 ++ c2)[j * 4 + o]? = some u := fun o u hu => by
      rw [List.getElem?_append_right (by omega), hl]
      rw [show j * 4 + o - L1.length * 4 = (j - L1.length) * 4 + o by omega]
      exact hu
    exact ⟨a0, q 0 _ a1, q 1 _ a2, q 2 _ a3, a, l, c, q 3 _ a4, a5⟩

/-- A row of one's own that holds a list's cells is that list. -/
theorem lies_row {W w : World} {B n : Nat} {v : Value} {cs : List Value} {L : List T} (h : w.ownsRow B 30 4 v n cs) (hn : n = L.length) (hl : L.length ≤ 9223372036854775807) (hc : CellsOf W L cs) (hk : ∀ Lt a l, LiesS W Lt a l → LiesS w Lt a l) :
    ∃ a c, v = .slice a n c ∧ n ≤ c ∧ LiesS w L a n := by
  rcases h.2 with ⟨rfl, rfl⟩ | ⟨g, cap, cur, rfl, h1, h2, h3, h4, h5, h6⟩
  · have : L = [] := List.length_eq_zero_iff.1 hn.symm
    subst this
    exact ⟨none, 0, rfl, Nat.le_refl _, by unfold LiesS; rfl⟩
  · refine ⟨_, cap, rfl, h3, ?_⟩
    subst hn
    have hg' : g < w.heap.size := (Array.getElem?_eq_some_iff.1 h2).1
    have q : ∀ o u, cs[o]? = some u → w.cell? ⟨g, o, none⟩ = some u := fun o u hu => by
      rw [← h6, List.getElem?_take] at hu
      rw [cell_of h2]
      split at hu
      · simpa using hu
      · cases hu
    have all : ∀ m, m ≤ L.length → LiesS w (L.drop (L.length - m)) (some ⟨g, (L.length - m) * 4, none⟩) m := by
      intro m
      induction m with
      | zero =>
        intro _
        rw [Nat.sub_zero, List.drop_length]
        unfold LiesS
        rfl
      | succ m ih =>
        intro hm
        have ih := ih (by omega)
        obtain ⟨j, hj⟩ : ∃ j, j = L.length - (m + 1) := ⟨_, rfl⟩
        have hj' : L.length - m = j + 1 := by omega
        have hjl : j < L.length := by omega
        have hm63 : m + 1 ≤ 9223372036854775807 := by omega
        have hlen : (L.drop (j + 1)).length = m := by rw [List.length_drop]; omega
        rw [← hj]
        rw [hj'] at ih
        obtain ⟨t, ht, hd⟩ := drop_get (L := L) (i := j) (by omega)
        obtain ⟨k, n, s, Lt⟩ := t
        obtain ⟨a0, a1, a2, a3, a, l, c, a4, a5, a6⟩ := hc j k n s Lt ht
        rw [hd]
        unfold LiesS
        refine ⟨g, j * 4, rfl, by rw [hlen], hm63, hg', ?_, ?_⟩
        · unfold LiesT
          exact ⟨a0, a, l, c, q _ _ a1, q _ _ a2, q _ _ a3, q _ _ a4, a5, hk _ _ _ a6⟩
        · rw [hlen]
          rw [show j * 4 + 4 = (j + 1) * 4 from by omega]
          exact ih
    have := all L.length (Nat.le_refl _)
    rw [Nat.sub_self, List.drop_zero, Nat.zero_mul] at this
    exact this

theorem wt_both : ∀ (L1 L2 : List T), wtL (L1 ++ L2) + 1 = wtL L1 + wtL L2
  | [], L2 => by
    rw [List.nil_append, wtL]
    omega
  | t :: ts, L2 => by
    have := wt_both ts L2
    rw [List.cons_append, wtL, wtL]
    omega
end Go.Proofs.YtfjlpjemccllaaaDoor
