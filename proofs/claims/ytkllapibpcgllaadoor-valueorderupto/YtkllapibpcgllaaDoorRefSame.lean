/-
  What is proved here: what espalierref.SameOf answers of two trees that lie in memory: whether they are the same, or that it can't be known.
-/
import Derived.Test.YtkllapibpcgllaaDoorRefLess
import Derived.Deep.RegionHeld3
import Derived.Deep.DeepFit
namespace Go.Proofs.YtkllapibpcgllaaDoor
open Go.RowKit
set_option linter.unusedVariables false

set_option maxHeartbeats 4000000 in
set_option maxRecDepth 100000 in
theorem sameOf_null (k n : Int) (s : ByteArray) (a : Option Addr) (l c : Nat) (k' n' : Int) (s' : ByteArray) (a' : Option Addr) (l' c' : Nat) (w : World) (h : k = 0 ∨ k' = 0) :
    Calls Tryd.prog 15 #[.agg #[.int .i64 k, .int .i64 n, .string s, .slice a l c], .agg #[.int .i64 k', .int .i64 n', .string s', .slice a' l' c']] w fun e w' => e = .returned (.agg #[.int .i64 0, .int .i64 0, .string ⟨#[]⟩, .slice none 0 0]) ∧ Below w.heap.size w w' := by
  have cT : Hid (∀ W, Calls Tryd.prog 30 #[.int .i64 2] W fun e w' => e = .returned (.agg #[.int .i64 0, .int .i64 0, .string ⟨#[]⟩, .slice none 0 0]) ∧ Below W.heap.size W w') := fun W => truthOf 2 W
  go_enter Tryd.func15, Tryd.ntmps15
  go_upto_region 1 with fail
  go_cut [15] (fun s15 wx => s15 = .bool true ∧ wx = (((w.alloc (.cells #[.int .i64 k, .int .i64 n, .string s, .slice a l c] 24)).alloc (.cells #[.int .i64 k', .int .i64 n', .string s', .slice a' l' c'] 24)).alloc (.cells #[.int .i64 0, .int .i64 0, .string ⟨#[]⟩, .slice none 0 0] 24)))
  case first =>
    by_cases e1 : k = 0
    · subst e1
      clear h
      go_wp2_with fail
      go_meet
      exact ⟨rfl, rfl⟩
    · have e2 : k' = 0 := by omega
      subst e2
      have h2 : (k == 0) = false := by simp [e1]
      clear h
      go_wp2_with fail
      go_meet
      exact ⟨rfl, rfl⟩
  case rest =>
    obtain ⟨rfl, rfl⟩ := hcut
    have b0 : Below w.heap.size w (((w.alloc (.cells #[.int .i64 k, .int .i64 n, .string s, .slice a l c] 24)).alloc (.cells #[.int .i64 k', .int .i64 n', .string s', .slice a' l' c'] 24)).alloc (.cells #[.int .i64 0, .int .i64 0, .string ⟨#[]⟩, .slice none 0 0] 24)) := (((Below.refl _ _).alloc (Nat.le_refl _) _).alloc (by simp) _).alloc (by simp; omega) _
    have hbox := alloc_three w (.cells #[.int .i64 k, .int .i64 n, .string s, .slice a l c] 24) (.cells #[.int .i64 k', .int .i64 n', .string s', .slice a' l' c'] 24) (.cells #[.int .i64 0, .int .i64 0, .string ⟨#[]⟩, .slice none 0 0] 24)
    have hsz : (((w.alloc (.cells #[.int .i64 k, .int .i64 n, .string s, .slice a l c] 24)).alloc (.cells #[.int .i64 k', .int .i64 n', .string s', .slice a' l' c'] 24)).alloc (.cells #[.int .i64 0, .int .i64 0, .string ⟨#[]⟩, .slice none 0 0] 24)).heap.size = w.heap.size + 1 + 1 + 1 := by simp
    go_wp2_with fail
    refine (cT.out _).mono ?_
    rintro e w2 ⟨rfl, k2⟩
    have c2 := below2 b0 k2
    have hb2 := (k2.block (w.heap.size + 1 + 1) (by omega)).trans hbox
    clear hbox hsz
    have x0 := cell_of hb2 0
    have x1 := cell_of hb2 1
    have x2 := cell_of hb2 2
    have x3 := cell_of hb2 3
    have y0 := free_of hb2 0
    have y1 := free_of hb2 1
    have y2 := free_of hb2 2
    have y3 := free_of hb2 3
    simp at x0 x1 x2 x3
    have HBX := toHid hb2
    clear hb2
    go_wp2_with fail
    have zz := put4_here HBX.out (.int .i64 0) (.int .i64 0) (.string ⟨#[]⟩) (.slice none 0 0)
    have zb := put4_below w2 (w.heap.size + 1 + 1) (.int .i64 0) (.int .i64 0) (.string ⟨#[]⟩) (.slice none 0 0)
    have t0 := cell_of zz 0
    have t1 := cell_of zz 1
    have t2 := cell_of zz 2
    have t3 := cell_of zz 3
    have eP : (((w2.setCell ⟨w.heap.size + 1 + 1, 0, none⟩ (.int .i64 0)).setCell ⟨w.heap.size + 1 + 1, 1, none⟩ (.int .i64 0)).setCell ⟨w.heap.size + 1 + 1, 2, none⟩ (.string ⟨#[]⟩)).setCell ⟨w.heap.size + 1 + 1, 3, none⟩ (.slice none 0 0) = put4 w2 (w.heap.size + 1 + 1) (.int .i64 0) (.int .i64 0) (.string ⟨#[]⟩) (.slice none 0 0) := rfl
    rw [eP]
    clear eP
    generalize put4 w2 (w.heap.size + 1 + 1) (.int .i64 0) (.int .i64 0) (.string ⟨#[]⟩) (.slice none 0 0) = W9 at zz zb t0 t1 t2 t3 ⊢
    simp at t0 t1 t2 t3
    exact bodyPost_ret (v := .agg #[.int .i64 0, .int .i64 0, .string ⟨#[]⟩, .slice none 0 0]) (by simp [results, Tryd.results15, go_sem, t0, t1, t2, t3]) rfl ⟨rfl, c2.trans (zb.mono (by omega))⟩

set_option maxHeartbeats 4000000 in
set_option maxRecDepth 100000 in
theorem sameOf_plain (k n : Int) (s : ByteArray) (a : Option Addr) (l c : Nat) (k' n' : Int) (s' : ByteArray) (a' : Option Addr) (l' c' : Nat) (z : Int) (w : World) (h : ¬ (k = 0 ∨ k' = 0)) (h4 : ¬ (k = 4 ∧ k' = 4)) (hO : ∀ W, Below w.heap.size w W → Calls Tryd.prog 12 #[.agg #[.int .i64 k, .int .i64 n, .string s, .slice a l c], .agg #[.int .i64 k', .int .i64 n', .string s', .slice a' l' c']] W fun e w' => e = .returned (.int .i64 z) ∧ Below W.heap.size W w') :
    Calls Tryd.prog 15 #[.agg #[.int .i64 k, .int .i64 n, .string s, .slice a l c], .agg #[.int .i64 k', .int .i64 n', .string s', .slice a' l' c']] w fun e w' => e = .returned (sameV (if z = 0 then 1 else 0)) ∧ Below w.heap.size w w' := by
  have cS : Hid (∀ W, Below w.heap.size w W → Calls Tryd.prog 13 #[.agg #[.int .i64 k, .int .i64 n, .string s, .slice a l c], .agg #[.int .i64 k', .int .i64 n', .string s', .slice a' l' c']] W fun e w' => e = .returned (.bool (z == 0)) ∧ Below W.heap.size W w') := fun W kW => same_of k n s a l c k' n' s' a' l' c' z W (fun w2 k2 => hO w2 (below2 kW k2))
  obtain ⟨Y, hY⟩ : ∃ Y, Y = sameV (if z = 0 then 1 else 0) := ⟨_, rfl⟩
  rw [← hY]
  have HY := toHid hY
  clear hY
  have cT : Hid (∀ W, Calls Tryd.prog 30 #[.int .i64 1] W fun e w' => e = .returned (.agg #[.int .i64 1, .int .i64 1, .string ⟨#[]⟩, .slice none 0 0]) ∧ Below W.heap.size W w') := fun W => truthOf 1 W
  have cF : Hid (∀ W, Calls Tryd.prog 30 #[.int .i64 0] W fun e w' => e = .returned (.agg #[.int .i64 1, .int .i64 0, .string ⟨#[]⟩, .slice none 0 0]) ∧ Below W.heap.size W w') := fun W => truthOf 0 W
  have h1 : (k == 0) = false := by simp; omega
  have h2 : (k' == 0) = false := by simp; omega
  have H4 := toHid h4
  clear h h4 hO
  go_enter Tryd.func15, Tryd.ntmps15
  go_upto_region 3 with fail
  go_cut [24] (fun s24 wx => s24 = .bool false ∧ wx = (((w.alloc (.cells #[.int .i64 k, .int .i64 n, .string s, .slice a l c] 24)).alloc (.cells #[.int .i64 k', .int .i64 n', .string s', .slice a' l' c'] 24)).alloc (.cells #[.int .i64 0, .int .i64 0, .string ⟨#[]⟩, .slice none 0 0] 24)))
  case first =>
    by_cases e1 : k = 4
    · have e2 : (k' == 4) = false := by
        have := H4.out
        simp; omega
      subst e1
      go_wp2_with fail
      go_meet
      exact ⟨rfl, rfl⟩
    · have h3 : (k == 4) = false := by simp [e1]
      go_wp2_with fail
      go_meet
      exact ⟨rfl, rfl⟩
  case rest =>
    obtain ⟨rfl, rfl⟩ := hcut
    have b0 : Below w.heap.size w (((w.alloc (.cells #[.int .i64 k, .int .i64 n, .string s, .slice a l c] 24)).alloc (.cells #[.int .i64 k', .int .i64 n', .string s', .slice a' l' c'] 24)).alloc (.cells #[.int .i64 0, .int .i64 0, .string ⟨#[]⟩, .slice none 0 0] 24)) := (((Below.refl _ _).alloc (Nat.le_refl _) _).alloc (by simp) _).alloc (by simp; omega) _
    have hbox := alloc_three w (.cells #[.int .i64 k, .int .i64 n, .string s, .slice a l c] 24) (.cells #[.int .i64 k', .int .i64 n', .string s', .slice a' l' c'] 24) (.cells #[.int .i64 0, .int .i64 0, .string ⟨#[]⟩, .slice none 0 0] 24)
    have hsz : (((w.alloc (.cells #[.int .i64 k, .int .i64 n, .string s, .slice a l c] 24)).alloc (.cells #[.int .i64 k', .int .i64 n', .string s', .slice a' l' c'] 24)).alloc (.cells #[.int .i64 0, .int .i64 0, .string ⟨#[]⟩, .slice none 0 0] 24)).heap.size = w.heap.size + 1 + 1 + 1 := by simp
    go_wp2_with fail
    refine (cS.out _ b0).mono ?_
    rintro e w1 ⟨rfl, k1⟩
    have c1 := below2 b0 k1
    have hb1 := (k1.block (w.heap.size + 1 + 1) (by omega)).trans hbox
    have hs1 := k1.size
    by_cases hz : z = 0
    · have hz' : (z == 0) = true := by simp [hz]
      have HZ := toHid hz
      clear hz
      go_wp2_with fail
      refine (cT.out _).mono ?_
      rintro e w2 ⟨rfl, k2⟩
      have c2 := below2 c1 k2
      have hb2 := (k2.block (w.heap.size + 1 + 1) (by omega)).trans hb1
      clear hb1 hbox hsz
      have x0 := cell_of hb2 0
      have x1 := cell_of hb2 1
      have x2 := cell_of hb2 2
      have x3 := cell_of hb2 3
      have y0 := free_of hb2 0
      have y1 := free_of hb2 1
      have y2 := free_of hb2 2
      have y3 := free_of hb2 3
      simp at x0 x1 x2 x3
      have HBX := toHid hb2
      clear hb2
      go_wp2_with fail
      have zz := put4_here HBX.out (.int .i64 1) (.int .i64 1) (.string ⟨#[]⟩) (.slice none 0 0)
      have zb := put4_below w2 (w.heap.size + 1 + 1) (.int .i64 1) (.int .i64 1) (.string ⟨#[]⟩) (.slice none 0 0)
      have t0 := cell_of zz 0
      have t1 := cell_of zz 1
      have t2 := cell_of zz 2
      have t3 := cell_of zz 3
      have eP : (((w2.setCell ⟨w.heap.size + 1 + 1, 0, none⟩ (.int .i64 1)).setCell ⟨w.heap.size + 1 + 1, 1, none⟩ (.int .i64 1)).setCell ⟨w.heap.size + 1 + 1, 2, none⟩ (.string ⟨#[]⟩)).setCell ⟨w.heap.size + 1 + 1, 3, none⟩ (.slice none 0 0) = put4 w2 (w.heap.size + 1 + 1) (.int .i64 1) (.int .i64 1) (.string ⟨#[]⟩) (.slice none 0 0) := rfl
      rw [eP]
      clear eP
      generalize put4 w2 (w.heap.size + 1 + 1) (.int .i64 1) (.int .i64 1) (.string ⟨#[]⟩) (.slice none 0 0) = W9 at zz zb t0 t1 t2 t3 ⊢
      simp at t0 t1 t2 t3
      exact bodyPost_ret (v := .agg #[.int .i64 1, .int .i64 1, .string ⟨#[]⟩, .slice none 0 0]) (by simp [results, Tryd.results15, go_sem, t0, t1, t2, t3]) rfl ⟨by rw [HY.out, if_pos HZ.out]; rfl, c2.trans (zb.mono (by omega))⟩
    · have hz' : (z == 0) = false := by simp [hz]
      have HZ := toHid hz
      clear hz
      go_wp2_with fail
      refine (cF.out _).mono ?_
      rintro e w2 ⟨rfl, k2⟩
      have c2 := below2 c1 k2
      have hb2 := (k2.block (w.heap.size + 1 + 1) (by omega)).trans hb1
      clear hb1 hbox hsz
      have x0 := cell_of hb2 0
      have x1 := cell_of hb2 1
      have x2 := cell_of hb2 2
      have x3 := cell_of hb2 3
      have y0 := free_of hb2 0
      have y1 := free_of hb2 1
      have y2 := free_of hb2 2
      have y3 := free_of hb2 3
      simp at x0 x1 x2 x3
      have HBX := toHid hb2
      clear hb2
      go_wp2_with fail
      have zz := put4_here HBX.out (.int .i64 1) (.int .i64 0) (.string ⟨#[]⟩) (.slice none 0 0)
      have zb := put4_below w2 (w.heap.size + 1 + 1) (.int .i64 1) (.int .i64 0) (.string ⟨#[]⟩) (.slice none 0 0)
      have t0 := cell_of zz 0
      have t1 := cell_of zz 1
      have t2 := cell_of zz 2
      have t3 := cell_of zz 3
      have eP : (((w2.setCell ⟨w.heap.size + 1 + 1, 0, none⟩ (.int .i64 1)).setCell ⟨w.heap.size + 1 + 1, 1, none⟩ (.int .i64 0)).setCell ⟨w.heap.size + 1 + 1, 2, none⟩ (.string ⟨#[]⟩)).setCell ⟨w.heap.size + 1 + 1, 3, none⟩ (.slice none 0 0) = put4 w2 (w.heap.size + 1 + 1) (.int .i64 1) (.int .i64 0) (.string ⟨#[]⟩) (.slice none 0 0) := rfl
      rw [eP]
      clear eP
      generalize put4 w2 (w.heap.size + 1 + 1) (.int .i64 1) (.int .i64 0) (.string ⟨#[]⟩) (.slice none 0 0) = W9 at zz zb t0 t1 t2 t3 ⊢
      simp at t0 t1 t2 t3
      exact bodyPost_ret (v := .agg #[.int .i64 1, .int .i64 0, .string ⟨#[]⟩, .slice none 0 0]) (by simp [results, Tryd.results15, go_sem, t0, t1, t2, t3]) rfl ⟨by rw [HY.out, if_neg HZ.out]; rfl, c2.trans (zb.mono (by omega))⟩

set_option maxHeartbeats 4000000 in
set_option maxRecDepth 100000 in
theorem sameOf_len (n : Int) (s : ByteArray) (a : Option Addr) (l c : Nat) (n' : Int) (s' : ByteArray) (a' : Option Addr) (l' c' : Nat) (w : World) (hl : l ≤ 9223372036854775807) (hl' : l' ≤ 9223372036854775807) (h : l ≠ l') :
    Calls Tryd.prog 15 #[.agg #[.int .i64 4, .int .i64 n, .string s, .slice a l c], .agg #[.int .i64 4, .int .i64 n', .string s', .slice a' l' c']] w fun e w' => e = .returned (.agg #[.int .i64 1, .int .i64 0, .string ⟨#[]⟩, .slice none 0 0]) ∧ Below w.heap.size w w' := by
  have cF : Hid (∀ W, Calls Tryd.prog 30 #[.int .i64 0] W fun e w' => e = .returned (.agg #[.int .i64 1, .int .i64 0, .string ⟨#[]⟩, .slice none 0 0]) ∧ Below W.heap.size W w') := fun W => truthOf 0 W
  have h1 : ((l : Int) != (l' : Int)) = true := by simp; omega
  have b0 : Below w.heap.size w (((w.alloc (.cells #[.int .i64 4, .int .i64 n, .string s, .slice a l c] 24)).alloc (.cells #[.int .i64 4, .int .i64 n', .string s', .slice a' l' c'] 24)).alloc (.cells #[.int .i64 0, .int .i64 0, .string ⟨#[]⟩, .slice none 0 0] 24)) := (((Below.refl _ _).alloc (Nat.le_refl _) _).alloc (by simp) _).alloc (by simp; omega) _
  have hbox := alloc_three w (.cells #[.int .i64 4, .int .i64 n, .string s, .slice a l c] 24) (.cells #[.int .i64 4, .int .i64 n', .string s', .slice a' l' c'] 24) (.cells #[.int .i64 0, .int .i64 0, .string ⟨#[]⟩, .slice none 0 0] 24)
  have hsz : (((w.alloc (.cells #[.int .i64 4, .int .i64 n, .string s, .slice a l c] 24)).alloc (.cells #[.int .i64 4, .int .i64 n', .string s', .slice a' l' c'] 24)).alloc (.cells #[.int .i64 0, .int .i64 0, .string ⟨#[]⟩, .slice none 0 0] 24)).heap.size = w.heap.size + 1 + 1 + 1 := by simp
  have HB := toHid hbox
  have HS := toHid hsz
  clear h hbox hsz
  go_enter Tryd.func15, Tryd.ntmps15
  go_wp2_with fail
  refine (cF.out _).mono ?_
  rintro e w2 ⟨rfl, k2⟩
  have c2 := below2 b0 k2
  have hb2 := (k2.block (w.heap.size + 1 + 1) (by have := HS.out; omega)).trans HB.out
  have x0 := cell_of hb2 0
  have x1 := cell_of hb2 1
  have x2 := cell_of hb2 2
  have x3 := cell_of hb2 3
  have y0 := free_of hb2 0
  have y1 := free_of hb2 1
  have y2 := free_of hb2 2
  have y3 := free_of hb2 3
  simp at x0 x1 x2 x3
  have HBX := toHid hb2
  clear hb2
  go_wp2_with fail
  have zz := put4_here HBX.out (.int .i64 1) (.int .i64 0) (.string ⟨#[]⟩) (.slice none 0 0)
  have zb := put4_below w2 (w.heap.size + 1 + 1) (.int .i64 1) (.int .i64 0) (.string ⟨#[]⟩) (.slice none 0 0)
  have t0 := cell_of zz 0
  have t1 := cell_of zz 1
  have t2 := cell_of zz 2
  have t3 := cell_of zz 3
  have eP : (((w2.setCell ⟨w.heap.size + 1 + 1, 0, none⟩ (.int .i64 1)).setCell ⟨w.heap.size + 1 + 1, 1, none⟩ (.int .i64 0)).setCell ⟨w.heap.size + 1 + 1, 2, none⟩ (.string ⟨#[]⟩)).setCell ⟨w.heap.size + 1 + 1, 3, none⟩ (.slice none 0 0) = put4 w2 (w.heap.size + 1 + 1) (.int .i64 1) (.int .i64 0) (.string ⟨#[]⟩) (.slice none 0 0) := rfl
  rw [eP]
  clear eP
  generalize put4 w2 (w.heap.size + 1 + 1) (.int .i64 1) (.int .i64 0) (.string ⟨#[]⟩) (.slice none 0 0) = W9 at zz zb t0 t1 t2 t3 ⊢
  simp at t0 t1 t2 t3
  exact bodyPost_ret (v := .agg #[.int .i64 1, .int .i64 0, .string ⟨#[]⟩, .slice none 0 0]) (by simp [results, Tryd.results15, go_sem, t0, t1, t2, t3]) rfl ⟨rfl, c2.trans (zb.mono (by omega))⟩

set_option maxHeartbeats 4000000 in
set_option maxRecDepth 100000 in
theorem sameOf_empty (n : Int) (s : ByteArray) (a : Option Addr) (c : Nat) (n' : Int) (s' : ByteArray) (a' : Option Addr) (c' : Nat) (w : World) :
    Calls Tryd.prog 15 #[.agg #[.int .i64 4, .int .i64 n, .string s, .slice a 0 c], .agg #[.int .i64 4, .int .i64 n', .string s', .slice a' 0 c']] w fun e w' => e = .returned (.agg #[.int .i64 1, .int .i64 1, .string ⟨#[]⟩, .slice none 0 0]) ∧ Below w.heap.size w w' := by
  have cT : Hid (∀ W, Calls Tryd.prog 30 #[.int .i64 1] W fun e w' => e = .returned (.agg #[.int .i64 1, .int .i64 1, .string ⟨#[]⟩, .slice none 0 0]) ∧ Below W.heap.size W w') := fun W => truthOf 1 W
  have b0 : Below w.heap.size w (((w.alloc (.cells #[.int .i64 4, .int .i64 n, .string s, .slice a 0 c] 24)).alloc (.cells #[.int .i64 4, .int .i64 n', .string s', .slice a' 0 c'] 24)).alloc (.cells #[.int .i64 0, .int .i64 0, .string ⟨#[]⟩, .slice none 0 0] 24)) := (((Below.refl _ _).alloc (Nat.le_refl _) _).alloc (by simp) _).alloc (by simp; omega) _
  have hbox := alloc_three w (.cells #[.int .i64 4, .int .i64 n, .string s, .slice a 0 c] 24) (.cells #[.int .i64 4, .int .i64 n', .string s', .slice a' 0 c'] 24) (.cells #[.int .i64 0, .int .i64 0, .string ⟨#[]⟩, .slice none 0 0] 24)
  have hsz : (((w.alloc (.cells #[.int .i64 4, .int .i64 n, .string s, .slice a 0 c] 24)).alloc (.cells #[.int .i64 4, .int .i64 n', .string s', .slice a' 0 c'] 24)).alloc (.cells #[.int .i64 0, .int .i64 0, .string ⟨#[]⟩, .slice none 0 0] 24)).heap.size = w.heap.size + 1 + 1 + 1 := by simp
  have HB := toHid hbox
  have HS := toHid hsz
  clear hbox hsz
  go_enter Tryd.func15, Tryd.ntmps15
  go_wp2_with fail
  generalize (((w.alloc (.cells #[.int .i64 4, .int .i64 n, .string s, .slice a 0 c] 24)).alloc (.cells #[.int .i64 4, .int .i64 n', .string s', .slice a' 0 c'] 24)).alloc (.cells #[.int .i64 0, .int .i64 0, .string ⟨#[]⟩, .slice none 0 0] 24)) = W0 at b0 HB HS ⊢
  go_loopg [5, 36] 0 (fun g s5 s36 wr => s5 = .bool false ∧ s36 = .int .i64 0 ∧ wr = W0)
  case atStart => exact ⟨rfl, rfl, rfl⟩
  case round =>
    obtain ⟨rfl, rfl, rfl⟩ := hrel
    go_wp2_with fail
    refine (cT.out _).mono ?_
    rintro e w2 ⟨rfl, k2⟩
    have c2 := below2 b0 k2
    have hb2 := (k2.block (w.heap.size + 1 + 1) (by have := HS.out; omega)).trans HB.out
    have x0 := cell_of hb2 0
    have x1 := cell_of hb2 1
    have x2 := cell_of hb2 2
    have x3 := cell_of hb2 3
    have y0 := free_of hb2 0
    have y1 := free_of hb2 1
    have y2 := free_of hb2 2
    have y3 := free_of hb2 3
    simp at x0 x1 x2 x3
    have HBX := toHid hb2
    clear hb2
    go_wp2_with fail
    have zz := put4_here HBX.out (.int .i64 1) (.int .i64 1) (.string ⟨#[]⟩) (.slice none 0 0)
    have zb := put4_below w2 (w.heap.size + 1 + 1) (.int .i64 1) (.int .i64 1) (.string ⟨#[]⟩) (.slice none 0 0)
    have t0 := cell_of zz 0
    have t1 := cell_of zz 1
    have t2 := cell_of zz 2
    have t3 := cell_of zz 3
    have eP : (((w2.setCell ⟨w.heap.size + 1 + 1, 0, none⟩ (.int .i64 1)).setCell ⟨w.heap.size + 1 + 1, 1, none⟩ (.int .i64 1)).setCell ⟨w.heap.size + 1 + 1, 2, none⟩ (.string ⟨#[]⟩)).setCell ⟨w.heap.size + 1 + 1, 3, none⟩ (.slice none 0 0) = put4 w2 (w.heap.size + 1 + 1) (.int .i64 1) (.int .i64 1) (.string ⟨#[]⟩) (.slice none 0 0) := rfl
    rw [eP]
    clear eP
    generalize put4 w2 (w.heap.size + 1 + 1) (.int .i64 1) (.int .i64 1) (.string ⟨#[]⟩) (.slice none 0 0) = W9 at zz zb t0 t1 t2 t3 ⊢
    simp at t0 t1 t2 t3
    exact bodyPost_ret (v := .agg #[.int .i64 1, .int .i64 1, .string ⟨#[]⟩, .slice none 0 0]) (by simp [results, Tryd.results15, go_sem, t0, t1, t2, t3]) rfl ⟨rfl, c2.trans (zb.mono (by omega))⟩

/-- What one knows so far, as an answer. -/
def ku (un : Bool) : Int := if un then 2 else 1

theorem ku_tri (un : Bool) : Tri (ku un) := by
  cases un
  · exact .inr (.inl rfl)
  · exact .inr (.inr rfl)

theorem ku_null {un : Bool} {S : Int} (hS : Tri S) : meet (ku un) (meet 2 S) = meet (ku true) S := by
  cases un <;> rcases hS with rfl | rfl | rfl <;> simp [meet, ku]

set_option maxHeartbeats 4000000 in
set_option maxRecDepth 100000 in
theorem sameOf_list (n : Int) (s : ByteArray) (b off l c : Nat) (n' : Int) (s' : ByteArray) (b' off' c' : Nat) (L L' : List T) (w : World) (hL : LiesS w L (some ⟨b, off, none⟩) l) (hL' : LiesS w L' (some ⟨b', off', none⟩) l) (hll : l ≤ 2097152)
    (hE : ∀ (kt nt : Int) (st : ByteArray) (at' : Option Addr) (lt ct : Nat) (Lt : List T) (ku nu : Int) (su : ByteArray) (au' : Option Addr) (lu cu : Nat) (Lu : List T) (W : World), wtL Lt < wtL L → wtL Lu < wtL L' → LiesS w Lt at' lt → LiesS w Lu au' lu → Below w.heap.size w W → Calls Tryd.prog 15 #[.agg #[.int .i64 kt, .int .i64 nt, .string st, .slice at' lt ct], .agg #[.int .i64 ku, .int .i64 nu, .string su, .slice au' lu cu]] W fun e w' => e = .returned (sameV (sameT (.node kt nt st Lt) (.node ku nu su Lu))) ∧ Below W.heap.size W w') :
    Calls Tryd.prog 15 #[.agg #[.int .i64 4, .int .i64 n, .string s, .slice (some ⟨b, off, none⟩) l c], .agg #[.int .i64 4, .int .i64 n', .string s', .slice (some ⟨b', off', none⟩) l c']] w fun e w' => e = .returned (sameV (sameL L L')) ∧ Below w.heap.size w w' := by
  obtain ⟨R, hR⟩ : ∃ R, R = sameL L L' := ⟨_, rfl⟩
  rw [← hR]
  have cF : Hid (∀ W, Calls Tryd.prog 30 #[.int .i64 0] W fun e w' => e = .returned (.agg #[.int .i64 1, .int .i64 0, .string ⟨#[]⟩, .slice none 0 0]) ∧ Below W.heap.size W w') := fun W => truthOf 0 W
  have cT : Hid (∀ W, Calls Tryd.prog 30 #[.int .i64 1] W fun e w' => e = .returned (.agg #[.int .i64 1, .int .i64 1, .string ⟨#[]⟩, .slice none 0 0]) ∧ Below W.heap.size W w') := fun W => truthOf 1 W
  have cU : Hid (∀ W, Calls Tryd.prog 30 #[.int .i64 2] W fun e w' => e = .returned (.agg #[.int .i64 0, .int .i64 0, .string ⟨#[]⟩, .slice none 0 0]) ∧ Below W.heap.size W w') := fun W => truthOf 2 W
  have b0 : Below w.heap.size w (((w.alloc (.cells #[.int .i64 4, .int .i64 n, .string s, .slice (some ⟨b, off, none⟩) l c] 24)).alloc (.cells #[.int .i64 4, .int .i64 n', .string s', .slice (some ⟨b', off', none⟩) l c'] 24)).alloc (.cells #[.int .i64 0, .int .i64 0, .string ⟨#[]⟩, .slice none 0 0] 24)) := (((Below.refl _ _).alloc (Nat.le_refl _) _).alloc (by simp) _).alloc (by simp; omega) _
  have hbox := alloc_three w (.cells #[.int .i64 4, .int .i64 n, .string s, .slice (some ⟨b, off, none⟩) l c] 24) (.cells #[.int .i64 4, .int .i64 n', .string s', .slice (some ⟨b', off', none⟩) l c'] 24) (.cells #[.int .i64 0, .int .i64 0, .string ⟨#[]⟩, .slice none 0 0] 24)
  have hsz : (((w.alloc (.cells #[.int .i64 4, .int .i64 n, .string s, .slice (some ⟨b, off, none⟩) l c] 24)).alloc (.cells #[.int .i64 4, .int .i64 n', .string s', .slice (some ⟨b', off', none⟩) l c'] 24)).alloc (.cells #[.int .i64 0, .int .i64 0, .string ⟨#[]⟩, .slice none 0 0] 24)).heap.size = w.heap.size + 1 + 1 + 1 := by simp
  have x3 : (((w.alloc (.cells #[.int .i64 4, .int .i64 n, .string s, .slice (some ⟨b, off, none⟩) l c] 24)).alloc (.cells #[.int .i64 4, .int .i64 n', .string s', .slice (some ⟨b', off', none⟩) l c'] 24)).alloc (.cells #[.int .i64 0, .int .i64 0, .string ⟨#[]⟩, .slice none 0 0] 24)).cell? ⟨w.heap.size, 3, none⟩ = some (.slice (some ⟨b, off, none⟩) l c) := (cell_past _ _ _ _ (by simp; omega)).trans ((cell_past _ _ _ _ (by simp)).trans (cell_of (alloc_new w _) 3))
  have y3 : (((w.alloc (.cells #[.int .i64 4, .int .i64 n, .string s, .slice (some ⟨b, off, none⟩) l c] 24)).alloc (.cells #[.int .i64 4, .int .i64 n', .string s', .slice (some ⟨b', off', none⟩) l c'] 24)).alloc (.cells #[.int .i64 0, .int .i64 0, .string ⟨#[]⟩, .slice none 0 0] 24)).cell? ⟨w.heap.size + 1, 3, none⟩ = some (.slice (some ⟨b', off', none⟩) l c') := (cell_past _ _ _ _ (by simp)).trans (cell_of (alloc_two w _ _) 3)
  have HR := toHid hR
  have HL := toHid hL
  have HL' := toHid hL'
  have HE := toHid hE
  have HBX := toHid hbox
  have HSZ := toHid hsz
  have X3 := toHid x3
  have Y3 := toHid y3
  clear hR hL hL' hE hbox hsz x3 y3
  go_enter Tryd.func15, Tryd.ntmps15
  go_wp2_with fail
  generalize (((w.alloc (.cells #[.int .i64 4, .int .i64 n, .string s, .slice (some ⟨b, off, none⟩) l c] 24)).alloc (.cells #[.int .i64 4, .int .i64 n', .string s', .slice (some ⟨b', off', none⟩) l c'] 24)).alloc (.cells #[.int .i64 0, .int .i64 0, .string ⟨#[]⟩, .slice none 0 0] 24)) = W0 at b0 HBX HSZ X3 Y3 ⊢
  go_loopg [5, 36] l (fun g s5 s36 wr => ∃ (un : Bool) (i : Nat), s5 = .bool un ∧ s36 = .int .i64 i ∧ i ≤ l ∧ l - i ≤ g ∧ Below W0.heap.size W0 wr ∧ R = meet (ku un) (sameL (L.drop i) (L'.drop i)))
  case atStart =>
    refine ⟨false, 0, rfl, rfl, Nat.zero_le _, by omega, Below.refl _ _, ?_⟩
    rw [HR.out]
    exact (meet_one (sameL_tri _ _)).symm
  case round =>
    clear HR
    obtain ⟨un, i, rfl, rfl, hi, hg, hb, hRi⟩ := hrel
    have HR := toHid hRi
    have hsr := hb.size
    have hsz := HSZ.out
    have cw := below2 b0 hb
    clear hRi
    by_cases hlt : i < l
    · obtain ⟨kt, nt, st, Lt, at', lt, ct, hbb, hd, p0, p1, p2, p3, hlc, hLt, hwt⟩ := HL.out.at hlt
      obtain ⟨ku', nu, su, Lu, au', lu, cu, hbb', hd', q0, q1, q2, q3, hluc, hLu, hwu⟩ := HL'.out.at hlt
      have cE : Hid (∀ W, Below w.heap.size w W → Calls Tryd.prog 15 #[.agg #[.int .i64 kt, .int .i64 nt, .string st, .slice at' lt ct], .agg #[.int .i64 ku', .int .i64 nu, .string su, .slice au' lu cu]] W fun e w' => e = .returned (sameV (sameT (.node kt nt st Lt) (.node ku' nu su Lu))) ∧ Below W.heap.size W w') := fun W kW => HE.out kt nt st at' lt ct Lt ku' nu su au' lu cu Lu W hwt hwu hLt hLu kW
      have hRd : R = meet (ku un) (meet (sameT (.node kt nt st Lt) (.node ku' nu su Lu)) (sameL (L.drop (i + 1)) (L'.drop (i + 1)))) := by
        have h1 := HR.out
        rw [hd, hd', sameL_cons] at h1
        exact h1
      have c0 := (cw.cell hbb).trans p0
      have c1 := (cw.cell hbb).trans p1
      have c2 := (cw.cell hbb).trans p2
      have c3 := (cw.cell hbb).trans p3
      have d0 := (cw.cell hbb').trans q0
      have d1 := (cw.cell hbb').trans q1
      have d2 := (cw.cell hbb').trans q2
      have d3 := (cw.cell hbb').trans q3
      have x3 : wr.cell? ⟨w.heap.size, 3, none⟩ = some (.slice (some ⟨b, off, none⟩) l c) := (hb.cell (by show w.heap.size < _; omega)).trans X3.out
      have y3 : wr.cell? ⟨w.heap.size + 1, 3, none⟩ = some (.slice (some ⟨b', off', none⟩) l c') := (hb.cell (by show w.heap.size + 1 < _; omega)).trans Y3.out
      obtain ⟨v, hv⟩ : ∃ v, sameT (.node kt nt st Lt) (.node ku' nu su Lu) = v := ⟨_, rfl⟩
      have htri : Tri v := by rw [← hv]; exact sameT_tri _ _
      rw [hv] at hRd
      obtain ⟨vk, hvk⟩ : ∃ vk : Int, vk = (if v = 2 then 0 else 1) := ⟨_, rfl⟩
      obtain ⟨vn, hvn⟩ : ∃ vn : Int, vn = (if v = 2 then 0 else v) := ⟨_, rfl⟩
      have cV : Hid (∀ W, Below w.heap.size w W → Calls Tryd.prog 15 #[.agg #[.int .i64 kt, .int .i64 nt, .string st, .slice at' lt ct], .agg #[.int .i64 ku', .int .i64 nu, .string su, .slice au' lu cu]] W fun e w' => e = .returned (.agg #[.int .i64 vk, .int .i64 vn, .string ⟨#[]⟩, .slice none 0 0]) ∧ Below W.heap.size W w') := fun W kW => by
        have := cE.out W kW
        rw [hv] at this
        have e : sameV v = .agg #[.int .i64 vk, .int .i64 vn, .string ⟨#[]⟩, .slice none 0 0] := by
          rw [hvk, hvn]
          unfold sameV
          split <;> rfl
        rw [e] at this
        exact this
      have HRd := toHid hRd
      have HVK := toHid hvk
      have HVN := toHid hvn
      have i1 : (i : Int) < (l : Int) := by omega
      have hbr : b < wr.heap.size := by omega
      have hbr' : b' < wr.heap.size := by omega
      clear p0 p1 p2 p3 q0 q1 q2 q3 hd hd' hLt hLu cE HR hRd hvk hvn hv hwt hwu
      have n1 : ¬ wr.heap.size = w.heap.size := by omega
      have n2 : ¬ wr.heap.size = w.heap.size + 1 := by omega
      have n3 : ¬ wr.heap.size = b := by omega
      have n4 : ¬ wr.heap.size = b' := by omega
      go_upto_region 10 with fail
      go_cut [7] (fun s7 wx => ∃ p, s7 = .pointer (some ⟨p, 0, none⟩) ∧ wr.heap.size ≤ p ∧ wx.heap[p]? = some (.cells #[.int .i64 vk, .int .i64 vn, .string ⟨#[]⟩, .slice none 0 0] 24 (0, 0)) ∧ Below wr.heap.size wr wx)
      case first =>
        go_region_held3 (fun w' => w'.cell? ⟨w.heap.size, 3, none⟩ = some (.slice (some ⟨b, off, none⟩) l c) ∧ w'.cell? ⟨w.heap.size + 1, 3, none⟩ = some (.slice (some ⟨b', off', none⟩) l c') ∧ w'.cell? ⟨b, off + i * 4, none⟩ = some (.int .i64 kt) ∧ w'.cell? ⟨b, off + i * 4 + 1, none⟩ = some (.int .i64 nt) ∧ w'.cell? ⟨b, off + i * 4 + 1 + 1, none⟩ = some (.string st) ∧ w'.cell? ⟨b, off + i * 4 + 1 + 1 + 1, none⟩ = some (.slice at' lt ct) ∧ w'.cell? ⟨b', off' + i * 4, none⟩ = some (.int .i64 ku') ∧ w'.cell? ⟨b', off' + i * 4 + 1, none⟩ = some (.int .i64 nu) ∧ w'.cell? ⟨b', off' + i * 4 + 1 + 1, none⟩ = some (.string su) ∧ w'.cell? ⟨b', off' + i * 4 + 1 + 1 + 1, none⟩ = some (.slice au' lu cu))
          (first
            | exact ⟨x3, y3, c0, c1, c2, c3, d0, d1, d2, d3⟩
            | exact S1
            | (simp only [World.cell?_setCell_far, ne_eq, n1, n2, n3, n4, not_false_eq_true]; exact S1)
            | go_keep)
          (first
            | (go_at_call 15
               go_fit (cV.out _ (by first | exact cw.drew | exact (cw.drew).alloc cw.size _))
               rintro e u ⟨rfl, h1⟩
               have k1 : Below wr.heap.size wr u := by first | exact ((Below.refl _ _).drew).trans h1 | exact (((Below.refl _ _).drew).alloc (Nat.le_refl _) _).trans (h1.mono (by simp))
               have S1 : u.cell? ⟨w.heap.size, 3, none⟩ = some (.slice (some ⟨b, off, none⟩) l c) ∧ u.cell? ⟨w.heap.size + 1, 3, none⟩ = some (.slice (some ⟨b', off', none⟩) l c') ∧ u.cell? ⟨b, off + i * 4, none⟩ = some (.int .i64 kt) ∧ u.cell? ⟨b, off + i * 4 + 1, none⟩ = some (.int .i64 nt) ∧ u.cell? ⟨b, off + i * 4 + 1 + 1, none⟩ = some (.string st) ∧ u.cell? ⟨b, off + i * 4 + 1 + 1 + 1, none⟩ = some (.slice at' lt ct) ∧ u.cell? ⟨b', off' + i * 4, none⟩ = some (.int .i64 ku') ∧ u.cell? ⟨b', off' + i * 4 + 1, none⟩ = some (.int .i64 nu) ∧ u.cell? ⟨b', off' + i * 4 + 1 + 1, none⟩ = some (.string su) ∧ u.cell? ⟨b', off' + i * 4 + 1 + 1 + 1, none⟩ = some (.slice au' lu cu) := ⟨(k1.cell (by show w.heap.size < _; omega)).trans x3, (k1.cell (by show w.heap.size + 1 < _; omega)).trans y3, (k1.cell hbr).trans c0, (k1.cell hbr).trans c1, (k1.cell hbr).trans c2, (k1.cell hbr).trans c3, (k1.cell hbr').trans d0, (k1.cell hbr').trans d1, (k1.cell hbr').trans d2, (k1.cell hbr').trans d3⟩
               try
                 have hbx : u.heap[wr.heap.size]? = some (.cells #[.int .i64 0, .int .i64 0, .string ⟨#[]⟩, .slice none 0 0] 24) := (h1.block _ (by simp)).trans (alloc_new wr.drew _)
                 have f0 := cell_of hbx 0
                 have f1 := cell_of hbx 1
                 have f2 := cell_of hbx 2
                 have f3 := cell_of hbx 3
                 have g0 := free_of hbx 0
                 have g1 := free_of hbx 1
                 have g2 := free_of hbx 2
                 have g3 := free_of hbx 3
                 simp at f0 f1 f2 f3
                 have HX := toHid hbx
                 clear hbx))
        all_goals
          go_wp2_with fail
          go_meet
          first
            | exact ⟨u.heap.size, rfl, k1.size, alloc_new _ _, k1.alloc k1.size _⟩
            | exact ⟨wr.heap.size, rfl, Nat.le_refl _, put4_here HX.out _ _ _ _, k1.trans (put4_below u wr.heap.size _ _ _ _)⟩
      case rest =>
        obtain ⟨p, rfl, hp, hpx, k2⟩ := hcut
        have e0 : wc.cell? ⟨p, 0, none⟩ = some (.int .i64 vk) := cell_of hpx 0
        have e1 : wc.cell? ⟨p, 1, none⟩ = some (.int .i64 vn) := cell_of hpx 1
        have b2 : Below W0.heap.size W0 wc := hb.trans (k2.mono hsr)
        have s2 := k2.size
        clear hpx x3 y3 c0 c1 c2 c3 d0 d1 d2 d3
        rcases htri with hv | hv | hv
        · have hk1 : vk = 1 := by rw [HVK.out, hv]; rfl
          have hn1 : vn = 0 := by rw [HVN.out, hv]; rfl
          have hRv : R = 0 := by rw [HRd.out, hv, meet_zero, meet_zero']
          rw [hk1] at e0
          rw [hn1] at e1
          have HRV := toHid hRv
          clear hk1 hn1 hRv hv
          go_wp2_with fail
          refine (cF.out _).mono ?_
          rintro e w5 ⟨rfl, k5⟩
          have hb5 : w5.heap[w.heap.size + 1 + 1]? = some (.cells #[.int .i64 0, .int .i64 0, .string ⟨#[]⟩, .slice none 0 0] 24) := by
            rw [k5.block _ (by omega), b2.block _ (by omega)]
            exact HBX.out
          have c5 := below2 (below2 b0 b2) k5
          clear e0 e1
          have x0 := cell_of hb5 0
          have x1 := cell_of hb5 1
          have x2 := cell_of hb5 2
          have x3 := cell_of hb5 3
          have y0 := free_of hb5 0
          have y1 := free_of hb5 1
          have y2 := free_of hb5 2
          have y3 := free_of hb5 3
          simp at x0 x1 x2 x3
          have HBY := toHid hb5
          clear hb5
          go_wp2_with fail
          have zz := put4_here HBY.out (.int .i64 1) (.int .i64 0) (.string ⟨#[]⟩) (.slice none 0 0)
          have zb := put4_below w5 (w.heap.size + 1 + 1) (.int .i64 1) (.int .i64 0) (.string ⟨#[]⟩) (.slice none 0 0)
          have t0 := cell_of zz 0
          have t1 := cell_of zz 1
          have t2 := cell_of zz 2
          have t3 := cell_of zz 3
          have eP : (((w5.setCell ⟨w.heap.size + 1 + 1, 0, none⟩ (.int .i64 1)).setCell ⟨w.heap.size + 1 + 1, 1, none⟩ (.int .i64 0)).setCell ⟨w.heap.size + 1 + 1, 2, none⟩ (.string ⟨#[]⟩)).setCell ⟨w.heap.size + 1 + 1, 3, none⟩ (.slice none 0 0) = put4 w5 (w.heap.size + 1 + 1) (.int .i64 1) (.int .i64 0) (.string ⟨#[]⟩) (.slice none 0 0) := rfl
          rw [eP]
          clear eP
          generalize put4 w5 (w.heap.size + 1 + 1) (.int .i64 1) (.int .i64 0) (.string ⟨#[]⟩) (.slice none 0 0) = W9 at zz zb t0 t1 t2 t3 ⊢
          simp at t0 t1 t2 t3
          exact bodyPost_ret (v := .agg #[.int .i64 1, .int .i64 0, .string ⟨#[]⟩, .slice none 0 0]) (by simp [results, Tryd.results15, go_sem, t0, t1, t2, t3]) rfl ⟨by rw [HRV.out]; rfl, c5.trans (zb.mono (by omega))⟩
        · have hk1 : vk = 1 := by rw [HVK.out, hv]; rfl
          have hn1 : vn = 1 := by rw [HVN.out, hv]; rfl
          rw [hk1] at e0
          rw [hn1] at e1
          have HV := toHid hv
          clear hk1 hn1 hv
          go_wp2_with fail
          go_roundg (l - (i + 1))
          case measure => omega
          case rel =>
            refine ⟨un, i + 1, rfl, by go_num, by omega, by omega, b2, ?_⟩
            rw [HRd.out, HV.out, meet_one (sameL_tri _ _)]
        · have hk1 : vk = 0 := by rw [HVK.out, hv]; rfl
          rw [hk1] at e0
          have HV := toHid hv
          clear hk1 hv
          go_wp2_with fail
          go_roundg (l - (i + 1))
          case measure => omega
          case rel =>
            refine ⟨true, i + 1, rfl, by go_num, by omega, by omega, b2, ?_⟩
            rw [HRd.out, HV.out]
            exact ku_null (sameL_tri _ _)
    · have hil : i = l := by omega
      have hRv : R = ku un := by
        have h1 : L.drop i = [] := by rw [hil, HL.out.length.1]; exact List.drop_length
        have h2 : L'.drop i = [] := by rw [hil, HL'.out.length.1]; exact List.drop_length
        rw [HR.out, h1, h2, sameL_nil, meet_one' (ku_tri _)]
      have HRV := toHid hRv
      have hb6 : wr.heap[w.heap.size + 1 + 1]? = some (.cells #[.int .i64 0, .int .i64 0, .string ⟨#[]⟩, .slice none 0 0] 24) := by
        rw [hb.block _ (by omega)]
        exact HBX.out
      have e3 : decide ((i : Int) < (l : Int)) = false := by simp; omega
      clear hRv HR hil HL HL' HE
      cases un with
      | true =>
        go_wp2_with fail
        refine (cU.out _).mono ?_
        rintro e w5 ⟨rfl, k5⟩
        have hb5 := (k5.block _ (by omega)).trans hb6
        have c5 := below2 cw k5
        clear hb6
        have x0 := cell_of hb5 0
        have x1 := cell_of hb5 1
        have x2 := cell_of hb5 2
        have x3 := cell_of hb5 3
        have y0 := free_of hb5 0
        have y1 := free_of hb5 1
        have y2 := free_of hb5 2
        have y3 := free_of hb5 3
        simp at x0 x1 x2 x3
        have HBY := toHid hb5
        clear hb5
        go_wp2_with fail
        have zz := put4_here HBY.out (.int .i64 0) (.int .i64 0) (.string ⟨#[]⟩) (.slice none 0 0)
        have zb := put4_below w5 (w.heap.size + 1 + 1) (.int .i64 0) (.int .i64 0) (.string ⟨#[]⟩) (.slice none 0 0)
        have t0 := cell_of zz 0
        have t1 := cell_of zz 1
        have t2 := cell_of zz 2
        have t3 := cell_of zz 3
        have eP : (((w5.setCell ⟨w.heap.size + 1 + 1, 0, none⟩ (.int .i64 0)).setCell ⟨w.heap.size + 1 + 1, 1, none⟩ (.int .i64 0)).setCell ⟨w.heap.size + 1 + 1, 2, none⟩ (.string ⟨#[]⟩)).setCell ⟨w.heap.size + 1 + 1, 3, none⟩ (.slice none 0 0) = put4 w5 (w.heap.size + 1 + 1) (.int .i64 0) (.int .i64 0) (.string ⟨#[]⟩) (.slice none 0 0) := rfl
        rw [eP]
        clear eP
        generalize put4 w5 (w.heap.size + 1 + 1) (.int .i64 0) (.int .i64 0) (.string ⟨#[]⟩) (.slice none 0 0) = W9 at zz zb t0 t1 t2 t3 ⊢
        simp at t0 t1 t2 t3
        exact bodyPost_ret (v := .agg #[.int .i64 0, .int .i64 0, .string ⟨#[]⟩, .slice none 0 0]) (by simp [results, Tryd.results15, go_sem, t0, t1, t2, t3]) rfl ⟨by rw [HRV.out]; rfl, c5.trans (zb.mono (by omega))⟩
      | false =>
        go_wp2_with fail
        refine (cT.out _).mono ?_
        rintro e w5 ⟨rfl, k5⟩
        have hb5 := (k5.block _ (by omega)).trans hb6
        have c5 := below2 cw k5
        clear hb6
        have x0 := cell_of hb5 0
        have x1 := cell_of hb5 1
        have x2 := cell_of hb5 2
        have x3 := cell_of hb5 3
        have y0 := free_of hb5 0
        have y1 := free_of hb5 1
        have y2 := free_of hb5 2
        have y3 := free_of hb5 3
        simp at x0 x1 x2 x3
        have HBY := toHid hb5
        clear hb5
        go_wp2_with fail
        have zz := put4_here HBY.out (.int .i64 1) (.int .i64 1) (.string ⟨#[]⟩) (.slice none 0 0)
        have zb := put4_below w5 (w.heap.size + 1 + 1) (.int .i64 1) (.int .i64 1) (.string ⟨#[]⟩) (.slice none 0 0)
        have t0 := cell_of zz 0
        have t1 := cell_of zz 1
        have t2 := cell_of zz 2
        have t3 := cell_of zz 3
        have eP : (((w5.setCell ⟨w.heap.size + 1 + 1, 0, none⟩ (.int .i64 1)).setCell ⟨w.heap.size + 1 + 1, 1, none⟩ (.int .i64 1)).setCell ⟨w.heap.size + 1 + 1, 2, none⟩ (.string ⟨#[]⟩)).setCell ⟨w.heap.size + 1 + 1, 3, none⟩ (.slice none 0 0) = put4 w5 (w.heap.size + 1 + 1) (.int .i64 1) (.int .i64 1) (.string ⟨#[]⟩) (.slice none 0 0) := rfl
        rw [eP]
        clear eP
        generalize put4 w5 (w.heap.size + 1 + 1) (.int .i64 1) (.int .i64 1) (.string ⟨#[]⟩) (.slice none 0 0) = W9 at zz zb t0 t1 t2 t3 ⊢
        simp at t0 t1 t2 t3
        exact bodyPost_ret (v := .agg #[.int .i64 1, .int .i64 1, .string ⟨#[]⟩, .slice none 0 0]) (by simp [results, Tryd.results15, go_sem, t0, t1, t2, t3]) rfl ⟨by rw [HRV.out]; rfl, c5.trans (zb.mono (by omega))⟩

theorem ref_same : ∀ (N : Nat) (k n : Int) (s : ByteArray) (a : Option Addr) (l c : Nat) (L : List T) (k' n' : Int) (s' : ByteArray) (a' : Option Addr) (l' c' : Nat) (L' : List T) (w : World), wtL L ≤ N → N ≤ 2097152 → wtL L' ≤ 2097152 → LiesS w L a l → LiesS w L' a' l' →
    Calls Tryd.prog 15 #[.agg #[.int .i64 k, .int .i64 n, .string s, .slice a l c], .agg #[.int .i64 k', .int .i64 n', .string s', .slice a' l' c']] w fun e w' => e = .returned (sameV (sameT (.node k n s L) (.node k' n' s' L'))) ∧ Below w.heap.size w w' := by
  intro N
  induction N using Nat.strongRecOn with
  | _ N ih =>
  intro k n s a l c L k' n' s' a' l' c' L' w hN hN2 hN' hL hL'
  by_cases h0 : k = 0 ∨ k' = 0
  · have e : sameT (.node k n s L) (.node k' n' s' L') = 2 := by unfold sameT; rw [if_pos h0]
    rw [e]
    exact sameOf_null k n s a l c k' n' s' a' l' c' w h0
  · by_cases h4 : k = 4 ∧ k' = 4
    · have e : sameT (.node k n s L) (.node k' n' s' L') = sameL L L' := by unfold sameT; rw [if_neg h0, if_pos h4]
      rw [e]
      obtain ⟨rfl, rfl⟩ := h4
      have hlen := hL.length
      have hlen' := hL'.length
      have hb := len_wt L
      by_cases hll : l = l'
      · subst hll
        by_cases hz : l = 0
        · subst hz
          have e1 : L = [] := List.length_eq_zero_iff.1 hlen.1.symm
          have e2 : L' = [] := List.length_eq_zero_iff.1 hlen'.1.symm
          subst e1
          subst e2
          rw [sameL_nil]
          exact sameOf_empty n s a c n' s' a' c' w
        · obtain ⟨b, off, _, rfl, hbb, _⟩ := hL.get (i := 0) (by omega)
          obtain ⟨b', off', _, rfl, hbb', _⟩ := hL'.get (i := 0) (by omega)
          exact sameOf_list n s b off l c n' s' b' off' c' L L' w hL hL' (by omega) (fun kt nt st at' lt ct Lt ku nu su au' lu cu Lu W h1 h2 h3 h4 h5 => ih (wtL Lt) (by omega) kt nt st at' lt ct Lt ku nu su au' lu cu Lu W (Nat.le_refl _) (by omega) (by omega) (h3.below h5 _ _ _) (h4.below h5 _ _ _))
      · have e2 : sameL L L' = 0 := sameL_length (by omega)
        rw [e2]
        exact sameOf_len n s a l c n' s' a' l' c' w hlen.2 hlen'.2 hll
    · have e : sameT (.node k n s L) (.node k' n' s' L') = if ordT (.node k n s L) (.node k' n' s' L') = 0 then 1 else 0 := by unfold sameT; rw [if_neg h0, if_neg h4]
      rw [e]
      exact sameOf_plain k n s a l c k' n' s' a' l' c' _ w h0 h4 (fun W kW => ref_order (wtL L) k n s a l c L k' n' s' a' l' c' L' W (Nat.le_refl _) (by omega) hN' (hL.below kW _ _ _) (hL'.below kW _ _ _))
end Go.Proofs.YtkllapibpcgllaaDoor
