/-
  What is proved here: what the texts VRValue, VRText prove, in one text.
-/
import Derived.Test.YthbbapimedlocaaGreatDoorQPAP
import Derived.Test.YthbbapimedlocaaGreatDoorShelf
import Derived.Lib.ValidLaws
import Derived.Lib.TrimUEq
namespace Go.Proofs.YthbbapimedlocaaGreatDoor
open Go.RowKit
set_option linter.unusedVariables false

set_option maxHeartbeats 2000000 in
set_option maxRecDepth 100000 in
theorem value_true (B r p : Nat) (text : ByteArray) (lists : Int) (w : World) (h : Rd r text p w) (hp : p ≤ text.size) (ht : text.size ≤ 4000) (hB : B ≤ r) (hT : Tabs B w) (hP : Pow10 B w) (bnull : begins text p ⟨#[110, 117, 108, 108]⟩ = false) (btrue : begins text p ⟨#[116, 114, 117, 101]⟩ = true)  :
    Calls Tryz.prog 183 #[.pointer (some ⟨r, 0, none⟩), .int .i64 lists] w fun e w' => e = .returned (.agg #[.int .i64 1, .int .i64 1, .string ⟨#[]⟩, .slice none 0 0]) ∧ Moved r text (p + 4) w w' := by
  have hr := h.lt
  have c0 := h.place
  have cnull : Hid (∀ W, Rd r text p W → Calls Tryz.prog 193 #[.pointer (some ⟨r, 0, none⟩), .string ⟨#[110, 117, 108, 108]⟩] W fun e w' => e = .returned (.bool false) ∧ Moved r text (p) W w') := fun W hW => take_any r p text ⟨#[110, 117, 108, 108]⟩ W hW hp ht (by decide) false bnull
  have ctrue : Hid (∀ W, Rd r text p W → Calls Tryz.prog 193 #[.pointer (some ⟨r, 0, none⟩), .string ⟨#[116, 114, 117, 101]⟩] W fun e w' => e = .returned (.bool true) ∧ Moved r text (p + 4) W w') := fun W hW => take_any r p text ⟨#[116, 114, 117, 101]⟩ W hW hp ht (by decide) true btrue
  clear bnull btrue
  have hb0 : Below w.heap.size w (w.alloc (.cells #[.int .i64 0, .int .i64 0, .string ⟨#[]⟩, .slice none 0 0] 60)) := (Below.refl _ _).alloc (Nat.le_refl _) _
  have K0 : Moved r text p (w.alloc (.cells #[.int .i64 0, .int .i64 0, .string ⟨#[]⟩, .slice none 0 0] 60)) (w.alloc (.cells #[.int .i64 0, .int .i64 0, .string ⟨#[]⟩, .slice none 0 0] 60)) := Moved.refl (Moved.of_below h hb0).here
  go_enter Tryz.func183, Tryz.ntmps183
  go_wp2_with fail
  refine (cnull.out _ K0.here).mono ?_
  rintro e u1 ⟨rfl, k1⟩
  have K1 := K0.trans k1
  go_wp2_with fail
  refine (ctrue.out _ K1.here).mono ?_
  rintro e ut ⟨rfl, kt⟩
  have KT := K1.trans kt
  have hbt : Below B w ut := (hb0.mono (by omega)).trans ⟨KT.os, KT.tape, KT.output, KT.size, fun k hk => KT.block k (by simp; omega) (by omega)⟩
  have hT' : Tabs B ut := hT.below hbt
  have hP' : Pow10 B ut := hP.below hbt
  go_wp2_with fail
  refine (truth_any true _).mono ?_
  rintro e uc ⟨rfl, kc0⟩
  have kc := Moved.of_below KT.here kc0
  have KC := KT.trans kc
  have hm : MovedTo (w.heap.size + 1) r text (p + 4) (w.alloc (.cells #[.int .i64 0, .int .i64 0, .string ⟨#[]⟩, .slice none 0 0] 60)) uc := ⟨KC.os, KC.tape, KC.output, KC.size, fun k hk hn => KC.block k (by simpa using hk) hn, KC.here⟩
  have hbox : uc.heap[w.heap.size]? = some (.cells #[.int .i64 0, .int .i64 0, .string ⟨#[]⟩, .slice none 0 0] 60 (0, 0)) := by
    rw [hm.block _ (by omega) (by omega)]
    exact alloc_new _ _
  have x0 := cell_of hbox 0
  have x1 := cell_of hbox 1
  have x2 := cell_of hbox 2
  have x3 := cell_of hbox 3
  have y0 := free_of hbox 0
  have y1 := free_of hbox 1
  have y2 := free_of hbox 2
  have y3 := free_of hbox 3
  simp at x0 x1 x2 x3
  have HX := toHid hbox
  clear hbox
  go_wp2_with fail
  have z := put4_here HX.out (.int .i64 1) (.int .i64 1) (.string ⟨#[]⟩) (.slice none 0 0)
  have zb := put4_below uc w.heap.size (.int .i64 1) (.int .i64 1) (.string ⟨#[]⟩) (.slice none 0 0)
  have z0 := cell_of z 0
  have z1 := cell_of z 1
  have z2 := cell_of z 2
  have z3 := cell_of z 3
  have eP : (((uc.setCell ⟨w.heap.size, 0, none⟩ (.int .i64 1)).setCell ⟨w.heap.size, 1, none⟩ (.int .i64 1)).setCell ⟨w.heap.size, 2, none⟩ (.string ⟨#[]⟩)).setCell ⟨w.heap.size, 3, none⟩ (.slice none 0 0) = put4 uc w.heap.size (.int .i64 1) (.int .i64 1) (.string ⟨#[]⟩) (.slice none 0 0) := rfl
  rw [eP]
  clear eP
  generalize put4 uc w.heap.size (.int .i64 1) (.int .i64 1) (.string ⟨#[]⟩) (.slice none 0 0) = W9 at z zb z0 z1 z2 z3 ⊢
  simp at z0 z1 z2 z3
  exact bodyPost_ret (v := .agg #[.int .i64 1, .int .i64 1, .string ⟨#[]⟩, .slice none 0 0]) (by simp [results, Tryz.results183, go_sem, z0, z1, z2, z3]) rfl ⟨rfl, hm.close zb (by omega)⟩

set_option maxHeartbeats 2000000 in
set_option maxRecDepth 100000 in
theorem value_false (B r p : Nat) (text : ByteArray) (lists : Int) (w : World) (h : Rd r text p w) (hp : p ≤ text.size) (ht : text.size ≤ 4000) (hB : B ≤ r) (hT : Tabs B w) (hP : Pow10 B w) (bnull : begins text p ⟨#[110, 117, 108, 108]⟩ = false) (btrue : begins text p ⟨#[116, 114, 117, 101]⟩ = false) (bfalse : begins text p ⟨#[102, 97, 108, 115, 101]⟩ = true)  :
    Calls Tryz.prog 183 #[.pointer (some ⟨r, 0, none⟩), .int .i64 lists] w fun e w' => e = .returned (.agg #[.int .i64 1, .int .i64 0, .string ⟨#[]⟩, .slice none 0 0]) ∧ Moved r text (p + 5) w w' := by
  have hr := h.lt
  have c0 := h.place
  have cnull : Hid (∀ W, Rd r text p W → Calls Tryz.prog 193 #[.pointer (some ⟨r, 0, none⟩), .string ⟨#[110, 117, 108, 108]⟩] W fun e w' => e = .returned (.bool false) ∧ Moved r text (p) W w') := fun W hW => take_any r p text ⟨#[110, 117, 108, 108]⟩ W hW hp ht (by decide) false bnull
  have ctrue : Hid (∀ W, Rd r text p W → Calls Tryz.prog 193 #[.pointer (some ⟨r, 0, none⟩), .string ⟨#[116, 114, 117, 101]⟩] W fun e w' => e = .returned (.bool false) ∧ Moved r text (p) W w') := fun W hW => take_any r p text ⟨#[116, 114, 117, 101]⟩ W hW hp ht (by decide) false btrue
  have cfalse : Hid (∀ W, Rd r text p W → Calls Tryz.prog 193 #[.pointer (some ⟨r, 0, none⟩), .string ⟨#[102, 97, 108, 115, 101]⟩] W fun e w' => e = .returned (.bool true) ∧ Moved r text (p + 5) W w') := fun W hW => take_any r p text ⟨#[102, 97, 108, 115, 101]⟩ W hW hp ht (by decide) true bfalse
  clear bnull btrue bfalse
  have hb0 : Below w.heap.size w (w.alloc (.cells #[.int .i64 0, .int .i64 0, .string ⟨#[]⟩, .slice none 0 0] 60)) := (Below.refl _ _).alloc (Nat.le_refl _) _
  have K0 : Moved r text p (w.alloc (.cells #[.int .i64 0, .int .i64 0, .string ⟨#[]⟩, .slice none 0 0] 60)) (w.alloc (.cells #[.int .i64 0, .int .i64 0, .string ⟨#[]⟩, .slice none 0 0] 60)) := Moved.refl (Moved.of_below h hb0).here
  go_enter Tryz.func183, Tryz.ntmps183
  go_wp2_with fail
  refine (cnull.out _ K0.here).mono ?_
  rintro e u1 ⟨rfl, k1⟩
  have K1 := K0.trans k1
  go_wp2_with fail
  refine (ctrue.out _ K1.here).mono ?_
  rintro e u2 ⟨rfl, k2⟩
  have K2 := K1.trans k2
  go_wp2_with fail
  refine (cfalse.out _ K2.here).mono ?_
  rintro e ut ⟨rfl, kt⟩
  have KT := K2.trans kt
  have hbt : Below B w ut := (hb0.mono (by omega)).trans ⟨KT.os, KT.tape, KT.output, KT.size, fun k hk => KT.block k (by simp; omega) (by omega)⟩
  have hT' : Tabs B ut := hT.below hbt
  have hP' : Pow10 B ut := hP.below hbt
  go_wp2_with fail
  refine (truth_any false _).mono ?_
  rintro e uc ⟨rfl, kc0⟩
  have kc := Moved.of_below KT.here kc0
  have KC := KT.trans kc
  have hm : MovedTo (w.heap.size + 1) r text (p + 5) (w.alloc (.cells #[.int .i64 0, .int .i64 0, .string ⟨#[]⟩, .slice none 0 0] 60)) uc := ⟨KC.os, KC.tape, KC.output, KC.size, fun k hk hn => KC.block k (by simpa using hk) hn, KC.here⟩
  have hbox : uc.heap[w.heap.size]? = some (.cells #[.int .i64 0, .int .i64 0, .string ⟨#[]⟩, .slice none 0 0] 60 (0, 0)) := by
    rw [hm.block _ (by omega) (by omega)]
    exact alloc_new _ _
  have x0 := cell_of hbox 0
  have x1 := cell_of hbox 1
  have x2 := cell_of hbox 2
  have x3 := cell_of hbox 3
  have y0 := free_of hbox 0
  have y1 := free_of hbox 1
  have y2 := free_of hbox 2
  have y3 := free_of hbox 3
  simp at x0 x1 x2 x3
  have HX := toHid hbox
  clear hbox
  go_wp2_with fail
  have z := put4_here HX.out (.int .i64 1) (.int .i64 0) (.string ⟨#[]⟩) (.slice none 0 0)
  have zb := put4_below uc w.heap.size (.int .i64 1) (.int .i64 0) (.string ⟨#[]⟩) (.slice none 0 0)
  have z0 := cell_of z 0
  have z1 := cell_of z 1
  have z2 := cell_of z 2
  have z3 := cell_of z 3
  have eP : (((uc.setCell ⟨w.heap.size, 0, none⟩ (.int .i64 1)).setCell ⟨w.heap.size, 1, none⟩ (.int .i64 0)).setCell ⟨w.heap.size, 2, none⟩ (.string ⟨#[]⟩)).setCell ⟨w.heap.size, 3, none⟩ (.slice none 0 0) = put4 uc w.heap.size (.int .i64 1) (.int .i64 0) (.string ⟨#[]⟩) (.slice none 0 0) := rfl
  rw [eP]
  clear eP
  generalize put4 uc w.heap.size (.int .i64 1) (.int .i64 0) (.string ⟨#[]⟩) (.slice none 0 0) = W9 at z zb z0 z1 z2 z3 ⊢
  simp at z0 z1 z2 z3
  exact bodyPost_ret (v := .agg #[.int .i64 1, .int .i64 0, .string ⟨#[]⟩, .slice none 0 0]) (by simp [results, Tryz.results183, go_sem, z0, z1, z2, z3]) rfl ⟨rfl, hm.close zb (by omega)⟩

set_option maxHeartbeats 2000000 in
set_option maxRecDepth 100000 in
theorem value_lists (B r p : Nat) (text : ByteArray) (lists : Int) (w : World) (h : Rd r text p w) (hp : p ≤ text.size) (ht : text.size ≤ 4000) (hB : B ≤ r) (hT : Tabs B w) (hP : Pow10 B w) (bnull : begins text p ⟨#[110, 117, 108, 108]⟩ = false) (btrue : begins text p ⟨#[116, 114, 117, 101]⟩ = false) (bfalse : begins text p ⟨#[102, 97, 108, 115, 101]⟩ = false) (bquote : begins text p ⟨#[39]⟩ = false) (bopen : begins text p ⟨#[91]⟩ = true) (q : Nat) (ts : List T) (hlt : lists < 40) (hl0 : 0 ≤ lists) (hn : ∀ (B r : Nat) (w : World), Rd r text (p + 1) w → B ≤ r → Tabs B w → Pow10 B w → Calls Tryz.prog 196 #[.pointer (some ⟨r, 0, none⟩), .int .i64 (lists + 1)] w fun e w' => ∃ a l c, e = .returned (.agg #[.int .i64 4, .int .i64 0, .string ⟨#[]⟩, .slice a l c]) ∧ l ≤ c ∧ LieA (fun i => w.heap.size ≤ i) w' ts a l ∧ Moved r text q w w') :
    Calls Tryz.prog 183 #[.pointer (some ⟨r, 0, none⟩), .int .i64 lists] w fun e w' => ∃ a l c, e = .returned (.agg #[.int .i64 4, .int .i64 0, .string ⟨#[]⟩, .slice a l c]) ∧ l ≤ c ∧ LieA (fun i => w.heap.size ≤ i) w' ts a l ∧ Moved r text q w w' := by
  have hr := h.lt
  have c0 := h.place
  have cnull : Hid (∀ W, Rd r text p W → Calls Tryz.prog 193 #[.pointer (some ⟨r, 0, none⟩), .string ⟨#[110, 117, 108, 108]⟩] W fun e w' => e = .returned (.bool false) ∧ Moved r text (p) W w') := fun W hW => take_any r p text ⟨#[110, 117, 108, 108]⟩ W hW hp ht (by decide) false bnull
  have ctrue : Hid (∀ W, Rd r text p W → Calls Tryz.prog 193 #[.pointer (some ⟨r, 0, none⟩), .string ⟨#[116, 114, 117, 101]⟩] W fun e w' => e = .returned (.bool false) ∧ Moved r text (p) W w') := fun W hW => take_any r p text ⟨#[116, 114, 117, 101]⟩ W hW hp ht (by decide) false btrue
  have cfalse : Hid (∀ W, Rd r text p W → Calls Tryz.prog 193 #[.pointer (some ⟨r, 0, none⟩), .string ⟨#[102, 97, 108, 115, 101]⟩] W fun e w' => e = .returned (.bool false) ∧ Moved r text (p) W w') := fun W hW => take_any r p text ⟨#[102, 97, 108, 115, 101]⟩ W hW hp ht (by decide) false bfalse
  have cquote : Hid (∀ W, Rd r text p W → Calls Tryz.prog 193 #[.pointer (some ⟨r, 0, none⟩), .string ⟨#[39]⟩] W fun e w' => e = .returned (.bool false) ∧ Moved r text (p) W w') := fun W hW => take_any r p text ⟨#[39]⟩ W hW hp ht (by decide) false bquote
  have copen : Hid (∀ W, Rd r text p W → Calls Tryz.prog 193 #[.pointer (some ⟨r, 0, none⟩), .string ⟨#[91]⟩] W fun e w' => e = .returned (.bool true) ∧ Moved r text (p + 1) W w') := fun W hW => take_any r p text ⟨#[91]⟩ W hW hp ht (by decide) true bopen
  clear bnull btrue bfalse bquote bopen
  have hb0 : Below w.heap.size w (w.alloc (.cells #[.int .i64 0, .int .i64 0, .string ⟨#[]⟩, .slice none 0 0] 60)) := (Below.refl _ _).alloc (Nat.le_refl _) _
  have K0 : Moved r text p (w.alloc (.cells #[.int .i64 0, .int .i64 0, .string ⟨#[]⟩, .slice none 0 0] 60)) (w.alloc (.cells #[.int .i64 0, .int .i64 0, .string ⟨#[]⟩, .slice none 0 0] 60)) := Moved.refl (Moved.of_below h hb0).here
  have HN := toHid hn
  clear hn
  go_enter Tryz.func183, Tryz.ntmps183
  go_wp2_with fail
  refine (cnull.out _ K0.here).mono ?_
  rintro e u1 ⟨rfl, k1⟩
  have K1 := K0.trans k1
  go_wp2_with fail
  refine (ctrue.out _ K1.here).mono ?_
  rintro e u2 ⟨rfl, k2⟩
  have K2 := K1.trans k2
  go_wp2_with fail
  refine (cfalse.out _ K2.here).mono ?_
  rintro e u3 ⟨rfl, k3⟩
  have K3 := K2.trans k3
  go_wp2_with fail
  refine (cquote.out _ K3.here).mono ?_
  rintro e u4 ⟨rfl, k4⟩
  have K4 := K3.trans k4
  go_wp2_with fail
  refine (copen.out _ K4.here).mono ?_
  rintro e ut ⟨rfl, kt⟩
  have KT := K4.trans kt
  have hbt : Below B w ut := (hb0.mono (by omega)).trans ⟨KT.os, KT.tape, KT.output, KT.size, fun k hk => KT.block k (by simp; omega) (by omega)⟩
  have hT' : Tabs B ut := hT.below hbt
  have hP' : Pow10 B ut := hP.below hbt
  go_wp2_with fail
  refine (HN.out B r _ KT.here hB hT' hP').mono ?_
  rintro e uc ⟨a, l, c, rfl, hlc, hlie, kc⟩
  have HLIE := toHid hlie
  have KC := KT.trans kc
  have zt : w.heap.size + 1 ≤ ut.heap.size := by have := KT.size; simpa using this
  clear hlie
  have hm : MovedTo (w.heap.size + 1) r text q (w.alloc (.cells #[.int .i64 0, .int .i64 0, .string ⟨#[]⟩, .slice none 0 0] 60)) uc := ⟨KC.os, KC.tape, KC.output, KC.size, fun k hk hn => KC.block k (by simpa using hk) hn, KC.here⟩
  have hbox : uc.heap[w.heap.size]? = some (.cells #[.int .i64 0, .int .i64 0, .string ⟨#[]⟩, .slice none 0 0] 60 (0, 0)) := by
    rw [hm.block _ (by omega) (by omega)]
    exact alloc_new _ _
  have x0 := cell_of hbox 0
  have x1 := cell_of hbox 1
  have x2 := cell_of hbox 2
  have x3 := cell_of hbox 3
  have y0 := free_of hbox 0
  have y1 := free_of hbox 1
  have y2 := free_of hbox 2
  have y3 := free_of hbox 3
  simp at x0 x1 x2 x3
  have HX := toHid hbox
  clear hbox
  go_wp2_with fail
  have z := put4_here HX.out (.int .i64 4) (.int .i64 0) (.string ⟨#[]⟩) (.slice a l c)
  have zb := put4_below uc w.heap.size (.int .i64 4) (.int .i64 0) (.string ⟨#[]⟩) (.slice a l c)
  have z0 := cell_of z 0
  have z1 := cell_of z 1
  have z2 := cell_of z 2
  have z3 := cell_of z 3
  have eP : (((uc.setCell ⟨w.heap.size, 0, none⟩ (.int .i64 4)).setCell ⟨w.heap.size, 1, none⟩ (.int .i64 0)).setCell ⟨w.heap.size, 2, none⟩ (.string ⟨#[]⟩)).setCell ⟨w.heap.size, 3, none⟩ (.slice a l c) = put4 uc w.heap.size (.int .i64 4) (.int .i64 0) (.string ⟨#[]⟩) (.slice a l c) := rfl
  rw [eP]
  clear eP
  have ZB := toHid (put4_other uc w.heap.size (.int .i64 4) (.int .i64 0) (.string ⟨#[]⟩) (.slice a l c))
  generalize put4 uc w.heap.size (.int .i64 4) (.int .i64 0) (.string ⟨#[]⟩) (.slice a l c) = W9 at z zb z0 z1 z2 z3 ZB ⊢
  simp at z0 z1 z2 z3
  refine bodyPost_ret (v := .agg #[.int .i64 4, .int .i64 0, .string ⟨#[]⟩, .slice a l c]) (by simp [results, Tryz.results183, go_sem, z0, z1, z2, z3]) rfl ⟨a, l, c, rfl, hlc, ?_, hm.close zb (by omega)⟩
  exact LieA.kept zb.size (fun i hi hi2 => ⟨by omega, ZB.out i (by omega) hi2⟩) _ _ _ HLIE.out

set_option maxHeartbeats 2000000 in
set_option maxRecDepth 100000 in
/-- A bracket that closes at once. -/
theorem list_none (B r p : Nat) (text : ByteArray) (lists : Int) (w : World) (h : Rd r text p w) (ht : text.size ≤ 4000) (hp : p ≤ text.size) (hf : begins text p ⟨#[93]⟩ = true) :
    Calls Tryz.prog 196 #[.pointer (some ⟨r, 0, none⟩), .int .i64 lists] w fun e w' => ∃ a l c, e = .returned (.agg #[.int .i64 4, .int .i64 0, .string ⟨#[]⟩, .slice a l c]) ∧ l ≤ c ∧ LieA (fun i => w.heap.size ≤ i) w' [] a l ∧ Moved r text (p + 1) w w' := by
  have hr := h.lt
  have cT : Hid (∀ W, Rd r text p W → Calls Tryz.prog 193 #[.pointer (some ⟨r, 0, none⟩), .string ⟨#[93]⟩] W fun e w' => e = .returned (.bool true) ∧ Moved r text (p + 1) W w') := fun W hW => take_any r p text ⟨#[93]⟩ W hW hp ht (by decide) true hf
  clear hf
  have hb1 : Below w.heap.size w ((w.alloc (.cells #[.int .i64 0, .int .i64 0, .string ⟨#[]⟩, .slice none 0 0] 60)).alloc (.cells #[.int .i64 4, .int .i64 0, .string ⟨#[]⟩, .slice none 0 0] 60)) := ((Below.refl _ _).alloc (Nat.le_refl _) _).alloc (by simp) _
  have hv0 := alloc_two w (.cells #[.int .i64 0, .int .i64 0, .string ⟨#[]⟩, .slice none 0 0] 60) (.cells #[.int .i64 4, .int .i64 0, .string ⟨#[]⟩, .slice none 0 0] 60)
  have hu0 : ((w.alloc (.cells #[.int .i64 0, .int .i64 0, .string ⟨#[]⟩, .slice none 0 0] 60)).alloc (.cells #[.int .i64 4, .int .i64 0, .string ⟨#[]⟩, .slice none 0 0] 60)).heap[w.heap.size]? = some (.cells #[.int .i64 0, .int .i64 0, .string ⟨#[]⟩, .slice none 0 0] 60) := (Below.heap_alloc _ _ _ (by simp)).trans (alloc_new _ _)
  have hz0 : ((w.alloc (.cells #[.int .i64 0, .int .i64 0, .string ⟨#[]⟩, .slice none 0 0] 60)).alloc (.cells #[.int .i64 4, .int .i64 0, .string ⟨#[]⟩, .slice none 0 0] 60)).heap.size = w.heap.size + 2 := by simp
  have HV0 := toHid hv0
  have HU0 := toHid hu0
  have HZ0 := toHid hz0
  clear hv0 hu0 hz0
  go_enter Tryz.func196, Tryz.ntmps196
  go_wp2_with fail
  refine (cT.out _ (Moved.of_below h hb1).here).mono ?_
  generalize ((w.alloc (.cells #[.int .i64 0, .int .i64 0, .string ⟨#[]⟩, .slice none 0 0] 60)).alloc (.cells #[.int .i64 4, .int .i64 0, .string ⟨#[]⟩, .slice none 0 0] 60)) = W0 at hb1 HV0 HU0 HZ0 ⊢
  rintro e w1 ⟨rfl, m1⟩
  have hz := HZ0.out
  have hs1 := m1.size
  have hv1 := (m1.block (w.heap.size + 1) (by omega) (by omega)).trans HV0.out
  have hu1 := (m1.block w.heap.size (by omega) (by omega)).trans HU0.out
  have q0 := cell_of hv1 0
  have q1 := cell_of hv1 1
  have q2 := cell_of hv1 2
  have q3 := cell_of hv1 3
  have x0 := cell_of hu1 0
  have x1 := cell_of hu1 1
  have x2 := cell_of hu1 2
  have x3 := cell_of hu1 3
  have y0 := free_of hu1 0
  have y1 := free_of hu1 1
  have y2 := free_of hu1 2
  have y3 := free_of hu1 3
  simp at x0 x1 x2 x3 q0 q1 q2 q3
  have HX := toHid hu1
  clear hu1 hv1
  go_wp2_with fail
  have zz := put4_here HX.out (.int .i64 4) (.int .i64 0) (.string ⟨#[]⟩) (.slice none 0 0)
  have zb := put4_below w1 w.heap.size (.int .i64 4) (.int .i64 0) (.string ⟨#[]⟩) (.slice none 0 0)
  have t0 := cell_of zz 0
  have t1 := cell_of zz 1
  have t2 := cell_of zz 2
  have t3 := cell_of zz 3
  have eP : (((w1.setCell ⟨w.heap.size, 0, none⟩ (.int .i64 4)).setCell ⟨w.heap.size, 1, none⟩ (.int .i64 0)).setCell ⟨w.heap.size, 2, none⟩ (.string ⟨#[]⟩)).setCell ⟨w.heap.size, 3, none⟩ (.slice none 0 0) = put4 w1 w.heap.size (.int .i64 4) (.int .i64 0) (.string ⟨#[]⟩) (.slice none 0 0) := rfl
  rw [eP]
  clear eP
  generalize put4 w1 w.heap.size (.int .i64 4) (.int .i64 0) (.string ⟨#[]⟩) (.slice none 0 0) = W9 at zz zb t0 t1 t2 t3 ⊢
  simp at t0 t1 t2 t3
  have hmv : Moved r text (p + 1) w W9 := by
    refine ⟨zb.os.trans (m1.os.trans hb1.os), zb.tape.trans (m1.tape.trans hb1.tape), zb.output.trans (m1.output.trans hb1.output), by have := zb.size; omega, fun k hk hne => (zb.block k hk).trans ((m1.block k (by omega) hne).trans (hb1.block k hk)), ?_⟩
    have := m1.here
    unfold Rd at this ⊢
    rw [zb.block r hr]
    exact this
  exact bodyPost_ret (v := .agg #[.int .i64 4, .int .i64 0, .string ⟨#[]⟩, .slice none 0 0]) (by simp [results, Tryz.results196, go_sem, t0, t1, t2, t3]) rfl ⟨none, 0, 0, rfl, Nat.le_refl _, by unfold LieA; rfl, hmv⟩

set_option maxHeartbeats 1000000 in
theorem letter_back (r p : Nat) (text : ByteArray) (w : World) (h : Rd r text p w) (hp : p ≤ text.size) (ht : text.size ≤ 4000) (h1 : begins text p ⟨#[92, 39]⟩ = false) (h2 : begins text p ⟨#[92, 92]⟩ = true) :
    Calls Tryz.prog 198 #[.pointer (some ⟨r, 0, none⟩)] w fun e w' => e = .returned (.string ⟨#[92]⟩) ∧ Moved r text (p + 2) w w' := by
  have c1 := toHid (take_any r p text ⟨#[92, 39]⟩ w h hp ht (by decide) false h1)
  have c2 : Hid (∀ W, Rd r text p W → _) := fun W hW => take_any r p text ⟨#[92, 92]⟩ W hW hp ht (by decide) true h2
  clear h1 h2
  go_enter Tryz.func198, Tryz.ntmps198
  go_wp2_with fail
  refine c1.out.mono ?_
  rintro e w1 ⟨rfl, m1⟩
  go_wp2_with fail
  refine (c2.out _ m1.here).mono ?_
  rintro e w2 ⟨rfl, m2⟩
  have m3 := m1.trans m2
  go_wp2_with fail
  go_ret
  exact ⟨rfl, m3⟩

set_option maxHeartbeats 1000000 in
theorem letter_feed (r p : Nat) (text : ByteArray) (w : World) (h : Rd r text p w) (hp : p ≤ text.size) (ht : text.size ≤ 4000) (h1 : begins text p ⟨#[92, 39]⟩ = false) (h2 : begins text p ⟨#[92, 92]⟩ = false) (h3 : begins text p ⟨#[92, 110]⟩ = true) :
    Calls Tryz.prog 198 #[.pointer (some ⟨r, 0, none⟩)] w fun e w' => e = .returned (.string ⟨#[10]⟩) ∧ Moved r text (p + 2) w w' := by
  have c1 := toHid (take_any r p text ⟨#[92, 39]⟩ w h hp ht (by decide) false h1)
  have c2 : Hid (∀ W, Rd r text p W → _) := fun W hW => take_any r p text ⟨#[92, 92]⟩ W hW hp ht (by decide) false h2
  have c3 : Hid (∀ W, Rd r text p W → _) := fun W hW => take_any r p text ⟨#[92, 110]⟩ W hW hp ht (by decide) true h3
  clear h1 h2 h3
  go_enter Tryz.func198, Tryz.ntmps198
  go_wp2_with fail
  refine c1.out.mono ?_
  rintro e w1 ⟨rfl, m1⟩
  go_wp2_with fail
  refine (c2.out _ m1.here).mono ?_
  rintro e w2 ⟨rfl, m2⟩
  go_wp2_with fail
  refine (c3.out _ m2.here).mono ?_
  rintro e w3 ⟨rfl, m3⟩
  have m4 := (m1.trans m2).trans m3
  go_wp2_with fail
  go_ret
  exact ⟨rfl, m4⟩

set_option maxHeartbeats 2000000 in
theorem letter_sign (B r p n : Nat) (c : Nat) (text : ByteArray) (w : World) (h : Rd r text p w) (hp : p ≤ text.size) (ht : text.size ≤ 4000) (hB : B ≤ r) (hT : Tabs B w)
    (h1 : begins text p ⟨#[92, 39]⟩ = false) (h2 : begins text p ⟨#[92, 92]⟩ = false) (h3 : begins text p ⟨#[92, 110]⟩ = false)
    (hd : Lib.decodeGo (text.extract p text.size) = (c, n)) (hc1 : c ≠ 92) (hc2 : c ≠ 10) (hc3 : c = 65533) (hn2 : 2 ≤ n) (hn : p + n ≤ text.size) :
    Calls Tryz.prog 198 #[.pointer (some ⟨r, 0, none⟩)] w fun e w' => e = .returned (.string (text.extract p (p + n))) ∧ Moved r text (p + n) w w' := by
  have c1 := toHid (fun w (h : Rd r text p w) => take_any r p text ⟨#[92, 39]⟩ w h hp ht (by decide) false h1)
  have c2 := toHid (fun w (h : Rd r text p w) => take_any r p text ⟨#[92, 92]⟩ w h hp ht (by decide) false h2)
  have c3 := toHid (fun w (h : Rd r text p w) => take_any r p text ⟨#[92, 110]⟩ w h hp ht (by decide) false h3)
  have e1 : ((c : Int) == 92) = false := by simp; omega
  have e2 : ((c : Int) == 10) = false := by simp; omega
  have e3 : ((c : Int) == 65533) = true := by simp; omega
  have e4 : ¬ (n : Int) < 2 := by omega
  have HD := toHid hd
  clear h1 h2 h3 hd hc1 hc2 hc3
  go_enter Tryz.func198, Tryz.ntmps198
  go_wp2_with fail
  refine (c1.out _ h).mono ?_
  rintro e w1 ⟨rfl, m1⟩
  go_wp2_with fail
  refine (c2.out _ m1.here).mono ?_
  rintro e w2 ⟨rfl, m2⟩
  go_wp2_with fail
  refine (c3.out _ m2.here).mono ?_
  rintro e w3 ⟨rfl, m3⟩
  have M := (m1.trans m2).trans m3
  have hT3 : Tabs B w3 := hT.moved M hB (by have := h.lt; omega)
  have q0 := M.here.text
  have q1 := M.here.place
  have q2 := M.here.free 1
  clear c1 c2 c3
  have cD : Hid (∀ W, Lib.Utf8Tabs 0 1 W → Calls Tryz.prog 82 #[.string (text.extract p text.size)] W fun e w' => e = .returned (.tuple #[.int .i32 c, .int .i64 n]) ∧ Below W.heap.size W w') := fun W hW => by
    have := Tryz.utf8_DecodeRuneInString (text.extract p text.size) W hW
    rw [HD.out] at this
    exact this
  clear HD
  go_wp2_with fail
  go_region_with (go_at_call 82; refine (cD.out _ (hT3 _ (Below.refl _ _).drew)).mono ?_; rintro e w4 ⟨rfl, hb4⟩)
  all_goals
    have hb4' : Below w3.heap.size w3 w4 := ((Below.refl _ _).drew).trans hb4
    have M4 := M.below hb4'
    have q0 := M4.here.text
    have q1 := M4.here.place
    have q2 := M4.here.free 1
    have M5 := M4.here.step (p + n) (.int .i64 ((p : Int) + (n : Int))) (by go_num)
    have s0 := M5.here.text
    have s1 : (w4.setCell ⟨r, 1, none⟩ (.int .i64 ((p : Int) + (n : Int)))).cell? ⟨r, 1, none⟩ = some (.int .i64 ((p : Int) + (n : Int))) := by rw [M5.here.place]; simp
    have hpn : (p : Int) + (n : Int) ≤ text.size := by omega
    go_wp2_with fail
    generalize w4.setCell ⟨r, 1, none⟩ (.int .i64 ((p : Int) + (n : Int))) = W5 at M5 s0 s1 ⊢
    have hsl : ∀ wx : World, (Instr.slice 9 (.string text) (some (.int .i64 (p : Int))) (some (.int .i64 ((p : Int) + (n : Int)))) none).run Tryz.prog wx = .ok (.string (text.extract p (p + n))) wx := fun wx => by
      have h9 := run_slice_string (P := Tryz.prog) wx 9 text .i64 .i64 (p : Int) ((p : Int) + (n : Int)) Tryz.underlying9 (by omega) (by omega) (by omega)
      rw [h9]
      have e : ((p : Int) + (n : Int)).toNat = p + n := by omega
      rw [e, Int.toNat_natCast]
    go_quiet (fail)
    go_wp2_with fail
    go_ret
    exact ⟨rfl, (M4.trans M5).below (below_drewN _ _)⟩

theorem ext_drop (text : ByteArray) (p : Nat) : (text.extract p text.size).data.toList = text.data.toList.drop p := by
  have h : (text.extract p text.size).data = text.data.extract p text.size := by simp
  rw [h]
  simp
  exact List.take_of_length_le (by simp)

theorem ext_mid (text : ByteArray) (p n : Nat) : (text.extract p (p + n)).data.toList = (text.data.toList.drop p).take n := by
  have h : (text.extract p (p + n)).data = text.data.extract p (p + n) := by simp
  rw [h]
  simp

theorem begins_drop {text : ByteArray} {p : Nat} {l : List UInt8} (h : text.data.toList.drop p = l) (word : ByteArray) : begins text p word = word.data.toList.isPrefixOf l := by
  unfold begins Lib.hasPrefix
  rw [ext_drop, h]

theorem decN_same {n b0 b1 b2 b3 n' b1' b2' b3' c k : Nat} (h : Lib.decodeN n b0 b1 b2 b3 = (c, k)) (hne : ¬ (c = 65533 ∧ k = 1)) (hk : k ≤ n') (h1 : 1 < k → b1' = b1) (h2 : 2 < k → b2' = b2) (h3 : 3 < k → b3' = b3) : Lib.decodeN n' b0 b1' b2' b3' = (c, k) ∧ (128 ≤ b0 → 128 ≤ c ∧ 2 ≤ k ∧ k ≤ 4 ∧ (1 < k → 128 ≤ b1) ∧ (2 < k → 128 ≤ b2) ∧ (3 < k → 128 ≤ b3)) := by
  unfold Lib.decodeN at h ⊢
  by_cases a0 : b0 < 128
  · rw [if_pos a0] at h ⊢
    exact ⟨h, fun h' => by omega⟩
  · rw [if_neg a0] at h ⊢
    by_cases a1 : b0 / 32 = 6 ∧ (1 < n ∧ b1 / 64 = 2)
    · rw [if_pos a1] at h
      split at h
      · rename_i hc
        simp only [Prod.mk.injEq] at h
        obtain ⟨hc1, hk1⟩ := h
        have e1 := h1 (by omega)
        subst e1
        rw [if_pos ⟨a1.1, by omega, a1.2.2⟩, if_pos hc]
        exact ⟨by rw [hc1, hk1], fun _ => by omega⟩
      · simp only [Prod.mk.injEq] at h
        exact absurd ⟨h.1.symm, h.2.symm⟩ hne
    · rw [if_neg a1] at h
      by_cases a2 : b0 / 16 = 14 ∧ (1 < n ∧ b1 / 64 = 2) ∧ (2 < n ∧ b2 / 64 = 2)
      · rw [if_pos a2] at h
        split at h
        · rename_i hc
          simp only [Prod.mk.injEq] at h
          obtain ⟨hc1, hk1⟩ := h
          have e1 := h1 (by omega)
          have e2 := h2 (by omega)
          subst e1
          subst e2
          rw [if_neg (by omega), if_pos ⟨a2.1, ⟨by omega, a2.2.1.2⟩, by omega, a2.2.2.2⟩, if_pos hc]
          exact ⟨by rw [hc1, hk1], fun _ => by omega⟩
        · simp only [Prod.mk.injEq] at h
          exact absurd ⟨h.1.symm, h.2.symm⟩ hne
      · rw [if_neg a2] at h
        by_cases a3 : b0 / 8 = 30 ∧ (1 < n ∧ b1 / 64 = 2) ∧ (2 < n ∧ b2 / 64 = 2) ∧ (3 < n ∧ b3 / 64 = 2)
        · rw [if_pos a3] at h
          split at h
          · rename_i hc
            simp only [Prod.mk.injEq] at h
            obtain ⟨hc1, hk1⟩ := h
            have e1 := h1 (by omega)
            have e2 := h2 (by omega)
            have e3 := h3 (by omega)
            subst e1
            subst e2
            subst e3
            rw [if_neg (by omega), if_neg (by omega), if_pos ⟨a3.1, ⟨by omega, a3.2.1.2⟩, ⟨by omega, a3.2.2.1.2⟩, by omega, a3.2.2.2.2⟩, if_pos hc]
            exact ⟨by rw [hc1, hk1], fun _ => by omega⟩
          · simp only [Prod.mk.injEq] at h
            exact absurd ⟨h.1.symm, h.2.symm⟩ hne
        · rw [if_neg a3] at h
          simp only [Prod.mk.injEq] at h
          exact absurd ⟨h.1.symm, h.2.symm⟩ hne
end Go.Proofs.YthbbapimedlocaaGreatDoor
