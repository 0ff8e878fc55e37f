/-
  What is proved here: see the remark of the text Valued1 (the parts of it that this seat needs).
-/
import Derived.Test.YtonjeaoagpelmaaGreatDoorWListed
namespace Go.Proofs.YtonjeaoagpelmaaGreatDoor
open Go.RowKit
set_option linter.unusedVariables false

set_option maxHeartbeats 2000000 in
set_option maxRecDepth 100000 in
theorem value_null (B r p : Nat) (text : ByteArray) (lists : Int) (w : World) (h : Rd r text p w) (hp : p ≤ text.size) (ht : text.size ≤ 4000) (hB : B ≤ r) (hT : Tabs B w) (hP : Pow10 B w)  (bnull : begins text p ⟨#[110, 117, 108, 108]⟩ = true)  :
    Calls Tryz.prog 40 #[.pointer (some ⟨r, 0, none⟩), .int .i64 lists] w fun e w' => e = .returned (.agg #[.int .i64 0, .int .i64 0, .string ⟨#[]⟩, .slice none 0 0]) ∧ Moved r text (p + 4) w w' := by
  have hr := h.lt
  have c0 := h.place
  have cnull : Hid (∀ W, Rd r text p W → Calls Tryz.prog 52 #[.pointer (some ⟨r, 0, none⟩), .string ⟨#[110, 117, 108, 108]⟩] W fun e w' => e = .returned (.bool true) ∧ Moved r text (p + 4) W w') := fun W hW => take_any r p text ⟨#[110, 117, 108, 108]⟩ W hW hp ht (by decide) true bnull
  clear bnull
  have hb0 : Below w.heap.size w (w.alloc (.cells #[.int .i64 0, .int .i64 0, .string ⟨#[]⟩, .slice none 0 0] 24)) := (Below.refl _ _).alloc (Nat.le_refl _) _
  have K0 : Moved r text p (w.alloc (.cells #[.int .i64 0, .int .i64 0, .string ⟨#[]⟩, .slice none 0 0] 24)) (w.alloc (.cells #[.int .i64 0, .int .i64 0, .string ⟨#[]⟩, .slice none 0 0] 24)) := Moved.refl (Moved.of_below h hb0).here
  go_enter Tryz.func40, Tryz.ntmps40
  go_wp2_with fail
  refine (cnull.out _ K0.here).mono ?_
  rintro e ut ⟨rfl, kt⟩
  have KT := K0.trans kt
  have hm : MovedTo (w.heap.size + 1) r text (p + 4) (w.alloc (.cells #[.int .i64 0, .int .i64 0, .string ⟨#[]⟩, .slice none 0 0] 24)) ut := ⟨KT.os, KT.tape, KT.output, KT.size, fun k hk hn => KT.block k (by simpa using hk) hn, KT.here⟩
  have hbox : ut.heap[w.heap.size]? = some (.cells #[.int .i64 0, .int .i64 0, .string ⟨#[]⟩, .slice none 0 0] 24 (0, 0)) := by
    rw [hm.block _ (by omega) (by omega)]
    exact alloc_new _ _
  have x0 := cell_of hbox 0
  have x1 := cell_of hbox 1
  have x2 := cell_of hbox 2
  have x3 := cell_of hbox 3
  have y0 := free_of hbox 0
  have y1 := free_of hbox 1
  have y2 := free_of hbox 2
  have y3 := free_of hbox 3
  simp at x0 x1 x2 x3
  have HX := toHid hbox
  clear hbox
  go_wp2_with fail
  have z := put4_here HX.out (.int .i64 0) (.int .i64 0) (.string ⟨#[]⟩) (.slice none 0 0)
  have zb := put4_below ut w.heap.size (.int .i64 0) (.int .i64 0) (.string ⟨#[]⟩) (.slice none 0 0)
  have z0 := cell_of z 0
  have z1 := cell_of z 1
  have z2 := cell_of z 2
  have z3 := cell_of z 3
  have eP : (((ut.setCell ⟨w.heap.size, 0, none⟩ (.int .i64 0)).setCell ⟨w.heap.size, 1, none⟩ (.int .i64 0)).setCell ⟨w.heap.size, 2, none⟩ (.string ⟨#[]⟩)).setCell ⟨w.heap.size, 3, none⟩ (.slice none 0 0) = put4 ut w.heap.size (.int .i64 0) (.int .i64 0) (.string ⟨#[]⟩) (.slice none 0 0) := rfl
  rw [eP]
  clear eP
  generalize put4 ut w.heap.size (.int .i64 0) (.int .i64 0) (.string ⟨#[]⟩) (.slice none 0 0) = W9 at z zb z0 z1 z2 z3 ⊢
  simp at z0 z1 z2 z3
  exact bodyPost_ret (v := .agg #[.int .i64 0, .int .i64 0, .string ⟨#[]⟩, .slice none 0 0]) (by simp [results, Tryz.results40, go_sem, z0, z1, z2, z3]) rfl ⟨rfl, hm.close zb (by omega)⟩

set_option maxHeartbeats 2000000 in
set_option maxRecDepth 100000 in
theorem value_text (B r p : Nat) (text : ByteArray) (lists : Int) (w : World) (h : Rd r text p w) (hp : p ≤ text.size) (ht : text.size ≤ 4000) (hB : B ≤ r) (hT : Tabs B w) (hP : Pow10 B w) (bnull : begins text p ⟨#[110, 117, 108, 108]⟩ = false) (btrue : begins text p ⟨#[116, 114, 117, 101]⟩ = false) (bfalse : begins text p ⟨#[102, 97, 108, 115, 101]⟩ = false) (bquote : begins text p ⟨#[39]⟩ = true) (q : Nat) (l : List (ByteArray × Nat)) (hl : Letters text (p + 1) l q) (hll : ∀ d, d <+: l → (joined d).length ≤ 100000000) :
    Calls Tryz.prog 40 #[.pointer (some ⟨r, 0, none⟩), .int .i64 lists] w fun e w' => e = .returned (.agg #[.int .i64 3, .int .i64 0, .string ⟨(joined l).toArray⟩, .slice none 0 0]) ∧ Moved r text (q) w w' := by
  have hr := h.lt
  have c0 := h.place
  have cnull : Hid (∀ W, Rd r text p W → Calls Tryz.prog 52 #[.pointer (some ⟨r, 0, none⟩), .string ⟨#[110, 117, 108, 108]⟩] W fun e w' => e = .returned (.bool false) ∧ Moved r text (p) W w') := fun W hW => take_any r p text ⟨#[110, 117, 108, 108]⟩ W hW hp ht (by decide) false bnull
  have ctrue : Hid (∀ W, Rd r text p W → Calls Tryz.prog 52 #[.pointer (some ⟨r, 0, none⟩), .string ⟨#[116, 114, 117, 101]⟩] W fun e w' => e = .returned (.bool false) ∧ Moved r text (p) W w') := fun W hW => take_any r p text ⟨#[116, 114, 117, 101]⟩ W hW hp ht (by decide) false btrue
  have cfalse : Hid (∀ W, Rd r text p W → Calls Tryz.prog 52 #[.pointer (some ⟨r, 0, none⟩), .string ⟨#[102, 97, 108, 115, 101]⟩] W fun e w' => e = .returned (.bool false) ∧ Moved r text (p) W w') := fun W hW => take_any r p text ⟨#[102, 97, 108, 115, 101]⟩ W hW hp ht (by decide) false bfalse
  have cquote : Hid (∀ W, Rd r text p W → Calls Tryz.prog 52 #[.pointer (some ⟨r, 0, none⟩), .string ⟨#[39]⟩] W fun e w' => e = .returned (.bool true) ∧ Moved r text (p + 1) W w') := fun W hW => take_any r p text ⟨#[39]⟩ W hW hp ht (by decide) true bquote
  clear bnull btrue bfalse bquote
  have hb0 : Below w.heap.size w (w.alloc (.cells #[.int .i64 0, .int .i64 0, .string ⟨#[]⟩, .slice none 0 0] 24)) := (Below.refl _ _).alloc (Nat.le_refl _) _
  have K0 : Moved r text p (w.alloc (.cells #[.int .i64 0, .int .i64 0, .string ⟨#[]⟩, .slice none 0 0] 24)) (w.alloc (.cells #[.int .i64 0, .int .i64 0, .string ⟨#[]⟩, .slice none 0 0] 24)) := Moved.refl (Moved.of_below h hb0).here
  have HL := toHid hl
  clear hl
  go_enter Tryz.func40, Tryz.ntmps40
  go_wp2_with fail
  refine (cnull.out _ K0.here).mono ?_
  rintro e u1 ⟨rfl, k1⟩
  have K1 := K0.trans k1
  go_wp2_with fail
  refine (ctrue.out _ K1.here).mono ?_
  rintro e u2 ⟨rfl, k2⟩
  have K2 := K1.trans k2
  go_wp2_with fail
  refine (cfalse.out _ K2.here).mono ?_
  rintro e u3 ⟨rfl, k3⟩
  have K3 := K2.trans k3
  go_wp2_with fail
  refine (cquote.out _ K3.here).mono ?_
  rintro e ut ⟨rfl, kt⟩
  have KT := K3.trans kt
  have hbt : Below B w ut := (hb0.mono (by omega)).trans ⟨KT.os, KT.tape, KT.output, KT.size, fun k hk => KT.block k (by simp; omega) (by omega)⟩
  have hT' : Tabs B ut := hT.below hbt
  have hP' : Pow10 B ut := hP.below hbt
  go_wp2_with fail
  refine (quoted_any B r (p + 1) q text l _ KT.here ht hB hT' HL.out hll).mono ?_
  rintro e uc ⟨rfl, kc⟩
  have KC := KT.trans kc
  have hm : MovedTo (w.heap.size + 1) r text q (w.alloc (.cells #[.int .i64 0, .int .i64 0, .string ⟨#[]⟩, .slice none 0 0] 24)) uc := ⟨KC.os, KC.tape, KC.output, KC.size, fun k hk hn => KC.block k (by simpa using hk) hn, KC.here⟩
  have hbox : uc.heap[w.heap.size]? = some (.cells #[.int .i64 0, .int .i64 0, .string ⟨#[]⟩, .slice none 0 0] 24 (0, 0)) := by
    rw [hm.block _ (by omega) (by omega)]
    exact alloc_new _ _
  have x0 := cell_of hbox 0
  have x1 := cell_of hbox 1
  have x2 := cell_of hbox 2
  have x3 := cell_of hbox 3
  have y0 := free_of hbox 0
  have y1 := free_of hbox 1
  have y2 := free_of hbox 2
  have y3 := free_of hbox 3
  simp at x0 x1 x2 x3
  have HX := toHid hbox
  clear hbox
  go_wp2_with fail
  have z := put4_here HX.out (.int .i64 3) (.int .i64 0) (.string ⟨(joined l).toArray⟩) (.slice none 0 0)
  have zb := put4_below uc w.heap.size (.int .i64 3) (.int .i64 0) (.string ⟨(joined l).toArray⟩) (.slice none 0 0)
  have z0 := cell_of z 0
  have z1 := cell_of z 1
  have z2 := cell_of z 2
  have z3 := cell_of z 3
  have eP : (((uc.setCell ⟨w.heap.size, 0, none⟩ (.int .i64 3)).setCell ⟨w.heap.size, 1, none⟩ (.int .i64 0)).setCell ⟨w.heap.size, 2, none⟩ (.string ⟨(joined l).toArray⟩)).setCell ⟨w.heap.size, 3, none⟩ (.slice none 0 0) = put4 uc w.heap.size (.int .i64 3) (.int .i64 0) (.string ⟨(joined l).toArray⟩) (.slice none 0 0) := rfl
  rw [eP]
  clear eP
  generalize put4 uc w.heap.size (.int .i64 3) (.int .i64 0) (.string ⟨(joined l).toArray⟩) (.slice none 0 0) = W9 at z zb z0 z1 z2 z3 ⊢
  simp at z0 z1 z2 z3
  exact bodyPost_ret (v := .agg #[.int .i64 3, .int .i64 0, .string ⟨(joined l).toArray⟩, .slice none 0 0]) (by simp [results, Tryz.results40, go_sem, z0, z1, z2, z3]) rfl ⟨rfl, hm.close zb (by omega)⟩

set_option maxHeartbeats 2000000 in
set_option maxRecDepth 100000 in
theorem value_num (B r p : Nat) (text : ByteArray) (lists : Int) (w : World) (h : Rd r text p w) (hp : p ≤ text.size) (ht : text.size ≤ 4000) (hB : B ≤ r) (hT : Tabs B w) (hP : Pow10 B w) (bnull : begins text p ⟨#[110, 117, 108, 108]⟩ = false) (btrue : begins text p ⟨#[116, 114, 117, 101]⟩ = false) (bfalse : begins text p ⟨#[102, 97, 108, 115, 101]⟩ = false) (bquote : begins text p ⟨#[39]⟩ = false) (bopen : begins text p ⟨#[91]⟩ = false) (q : Nat) (n : Int) (hn : ∀ (B r : Nat) (w : World), Rd r text p w → B ≤ r → Pow10 B w → Calls Tryz.prog 56 #[.pointer (some ⟨r, 0, none⟩)] w fun e w' => e = .returned (.agg #[.int .i64 2, .int .i64 n, .string ⟨#[]⟩, .slice none 0 0]) ∧ Moved r text q w w') :
    Calls Tryz.prog 40 #[.pointer (some ⟨r, 0, none⟩), .int .i64 lists] w fun e w' => e = .returned (.agg #[.int .i64 2, .int .i64 n, .string ⟨#[]⟩, .slice none 0 0]) ∧ Moved r text (q) w w' := by
  have hr := h.lt
  have c0 := h.place
  have cnull : Hid (∀ W, Rd r text p W → Calls Tryz.prog 52 #[.pointer (some ⟨r, 0, none⟩), .string ⟨#[110, 117, 108, 108]⟩] W fun e w' => e = .returned (.bool false) ∧ Moved r text (p) W w') := fun W hW => take_any r p text ⟨#[110, 117, 108, 108]⟩ W hW hp ht (by decide) false bnull
  have ctrue : Hid (∀ W, Rd r text p W → Calls Tryz.prog 52 #[.pointer (some ⟨r, 0, none⟩), .string ⟨#[116, 114, 117, 101]⟩] W fun e w' => e = .returned (.bool false) ∧ Moved r text (p) W w') := fun W hW => take_any r p text ⟨#[116, 114, 117, 101]⟩ W hW hp ht (by decide) false btrue
  have cfalse : Hid (∀ W, Rd r text p W → Calls Tryz.prog 52 #[.pointer (some ⟨r, 0, none⟩), .string ⟨#[102, 97, 108, 115, 101]⟩] W fun e w' => e = .returned (.bool false) ∧ Moved r text (p) W w') := fun W hW => take_any r p text ⟨#[102, 97, 108, 115, 101]⟩ W hW hp ht (by decide) false bfalse
  have cquote : Hid (∀ W, Rd r text p W → Calls Tryz.prog 52 #[.pointer (some ⟨r, 0, none⟩), .string ⟨#[39]⟩] W fun e w' => e = .returned (.bool false) ∧ Moved r text (p) W w') := fun W hW => take_any r p text ⟨#[39]⟩ W hW hp ht (by decide) false bquote
  have copen : Hid (∀ W, Rd r text p W → Calls Tryz.prog 52 #[.pointer (some ⟨r, 0, none⟩), .string ⟨#[91]⟩] W fun e w' => e = .returned (.bool false) ∧ Moved r text (p) W w') := fun W hW => take_any r p text ⟨#[91]⟩ W hW hp ht (by decide) false bopen
  clear bnull btrue bfalse bquote bopen
  have hb0 : Below w.heap.size w (w.alloc (.cells #[.int .i64 0, .int .i64 0, .string ⟨#[]⟩, .slice none 0 0] 24)) := (Below.refl _ _).alloc (Nat.le_refl _) _
  have K0 : Moved r text p (w.alloc (.cells #[.int .i64 0, .int .i64 0, .string ⟨#[]⟩, .slice none 0 0] 24)) (w.alloc (.cells #[.int .i64 0, .int .i64 0, .string ⟨#[]⟩, .slice none 0 0] 24)) := Moved.refl (Moved.of_below h hb0).here
  have HN := toHid hn
  clear hn
  go_enter Tryz.func40, Tryz.ntmps40
  go_wp2_with fail
  refine (cnull.out _ K0.here).mono ?_
  rintro e u1 ⟨rfl, k1⟩
  have K1 := K0.trans k1
  go_wp2_with fail
  refine (ctrue.out _ K1.here).mono ?_
  rintro e u2 ⟨rfl, k2⟩
  have K2 := K1.trans k2
  go_wp2_with fail
  refine (cfalse.out _ K2.here).mono ?_
  rintro e u3 ⟨rfl, k3⟩
  have K3 := K2.trans k3
  go_wp2_with fail
  refine (cquote.out _ K3.here).mono ?_
  rintro e u4 ⟨rfl, k4⟩
  have K4 := K3.trans k4
  go_wp2_with fail
  refine (copen.out _ K4.here).mono ?_
  rintro e u5 ⟨rfl, k5⟩
  have K5 := K4.trans k5
  go_wp2_with fail
  have hbt : Below B w u5 := (hb0.mono (by omega)).trans ⟨K5.os, K5.tape, K5.output, K5.size, fun k hk => K5.block k (by simp; omega) (by omega)⟩
  have hT' : Tabs B u5 := hT.below hbt
  have hP' : Pow10 B u5 := hP.below hbt
  refine (HN.out B r _ K5.here hB hP').mono ?_
  rintro e uc ⟨rfl, kc⟩
  have KC := K5.trans kc
  have hm : MovedTo (w.heap.size + 1) r text q (w.alloc (.cells #[.int .i64 0, .int .i64 0, .string ⟨#[]⟩, .slice none 0 0] 24)) uc := ⟨KC.os, KC.tape, KC.output, KC.size, fun k hk hn => KC.block k (by simpa using hk) hn, KC.here⟩
  have hbox : uc.heap[w.heap.size]? = some (.cells #[.int .i64 0, .int .i64 0, .string ⟨#[]⟩, .slice none 0 0] 24 (0, 0)) := by
    rw [hm.block _ (by omega) (by omega)]
    exact alloc_new _ _
  have x0 := cell_of hbox 0
  have x1 := cell_of hbox 1
  have x2 := cell_of hbox 2
  have x3 := cell_of hbox 3
  have y0 := free_of hbox 0
  have y1 := free_of hbox 1
  have y2 := free_of hbox 2
  have y3 := free_of hbox 3
  simp at x0 x1 x2 x3
  have HX := toHid hbox
  clear hbox
  go_wp2_with fail
  have z := put4_here HX.out (.int .i64 2) (.int .i64 n) (.string ⟨#[]⟩) (.slice none 0 0)
  have zb := put4_below uc w.heap.size (.int .i64 2) (.int .i64 n) (.string ⟨#[]⟩) (.slice none 0 0)
  have z0 := cell_of z 0
  have z1 := cell_of z 1
  have z2 := cell_of z 2
  have z3 := cell_of z 3
  have eP : (((uc.setCell ⟨w.heap.size, 0, none⟩ (.int .i64 2)).setCell ⟨w.heap.size, 1, none⟩ (.int .i64 n)).setCell ⟨w.heap.size, 2, none⟩ (.string ⟨#[]⟩)).setCell ⟨w.heap.size, 3, none⟩ (.slice none 0 0) = put4 uc w.heap.size (.int .i64 2) (.int .i64 n) (.string ⟨#[]⟩) (.slice none 0 0) := rfl
  rw [eP]
  clear eP
  generalize put4 uc w.heap.size (.int .i64 2) (.int .i64 n) (.string ⟨#[]⟩) (.slice none 0 0) = W9 at z zb z0 z1 z2 z3 ⊢
  simp at z0 z1 z2 z3
  exact bodyPost_ret (v := .agg #[.int .i64 2, .int .i64 n, .string ⟨#[]⟩, .slice none 0 0]) (by simp [results, Tryz.results40, go_sem, z0, z1, z2, z3]) rfl ⟨rfl, hm.close zb (by omega)⟩

set_option maxHeartbeats 2000000 in
set_option maxRecDepth 100000 in
theorem value_list (B r p : Nat) (text : ByteArray) (lists : Int) (w : World) (h : Rd r text p w) (hp : p ≤ text.size) (ht : text.size ≤ 4000) (hB : B ≤ r) (hT : Tabs B w) (hP : Pow10 B w) (bnull : begins text p ⟨#[110, 117, 108, 108]⟩ = false) (btrue : begins text p ⟨#[116, 114, 117, 101]⟩ = false) (bfalse : begins text p ⟨#[102, 97, 108, 115, 101]⟩ = false) (bquote : begins text p ⟨#[39]⟩ = false) (bopen : begins text p ⟨#[91]⟩ = true) (q : Nat) (l : List Item) (hlt : lists < 40) (hl0 : 0 ≤ lists) (hp1 : p + 1 ≤ text.size) (hl : Items text (lists + 1) (p + 1) l q) (hll : l.length ≤ 4000) (hf : begins text (p + 1) ⟨#[93]⟩ = false) :
    Calls Tryz.prog 40 #[.pointer (some ⟨r, 0, none⟩), .int .i64 lists] w fun e w' => ∃ g cap, e = .returned (.agg #[.int .i64 4, .int .i64 0, .string ⟨#[]⟩, .slice (some ⟨g, 0, none⟩) l.length cap]) ∧ w'.ownsRow (w.heap.size + 1) 24 4 (.slice (some ⟨g, 0, none⟩) l.length cap) l.length (rowOf l) ∧ Moved r text q w w' := by
  have hr := h.lt
  have c0 := h.place
  have cnull : Hid (∀ W, Rd r text p W → Calls Tryz.prog 52 #[.pointer (some ⟨r, 0, none⟩), .string ⟨#[110, 117, 108, 108]⟩] W fun e w' => e = .returned (.bool false) ∧ Moved r text (p) W w') := fun W hW => take_any r p text ⟨#[110, 117, 108, 108]⟩ W hW hp ht (by decide) false bnull
  have ctrue : Hid (∀ W, Rd r text p W → Calls Tryz.prog 52 #[.pointer (some ⟨r, 0, none⟩), .string ⟨#[116, 114, 117, 101]⟩] W fun e w' => e = .returned (.bool false) ∧ Moved r text (p) W w') := fun W hW => take_any r p text ⟨#[116, 114, 117, 101]⟩ W hW hp ht (by decide) false btrue
  have cfalse : Hid (∀ W, Rd r text p W → Calls Tryz.prog 52 #[.pointer (some ⟨r, 0, none⟩), .string ⟨#[102, 97, 108, 115, 101]⟩] W fun e w' => e = .returned (.bool false) ∧ Moved r text (p) W w') := fun W hW => take_any r p text ⟨#[102, 97, 108, 115, 101]⟩ W hW hp ht (by decide) false bfalse
  have cquote : Hid (∀ W, Rd r text p W → Calls Tryz.prog 52 #[.pointer (some ⟨r, 0, none⟩), .string ⟨#[39]⟩] W fun e w' => e = .returned (.bool false) ∧ Moved r text (p) W w') := fun W hW => take_any r p text ⟨#[39]⟩ W hW hp ht (by decide) false bquote
  have copen : Hid (∀ W, Rd r text p W → Calls Tryz.prog 52 #[.pointer (some ⟨r, 0, none⟩), .string ⟨#[91]⟩] W fun e w' => e = .returned (.bool true) ∧ Moved r text (p + 1) W w') := fun W hW => take_any r p text ⟨#[91]⟩ W hW hp ht (by decide) true bopen
  clear bnull btrue bfalse bquote bopen
  have hb0 : Below w.heap.size w (w.alloc (.cells #[.int .i64 0, .int .i64 0, .string ⟨#[]⟩, .slice none 0 0] 24)) := (Below.refl _ _).alloc (Nat.le_refl _) _
  have K0 : Moved r text p (w.alloc (.cells #[.int .i64 0, .int .i64 0, .string ⟨#[]⟩, .slice none 0 0] 24)) (w.alloc (.cells #[.int .i64 0, .int .i64 0, .string ⟨#[]⟩, .slice none 0 0] 24)) := Moved.refl (Moved.of_below h hb0).here
  have HL := toHid hl
  have HF := toHid hf
  clear hl hf
  go_enter Tryz.func40, Tryz.ntmps40
  go_wp2_with fail
  refine (cnull.out _ K0.here).mono ?_
  rintro e u1 ⟨rfl, k1⟩
  have K1 := K0.trans k1
  go_wp2_with fail
  refine (ctrue.out _ K1.here).mono ?_
  rintro e u2 ⟨rfl, k2⟩
  have K2 := K1.trans k2
  go_wp2_with fail
  refine (cfalse.out _ K2.here).mono ?_
  rintro e u3 ⟨rfl, k3⟩
  have K3 := K2.trans k3
  go_wp2_with fail
  refine (cquote.out _ K3.here).mono ?_
  rintro e u4 ⟨rfl, k4⟩
  have K4 := K3.trans k4
  go_wp2_with fail
  refine (copen.out _ K4.here).mono ?_
  rintro e ut ⟨rfl, kt⟩
  have KT := K4.trans kt
  have hbt : Below B w ut := (hb0.mono (by omega)).trans ⟨KT.os, KT.tape, KT.output, KT.size, fun k hk => KT.block k (by simp; omega) (by omega)⟩
  have hT' : Tabs B ut := hT.below hbt
  have hP' : Pow10 B ut := hP.below hbt
  go_wp2_with fail
  refine (list_items B r (p + 1) q text (lists + 1) l _ KT.here ht hp1 hB hT' hP' HL.out hll HF.out).mono ?_
  rintro e uc ⟨g, cap, rfl, ho, kc⟩
  have KC := KT.trans kc
  have hm : MovedTo (w.heap.size + 1) r text q (w.alloc (.cells #[.int .i64 0, .int .i64 0, .string ⟨#[]⟩, .slice none 0 0] 24)) uc := ⟨KC.os, KC.tape, KC.output, KC.size, fun k hk hn => KC.block k (by simpa using hk) hn, KC.here⟩
  have hbox : uc.heap[w.heap.size]? = some (.cells #[.int .i64 0, .int .i64 0, .string ⟨#[]⟩, .slice none 0 0] 24 (0, 0)) := by
    rw [hm.block _ (by omega) (by omega)]
    exact alloc_new _ _
  have x0 := cell_of hbox 0
  have x1 := cell_of hbox 1
  have x2 := cell_of hbox 2
  have x3 := cell_of hbox 3
  have y0 := free_of hbox 0
  have y1 := free_of hbox 1
  have y2 := free_of hbox 2
  have y3 := free_of hbox 3
  simp at x0 x1 x2 x3
  have HX := toHid hbox
  clear hbox
  go_wp2_with fail
  have z := put4_here HX.out (.int .i64 4) (.int .i64 0) (.string ⟨#[]⟩) (.slice (some ⟨g, 0, none⟩) l.length cap)
  have zb := put4_below uc w.heap.size (.int .i64 4) (.int .i64 0) (.string ⟨#[]⟩) (.slice (some ⟨g, 0, none⟩) l.length cap)
  have z0 := cell_of z 0
  have z1 := cell_of z 1
  have z2 := cell_of z 2
  have z3 := cell_of z 3
  have eP : (((uc.setCell ⟨w.heap.size, 0, none⟩ (.int .i64 4)).setCell ⟨w.heap.size, 1, none⟩ (.int .i64 0)).setCell ⟨w.heap.size, 2, none⟩ (.string ⟨#[]⟩)).setCell ⟨w.heap.size, 3, none⟩ (.slice (some ⟨g, 0, none⟩) l.length cap) = put4 uc w.heap.size (.int .i64 4) (.int .i64 0) (.string ⟨#[]⟩) (.slice (some ⟨g, 0, none⟩) l.length cap) := rfl
  rw [eP]
  clear eP
  have zo : (put4 uc w.heap.size (.int .i64 4) (.int .i64 0) (.string ⟨#[]⟩) (.slice (some ⟨g, 0, none⟩) l.length cap)).ownsRow (w.heap.size + 1) 24 4 (.slice (some ⟨g, 0, none⟩) l.length cap) l.length (rowOf l) := by
    have hsz : w.heap.size + 1 ≤ ut.heap.size := by have := KT.size; simpa using this
    have o0 : uc.ownsRow (w.heap.size + 1) 24 4 (.slice (some ⟨g, 0, none⟩) l.length cap) l.length (rowOf l) := by
      refine ⟨ho.1, ?_⟩
      rcases ho.2 with h0 | ⟨g', cap', cur, e1, e2, e3⟩
      · exact .inl h0
      · exact .inr ⟨g', cap', cur, e1, by omega, e3⟩
    exact ownsRow_setCell_below (ownsRow_setCell_below (ownsRow_setCell_below (ownsRow_setCell_below o0 (a := ⟨w.heap.size, 0, none⟩) (by show w.heap.size < _; omega) (.int .i64 4)) (a := ⟨w.heap.size, 1, none⟩) (by show w.heap.size < _; omega) (.int .i64 0)) (a := ⟨w.heap.size, 2, none⟩) (by show w.heap.size < _; omega) (.string ⟨#[]⟩)) (a := ⟨w.heap.size, 3, none⟩) (by show w.heap.size < _; omega) (.slice (some ⟨g, 0, none⟩) l.length cap)
  generalize put4 uc w.heap.size (.int .i64 4) (.int .i64 0) (.string ⟨#[]⟩) (.slice (some ⟨g, 0, none⟩) l.length cap) = W9 at z zb zo z0 z1 z2 z3 ⊢
  simp at z0 z1 z2 z3
  exact bodyPost_ret (v := .agg #[.int .i64 4, .int .i64 0, .string ⟨#[]⟩, .slice (some ⟨g, 0, none⟩) l.length cap]) (by simp [results, Tryz.results40, go_sem, z0, z1, z2, z3]) rfl ⟨g, cap, rfl, zo, hm.close zb (by omega)⟩

end Go.Proofs.YtonjeaoagpelmaaGreatDoor
