/-
  What is proved here: what the texts XRValue prove, in one text.
-/
import Derived.Test.YtdbodcfodlbgnaaDoorQVAF
import Derived.Test.YtdbodcfodlbgnaaDoorRows
import Derived.WalkKit
import Derived.ProofKit
import Derived.Below
import Derived.Deep.LoopGhost
import Derived.Deep.Draws
import Derived.WalkLawsBesides
import Derived.Deep.QuietTactic
import Derived.BigQuiet
import Derived.Shelf.Unicode.DecodeSlow
import Derived.Deep.RegionWith
import Derived.Lib.FrozenHead
import Derived.Deep.RegionHeld3
import Derived.Deep.AppendLies
import Derived.Defers
import Derived.Recover
import Derived.Maps.AppendAt
import Derived.OwnWalk
import Derived.Lib.AppendStr
import Derived.ChangeArms
import Derived.Lib.SmallJoins
import Derived.Deep.DeepFit
import Derived.Lib.BytesEntry
import Derived.Lib.ConvBytes
namespace Go.Proofs.YtdbodcfodlbgnaaDoor
open Go.RowKit
set_option linter.unusedVariables false

set_option maxHeartbeats 2000000 in
set_option maxRecDepth 100000 in
theorem value_true (B r p : Nat) (text : ByteArray) (lists : Int) (w : World) (h : Rd r text p w) (hp : p ≤ text.size) (ht : text.size ≤ 4000) (hB : B ≤ r) (hT : Tabs B w) (hP : Pow10 B w) (bnull : begins text p ⟨#[110, 117, 108, 108]⟩ = false) (btrue : begins text p ⟨#[116, 114, 117, 101]⟩ = true)  :
    Calls Tryd.prog 19 #[.pointer (some ⟨r, 0, none⟩), .int .i64 lists] w fun e w' => e = .returned (.agg #[.int .i64 1, .int .i64 1, .string ⟨#[]⟩, .slice none 0 0]) ∧ Moved r text (p + 4) w w' := by
  have hr := h.lt
  have c0 := h.place
  have cnull : Hid (∀ W, Rd r text p W → Calls Tryd.prog 31 #[.pointer (some ⟨r, 0, none⟩), .string ⟨#[110, 117, 108, 108]⟩] W fun e w' => e = .returned (.bool false) ∧ Moved r text (p) W w') := fun W hW => take_any r p text ⟨#[110, 117, 108, 108]⟩ W hW hp ht (by decide) false bnull
  have ctrue : Hid (∀ W, Rd r text p W → Calls Tryd.prog 31 #[.pointer (some ⟨r, 0, none⟩), .string ⟨#[116, 114, 117, 101]⟩] W fun e w' => e = .returned (.bool true) ∧ Moved r text (p + 4) W w') := fun W hW => take_any r p text ⟨#[116, 114, 117, 101]⟩ W hW hp ht (by decide) true btrue
  clear bnull btrue
  have hb0 : Below w.heap.size w (w.alloc (.cells #[.int .i64 0, .int .i64 0, .string ⟨#[]⟩, .slice none 0 0] 24)) := (Below.refl _ _).alloc (Nat.le_refl _) _
  have K0 : Moved r text p (w.alloc (.cells #[.int .i64 0, .int .i64 0, .string ⟨#[]⟩, .slice none 0 0] 24)) (w.alloc (.cells #[.int .i64 0, .int .i64 0, .string ⟨#[]⟩, .slice none 0 0] 24)) := Moved.refl (Moved.of_below h hb0).here
  go_enter Tryd.func19, Tryd.ntmps19
  go_wp2_with fail
  refine (cnull.out _ K0.here).mono ?_
  rintro e u1 ⟨rfl, k1⟩
  have K1 := K0.trans k1
  go_wp2_with fail
  refine (ctrue.out _ K1.here).mono ?_
  rintro e ut ⟨rfl, kt⟩
  have KT := K1.trans kt
  have hbt : Below B w ut := (hb0.mono (by omega)).trans ⟨KT.os, KT.tape, KT.output, KT.size, fun k hk => KT.block k (by simp; omega) (by omega)⟩
  have hT' : Tabs B ut := hT.below hbt
  have hP' : Pow10 B ut := hP.below hbt
  go_wp2_with fail
  refine (truth_any true _).mono ?_
  rintro e uc ⟨rfl, kc0⟩
  have kc := Moved.of_below KT.here kc0
  have KC := KT.trans kc
  have hm : MovedTo (w.heap.size + 1) r text (p + 4) (w.alloc (.cells #[.int .i64 0, .int .i64 0, .string ⟨#[]⟩, .slice none 0 0] 24)) uc := ⟨KC.os, KC.tape, KC.output, KC.size, fun k hk hn => KC.block k (by simpa using hk) hn, KC.here⟩
  have hbox : uc.heap[w.heap.size]? = some (.cells #[.int .i64 0, .int .i64 0, .string ⟨#[]⟩, .slice none 0 0] 24 (0, 0)) := by
    rw [hm.block _ (by omega) (by omega)]
    exact alloc_new _ _
  have x0 := cell_of hbox 0
  have x1 := cell_of hbox 1
  have x2 := cell_of hbox 2
  have x3 := cell_of hbox 3
  have y0 := free_of hbox 0
  have y1 := free_of hbox 1
  have y2 := free_of hbox 2
  have y3 := free_of hbox 3
  simp at x0 x1 x2 x3
  have HX := toHid hbox
  clear hbox
  go_wp2_with fail
  have z := put4_here HX.out (.int .i64 1) (.int .i64 1) (.string ⟨#[]⟩) (.slice none 0 0)
  have zb := put4_below uc w.heap.size (.int .i64 1) (.int .i64 1) (.string ⟨#[]⟩) (.slice none 0 0)
  have z0 := cell_of z 0
  have z1 := cell_of z 1
  have z2 := cell_of z 2
  have z3 := cell_of z 3
  have eP : (((uc.setCell ⟨w.heap.size, 0, none⟩ (.int .i64 1)).setCell ⟨w.heap.size, 1, none⟩ (.int .i64 1)).setCell ⟨w.heap.size, 2, none⟩ (.string ⟨#[]⟩)).setCell ⟨w.heap.size, 3, none⟩ (.slice none 0 0) = put4 uc w.heap.size (.int .i64 1) (.int .i64 1) (.string ⟨#[]⟩) (.slice none 0 0) := rfl
  rw [eP]
  clear eP
  generalize put4 uc w.heap.size (.int .i64 1) (.int .i64 1) (.string ⟨#[]⟩) (.slice none 0 0) = W9 at z zb z0 z1 z2 z3 ⊢
  simp at z0 z1 z2 z3
  exact bodyPost_ret (v := .agg #[.int .i64 1, .int .i64 1, .string ⟨#[]⟩, .slice none 0 0]) (by simp [results, Tryd.results19, go_sem, z0, z1, z2, z3]) rfl ⟨rfl, hm.close zb (by omega)⟩

set_option maxHeartbeats 2000000 in
set_option maxRecDepth 100000 in
theorem value_false (B r p : Nat) (text : ByteArray) (lists : Int) (w : World) (h : Rd r text p w) (hp : p ≤ text.size) (ht : text.size ≤ 4000) (hB : B ≤ r) (hT : Tabs B w) (hP : Pow10 B w) (bnull : begins text p ⟨#[110, 117, 108, 108]⟩ = false) (btrue : begins text p ⟨#[116, 114, 117, 101]⟩ = false) (bfalse : begins text p ⟨#[102, 97, 108, 115, 101]⟩ = true)  :
    Calls Tryd.prog 19 #[.pointer (some ⟨r, 0, none⟩), .int .i64 lists] w fun e w' => e = .returned (.agg #[.int .i64 1, .int .i64 0, .string ⟨#[]⟩, .slice none 0 0]) ∧ Moved r text (p + 5) w w' := by
  have hr := h.lt
  have c0 := h.place
  have cnull : Hid (∀ W, Rd r text p W → Calls Tryd.prog 31 #[.pointer (some ⟨r, 0, none⟩), .string ⟨#[110, 117, 108, 108]⟩] W fun e w' => e = .returned (.bool false) ∧ Moved r text (p) W w') := fun W hW => take_any r p text ⟨#[110, 117, 108, 108]⟩ W hW hp ht (by decide) false bnull
  have ctrue : Hid (∀ W, Rd r text p W → Calls Tryd.prog 31 #[.pointer (some ⟨r, 0, none⟩), .string ⟨#[116, 114, 117, 101]⟩] W fun e w' => e = .returned (.bool false) ∧ Moved r text (p) W w') := fun W hW => take_any r p text ⟨#[116, 114, 117, 101]⟩ W hW hp ht (by decide) false btrue
  have cfalse : Hid (∀ W, Rd r text p W → Calls Tryd.prog 31 #[.pointer (some ⟨r, 0, none⟩), .string ⟨#[102, 97, 108, 115, 101]⟩] W fun e w' => e = .returned (.bool true) ∧ Moved r text (p + 5) W w') := fun W hW => take_any r p text ⟨#[102, 97, 108, 115, 101]⟩ W hW hp ht (by decide) true bfalse
  clear bnull btrue bfalse
  have hb0 : Below w.heap.size w (w.alloc (.cells #[.int .i64 0, .int .i64 0, .string ⟨#[]⟩, .slice none 0 0] 24)) := (Below.refl _ _).alloc (Nat.le_refl _) _
  have K0 : Moved r text p (w.alloc (.cells #[.int .i64 0, .int .i64 0, .string ⟨#[]⟩, .slice none 0 0] 24)) (w.alloc (.cells #[.int .i64 0, .int .i64 0, .string ⟨#[]⟩, .slice none 0 0] 24)) := Moved.refl (Moved.of_below h hb0).here
  go_enter Tryd.func19, Tryd.ntmps19
  go_wp2_with fail
  refine (cnull.out _ K0.here).mono ?_
  rintro e u1 ⟨rfl, k1⟩
  have K1 := K0.trans k1
  go_wp2_with fail
  refine (ctrue.out _ K1.here).mono ?_
  rintro e u2 ⟨rfl, k2⟩
  have K2 := K1.trans k2
  go_wp2_with fail
  refine (cfalse.out _ K2.here).mono ?_
  rintro e ut ⟨rfl, kt⟩
  have KT := K2.trans kt
  have hbt : Below B w ut := (hb0.mono (by omega)).trans ⟨KT.os, KT.tape, KT.output, KT.size, fun k hk => KT.block k (by simp; omega) (by omega)⟩
  have hT' : Tabs B ut := hT.below hbt
  have hP' : Pow10 B ut := hP.below hbt
  go_wp2_with fail
  refine (truth_any false _).mono ?_
  rintro e uc ⟨rfl, kc0⟩
  have kc := Moved.of_below KT.here kc0
  have KC := KT.trans kc
  have hm : MovedTo (w.heap.size + 1) r text (p + 5) (w.alloc (.cells #[.int .i64 0, .int .i64 0, .string ⟨#[]⟩, .slice none 0 0] 24)) uc := ⟨KC.os, KC.tape, KC.output, KC.size, fun k hk hn => KC.block k (by simpa using hk) hn, KC.here⟩
  have hbox : uc.heap[w.heap.size]? = some (.cells #[.int .i64 0, .int .i64 0, .string ⟨#[]⟩, .slice none 0 0] 24 (0, 0)) := by
    rw [hm.block _ (by omega) (by omega)]
    exact alloc_new _ _
  have x0 := cell_of hbox 0
  have x1 := cell_of hbox 1
  have x2 := cell_of hbox 2
  have x3 := cell_of hbox 3
  have y0 := free_of hbox 0
  have y1 := free_of hbox 1
  have y2 := free_of hbox 2
  have y3 := free_of hbox 3
  simp at x0 x1 x2 x3
  have HX := toHid hbox
  clear hbox
  go_wp2_with fail
  have z := put4_here HX.out (.int .i64 1) (.int .i64 0) (.string ⟨#[]⟩) (.slice none 0 0)
  have zb := put4_below uc w.heap.size (.int .i64 1) (.int .i64 0) (.string ⟨#[]⟩) (.slice none 0 0)
  have z0 := cell_of z 0
  have z1 := cell_of z 1
  have z2 := cell_of z 2
  have z3 := cell_of z 3
  have eP : (((uc.setCell ⟨w.heap.size, 0, none⟩ (.int .i64 1)).setCell ⟨w.heap.size, 1, none⟩ (.int .i64 0)).setCell ⟨w.heap.size, 2, none⟩ (.string ⟨#[]⟩)).setCell ⟨w.heap.size, 3, none⟩ (.slice none 0 0) = put4 uc w.heap.size (.int .i64 1) (.int .i64 0) (.string ⟨#[]⟩) (.slice none 0 0) := rfl
  rw [eP]
  clear eP
  generalize put4 uc w.heap.size (.int .i64 1) (.int .i64 0) (.string ⟨#[]⟩) (.slice none 0 0) = W9 at z zb z0 z1 z2 z3 ⊢
  simp at z0 z1 z2 z3
  exact bodyPost_ret (v := .agg #[.int .i64 1, .int .i64 0, .string ⟨#[]⟩, .slice none 0 0]) (by simp [results, Tryd.results19, go_sem, z0, z1, z2, z3]) rfl ⟨rfl, hm.close zb (by omega)⟩

set_option maxHeartbeats 2000000 in
set_option maxRecDepth 100000 in
theorem value_lists (B r p : Nat) (text : ByteArray) (lists : Int) (w : World) (h : Rd r text p w) (hp : p ≤ text.size) (ht : text.size ≤ 4000) (hB : B ≤ r) (hT : Tabs B w) (hP : Pow10 B w) (bnull : begins text p ⟨#[110, 117, 108, 108]⟩ = false) (btrue : begins text p ⟨#[116, 114, 117, 101]⟩ = false) (bfalse : begins text p ⟨#[102, 97, 108, 115, 101]⟩ = false) (bquote : begins text p ⟨#[39]⟩ = false) (bopen : begins text p ⟨#[91]⟩ = true) (q : Nat) (ts : List T) (hlt : lists < 40) (hl0 : 0 ≤ lists) (hn : ∀ (B r : Nat) (w : World), Rd r text (p + 1) w → B ≤ r → Tabs B w → Pow10 B w → Calls Tryd.prog 34 #[.pointer (some ⟨r, 0, none⟩), .int .i64 (lists + 1)] w fun e w' => ∃ a l c, e = .returned (.agg #[.int .i64 4, .int .i64 0, .string ⟨#[]⟩, .slice a l c]) ∧ l ≤ c ∧ LieA (fun i => w.heap.size ≤ i) w' ts a l ∧ Moved r text q w w') :
    Calls Tryd.prog 19 #[.pointer (some ⟨r, 0, none⟩), .int .i64 lists] w fun e w' => ∃ a l c, e = .returned (.agg #[.int .i64 4, .int .i64 0, .string ⟨#[]⟩, .slice a l c]) ∧ l ≤ c ∧ LieA (fun i => w.heap.size ≤ i) w' ts a l ∧ Moved r text q w w' := by
  have hr := h.lt
  have c0 := h.place
  have cnull : Hid (∀ W, Rd r text p W → Calls Tryd.prog 31 #[.pointer (some ⟨r, 0, none⟩), .string ⟨#[110, 117, 108, 108]⟩] W fun e w' => e = .returned (.bool false) ∧ Moved r text (p) W w') := fun W hW => take_any r p text ⟨#[110, 117, 108, 108]⟩ W hW hp ht (by decide) false bnull
  have ctrue : Hid (∀ W, Rd r text p W → Calls Tryd.prog 31 #[.pointer (some ⟨r, 0, none⟩), .string ⟨#[116, 114, 117, 101]⟩] W fun e w' => e = .returned (.bool false) ∧ Moved r text (p) W w') := fun W hW => take_any r p text ⟨#[116, 114, 117, 101]⟩ W hW hp ht (by decide) false btrue
  have cfalse : Hid (∀ W, Rd r text p W → Calls Tryd.prog 31 #[.pointer (some ⟨r, 0, none⟩), .string ⟨#[102, 97, 108, 115, 101]⟩] W fun e w' => e = .returned (.bool false) ∧ Moved r text (p) W w') := fun W hW => take_any r p text ⟨#[102, 97, 108, 115, 101]⟩ W hW hp ht (by decide) false bfalse
  have cquote : Hid (∀ W, Rd r text p W → Calls Tryd.prog 31 #[.pointer (some ⟨r, 0, none⟩), .string ⟨#[39]⟩] W fun e w' => e = .returned (.bool false) ∧ Moved r text (p) W w') := fun W hW => take_any r p text ⟨#[39]⟩ W hW hp ht (by decide) false bquote
  have copen : Hid (∀ W, Rd r text p W → Calls Tryd.prog 31 #[.pointer (some ⟨r, 0, none⟩), .string ⟨#[91]⟩] W fun e w' => e = .returned (.bool true) ∧ Moved r text (p + 1) W w') := fun W hW => take_any r p text ⟨#[91]⟩ W hW hp ht (by decide) true bopen
  clear bnull btrue bfalse bquote bopen
  have hb0 : Below w.heap.size w (w.alloc (.cells #[.int .i64 0, .int .i64 0, .string ⟨#[]⟩, .slice none 0 0] 24)) := (Below.refl _ _).alloc (Nat.le_refl _) _
  have K0 : Moved r text p (w.alloc (.cells #[.int .i64 0, .int .i64 0, .string ⟨#[]⟩, .slice none 0 0] 24)) (w.alloc (.cells #[.int .i64 0, .int .i64 0, .string ⟨#[]⟩, .slice none 0 0] 24)) := Moved.refl (Moved.of_below h hb0).here
  have HN := toHid hn
  clear hn
  go_enter Tryd.func19, Tryd.ntmps19
  go_wp2_with fail
  refine (cnull.out _ K0.here).mono ?_
  rintro e u1 ⟨rfl, k1⟩
  have K1 := K0.trans k1
  go_wp2_with fail
  refine (ctrue.out _ K1.here).mono ?_
  rintro e u2 ⟨rfl, k2⟩
  have K2 := K1.trans k2
  go_wp2_with fail
  refine (cfalse.out _ K2.here).mono ?_
  rintro e u3 ⟨rfl, k3⟩
  have K3 := K2.trans k3
  go_wp2_with fail
  refine (cquote.out _ K3.here).mono ?_
  rintro e u4 ⟨rfl, k4⟩
  have K4 := K3.trans k4
  go_wp2_with fail
  refine (copen.out _ K4.here).mono ?_
  rintro e ut ⟨rfl, kt⟩
  have KT := K4.trans kt
  have hbt : Below B w ut := (hb0.mono (by omega)).trans ⟨KT.os, KT.tape, KT.output, KT.size, fun k hk => KT.block k (by simp; omega) (by omega)⟩
  have hT' : Tabs B ut := hT.below hbt
  have hP' : Pow10 B ut := hP.below hbt
  go_wp2_with fail
  refine (HN.out B r _ KT.here hB hT' hP').mono ?_
  rintro e uc ⟨a, l, c, rfl, hlc, hlie, kc⟩
  have HLIE := toHid hlie
  have KC := KT.trans kc
  have zt : w.heap.size + 1 ≤ ut.heap.size := by have := KT.size; simpa using this
  clear hlie
  have hm : MovedTo (w.heap.size + 1) r text q (w.alloc (.cells #[.int .i64 0, .int .i64 0, .string ⟨#[]⟩, .slice none 0 0] 24)) uc := ⟨KC.os, KC.tape, KC.output, KC.size, fun k hk hn => KC.block k (by simpa using hk) hn, KC.here⟩
  have hbox : uc.heap[w.heap.size]? = some (.cells #[.int .i64 0, .int .i64 0, .string ⟨#[]⟩, .slice none 0 0] 24 (0, 0)) := by
    rw [hm.block _ (by omega) (by omega)]
    exact alloc_new _ _
  have x0 := cell_of hbox 0
  have x1 := cell_of hbox 1
  have x2 := cell_of hbox 2
  have x3 := cell_of hbox 3
  have y0 := free_of hbox 0
  have y1 := free_of hbox 1
  have y2 := free_of hbox 2
  have y3 := free_of hbox 3
  simp at x0 x1 x2 x3
  have HX := toHid hbox
  clear hbox
  go_wp2_with fail
  have z := put4_here HX.out (.int .i64 4) (.int .i64 0) (.string ⟨#[]⟩) (.slice a l c)
  have zb := put4_below uc w.heap.size (.int .i64 4) (.int .i64 0) (.string ⟨#[]⟩) (.slice a l c)
  have z0 := cell_of z 0
  have z1 := cell_of z 1
  have z2 := cell_of z 2
  have z3 := cell_of z 3
  have eP : (((uc.setCell ⟨w.heap.size, 0, none⟩ (.int .i64 4)).setCell ⟨w.heap.size, 1, none⟩ (.int .i64 0)).setCell ⟨w.heap.size, 2, none⟩ (.string ⟨#[]⟩)).setCell ⟨w.heap.size, 3, none⟩ (.slice a l c) = put4 uc w.heap.size (.int .i64 4) (.int .i64 0) (.string ⟨#[]⟩) (.slice a l c) := rfl
  rw [eP]
  clear eP
  have ZB := toHid (put4_other uc w.heap.size (.int .i64 4) (.int .i64 0) (.string ⟨#[]⟩) (.slice a l c))
  generalize put4 uc w.heap.size (.int .i64 4) (.int .i64 0) (.string ⟨#[]⟩) (.slice a l c) = W9 at z zb z0 z1 z2 z3 ZB ⊢
  simp at z0 z1 z2 z3
  refine bodyPost_ret (v := .agg #[.int .i64 4, .int .i64 0, .string ⟨#[]⟩, .slice a l c]) (by simp [results, Tryd.results19, go_sem, z0, z1, z2, z3]) rfl ⟨a, l, c, rfl, hlc, ?_, hm.close zb (by omega)⟩
  exact LieA.kept zb.size (fun i hi hi2 => ⟨by omega, ZB.out i (by omega) hi2⟩) _ _ _ HLIE.out

set_option maxHeartbeats 2000000 in
set_option maxRecDepth 100000 in
/-- A bracket that closes at once. -/
theorem list_none (B r p : Nat) (text : ByteArray) (lists : Int) (w : World) (h : Rd r text p w) (ht : text.size ≤ 4000) (hp : p ≤ text.size) (hf : begins text p ⟨#[93]⟩ = true) :
    Calls Tryd.prog 34 #[.pointer (some ⟨r, 0, none⟩), .int .i64 lists] w fun e w' => ∃ a l c, e = .returned (.agg #[.int .i64 4, .int .i64 0, .string ⟨#[]⟩, .slice a l c]) ∧ l ≤ c ∧ LieA (fun i => w.heap.size ≤ i) w' [] a l ∧ Moved r text (p + 1) w w' := by
  have hr := h.lt
  have cT : Hid (∀ W, Rd r text p W → Calls Tryd.prog 31 #[.pointer (some ⟨r, 0, none⟩), .string ⟨#[93]⟩] W fun e w' => e = .returned (.bool true) ∧ Moved r text (p + 1) W w') := fun W hW => take_any r p text ⟨#[93]⟩ W hW hp ht (by decide) true hf
  clear hf
  have hb1 : Below w.heap.size w ((w.alloc (.cells #[.int .i64 0, .int .i64 0, .string ⟨#[]⟩, .slice none 0 0] 24)).alloc (.cells #[.int .i64 4, .int .i64 0, .string ⟨#[]⟩, .slice none 0 0] 24)) := ((Below.refl _ _).alloc (Nat.le_refl _) _).alloc (by simp) _
  have hv0 := alloc_two w (.cells #[.int .i64 0, .int .i64 0, .string ⟨#[]⟩, .slice none 0 0] 24) (.cells #[.int .i64 4, .int .i64 0, .string ⟨#[]⟩, .slice none 0 0] 24)
  have hu0 : ((w.alloc (.cells #[.int .i64 0, .int .i64 0, .string ⟨#[]⟩, .slice none 0 0] 24)).alloc (.cells #[.int .i64 4, .int .i64 0, .string ⟨#[]⟩, .slice none 0 0] 24)).heap[w.heap.size]? = some (.cells #[.int .i64 0, .int .i64 0, .string ⟨#[]⟩, .slice none 0 0] 24) := (Below.heap_alloc _ _ _ (by simp)).trans (alloc_new _ _)
  have hz0 : ((w.alloc (.cells #[.int .i64 0, .int .i64 0, .string ⟨#[]⟩, .slice none 0 0] 24)).alloc (.cells #[.int .i64 4, .int .i64 0, .string ⟨#[]⟩, .slice none 0 0] 24)).heap.size = w.heap.size + 2 := by simp
  have HV0 := toHid hv0
  have HU0 := toHid hu0
  have HZ0 := toHid hz0
  clear hv0 hu0 hz0
  go_enter Tryd.func34, Tryd.ntmps34
  go_wp2_with fail
  refine (cT.out _ (Moved.of_below h hb1).here).mono ?_
  generalize ((w.alloc (.cells #[.int .i64 0, .int .i64 0, .string ⟨#[]⟩, .slice none 0 0] 24)).alloc (.cells #[.int .i64 4, .int .i64 0, .string ⟨#[]⟩, .slice none 0 0] 24)) = W0 at hb1 HV0 HU0 HZ0 ⊢
  rintro e w1 ⟨rfl, m1⟩
  have hz := HZ0.out
  have hs1 := m1.size
  have hv1 := (m1.block (w.heap.size + 1) (by omega) (by omega)).trans HV0.out
  have hu1 := (m1.block w.heap.size (by omega) (by omega)).trans HU0.out
  have q0 := cell_of hv1 0
  have q1 := cell_of hv1 1
  have q2 := cell_of hv1 2
  have q3 := cell_of hv1 3
  have x0 := cell_of hu1 0
  have x1 := cell_of hu1 1
  have x2 := cell_of hu1 2
  have x3 := cell_of hu1 3
  have y0 := free_of hu1 0
  have y1 := free_of hu1 1
  have y2 := free_of hu1 2
  have y3 := free_of hu1 3
  simp at x0 x1 x2 x3 q0 q1 q2 q3
  have HX := toHid hu1
  clear hu1 hv1
  go_wp2_with fail
  have zz := put4_here HX.out (.int .i64 4) (.int .i64 0) (.string ⟨#[]⟩) (.slice none 0 0)
  have zb := put4_below w1 w.heap.size (.int .i64 4) (.int .i64 0) (.string ⟨#[]⟩) (.slice none 0 0)
  have t0 := cell_of zz 0
  have t1 := cell_of zz 1
  have t2 := cell_of zz 2
  have t3 := cell_of zz 3
  have eP : (((w1.setCell ⟨w.heap.size, 0, none⟩ (.int .i64 4)).setCell ⟨w.heap.size, 1, none⟩ (.int .i64 0)).setCell ⟨w.heap.size, 2, none⟩ (.string ⟨#[]⟩)).setCell ⟨w.heap.size, 3, none⟩ (.slice none 0 0) = put4 w1 w.heap.size (.int .i64 4) (.int .i64 0) (.string ⟨#[]⟩) (.slice none 0 0) := rfl
  rw [eP]
  clear eP
  generalize put4 w1 w.heap.size (.int .i64 4) (.int .i64 0) (.string ⟨#[]⟩) (.slice none 0 0) = W9 at zz zb t0 t1 t2 t3 ⊢
  simp at t0 t1 t2 t3
  have hmv : Moved r text (p + 1) w W9 := by
    refine ⟨zb.os.trans (m1.os.trans hb1.os), zb.tape.trans (m1.tape.trans hb1.tape), zb.output.trans (m1.output.trans hb1.output), by have := zb.size; omega, fun k hk hne => (zb.block k hk).trans ((m1.block k (by omega) hne).trans (hb1.block k hk)), ?_⟩
    have := m1.here
    unfold Rd at this ⊢
    rw [zb.block r hr]
    exact this
  exact bodyPost_ret (v := .agg #[.int .i64 4, .int .i64 0, .string ⟨#[]⟩, .slice none 0 0]) (by simp [results, Tryd.results34, go_sem, t0, t1, t2, t3]) rfl ⟨none, 0, 0, rfl, Nat.le_refl _, by unfold LieA; rfl, hmv⟩

set_option maxHeartbeats 1000000 in
theorem letter_back (r p : Nat) (text : ByteArray) (w : World) (h : Rd r text p w) (hp : p ≤ text.size) (ht : text.size ≤ 4000) (h1 : begins text p ⟨#[92, 39]⟩ = false) (h2 : begins text p ⟨#[92, 92]⟩ = true) :
    Calls Tryd.prog 57 #[.pointer (some ⟨r, 0, none⟩)] w fun e w' => e = .returned (.string ⟨#[92]⟩) ∧ Moved r text (p + 2) w w' := by
  have c1 := toHid (take_any r p text ⟨#[92, 39]⟩ w h hp ht (by decide) false h1)
  have c2 : Hid (∀ W, Rd r text p W → _) := fun W hW => take_any r p text ⟨#[92, 92]⟩ W hW hp ht (by decide) true h2
  clear h1 h2
  go_enter Tryd.func57, Tryd.ntmps57
  go_wp2_with fail
  refine c1.out.mono ?_
  rintro e w1 ⟨rfl, m1⟩
  go_wp2_with fail
  refine (c2.out _ m1.here).mono ?_
  rintro e w2 ⟨rfl, m2⟩
  have m3 := m1.trans m2
  go_wp2_with fail
  go_ret
  exact ⟨rfl, m3⟩

set_option maxHeartbeats 1000000 in
theorem letter_feed (r p : Nat) (text : ByteArray) (w : World) (h : Rd r text p w) (hp : p ≤ text.size) (ht : text.size ≤ 4000) (h1 : begins text p ⟨#[92, 39]⟩ = false) (h2 : begins text p ⟨#[92, 92]⟩ = false) (h3 : begins text p ⟨#[92, 110]⟩ = true) :
    Calls Tryd.prog 57 #[.pointer (some ⟨r, 0, none⟩)] w fun e w' => e = .returned (.string ⟨#[10]⟩) ∧ Moved r text (p + 2) w w' := by
  have c1 := toHid (take_any r p text ⟨#[92, 39]⟩ w h hp ht (by decide) false h1)
  have c2 : Hid (∀ W, Rd r text p W → _) := fun W hW => take_any r p text ⟨#[92, 92]⟩ W hW hp ht (by decide) false h2
  have c3 : Hid (∀ W, Rd r text p W → _) := fun W hW => take_any r p text ⟨#[92, 110]⟩ W hW hp ht (by decide) true h3
  clear h1 h2 h3
  go_enter Tryd.func57, Tryd.ntmps57
  go_wp2_with fail
  refine c1.out.mono ?_
  rintro e w1 ⟨rfl, m1⟩
  go_wp2_with fail
  refine (c2.out _ m1.here).mono ?_
  rintro e w2 ⟨rfl, m2⟩
  go_wp2_with fail
  refine (c3.out _ m2.here).mono ?_
  rintro e w3 ⟨rfl, m3⟩
  have m4 := (m1.trans m2).trans m3
  go_wp2_with fail
  go_ret
  exact ⟨rfl, m4⟩
end Go.Proofs.YtdbodcfodlbgnaaDoor
