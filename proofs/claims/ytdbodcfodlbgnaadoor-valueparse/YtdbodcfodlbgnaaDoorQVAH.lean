/-
  What is proved here: what the texts XValued1, XParsed prove, in one text.
-/
import Derived.Test.YtdbodcfodlbgnaaDoorQVAC
import Derived.Test.YtdbodcfodlbgnaaDoorRows
import Derived.WalkKit
import Derived.ProofKit
import Derived.Below
import Derived.Deep.LoopGhost
import Derived.Deep.Draws
import Derived.WalkLawsBesides
import Derived.Deep.QuietTactic
import Derived.BigQuiet
import Derived.Shelf.Unicode.DecodeSlow
import Derived.Deep.RegionWith
import Derived.Lib.FrozenHead
import Derived.Deep.RegionHeld3
import Derived.Deep.AppendLies
import Derived.Defers
import Derived.Recover
namespace Go.Proofs.YtdbodcfodlbgnaaDoor
open Go.RowKit
set_option linter.unusedVariables false

set_option maxHeartbeats 2000000 in
set_option maxRecDepth 100000 in
theorem value_null (B r p : Nat) (text : ByteArray) (lists : Int) (w : World) (h : Rd r text p w) (hp : p ≤ text.size) (ht : text.size ≤ 4000) (hB : B ≤ r) (hT : Tabs B w) (hP : Pow10 B w)  (bnull : begins text p ⟨#[110, 117, 108, 108]⟩ = true)  :
    Calls Tryd.prog 19 #[.pointer (some ⟨r, 0, none⟩), .int .i64 lists] w fun e w' => e = .returned (.agg #[.int .i64 0, .int .i64 0, .string ⟨#[]⟩, .slice none 0 0]) ∧ Moved r text (p + 4) w w' := by
  have hr := h.lt
  have c0 := h.place
  have cnull : Hid (∀ W, Rd r text p W → Calls Tryd.prog 31 #[.pointer (some ⟨r, 0, none⟩), .string ⟨#[110, 117, 108, 108]⟩] W fun e w' => e = .returned (.bool true) ∧ Moved r text (p + 4) W w') := fun W hW => take_any r p text ⟨#[110, 117, 108, 108]⟩ W hW hp ht (by decide) true bnull
  clear bnull
  have hb0 : Below w.heap.size w (w.alloc (.cells #[.int .i64 0, .int .i64 0, .string ⟨#[]⟩, .slice none 0 0] 24)) := (Below.refl _ _).alloc (Nat.le_refl _) _
  have K0 : Moved r text p (w.alloc (.cells #[.int .i64 0, .int .i64 0, .string ⟨#[]⟩, .slice none 0 0] 24)) (w.alloc (.cells #[.int .i64 0, .int .i64 0, .string ⟨#[]⟩, .slice none 0 0] 24)) := Moved.refl (Moved.of_below h hb0).here
  go_enter Tryd.func19, Tryd.ntmps19
  go_wp2_with fail
  refine (cnull.out _ K0.here).mono ?_
  rintro e ut ⟨rfl, kt⟩
  have KT := K0.trans kt
  have hm : MovedTo (w.heap.size + 1) r text (p + 4) (w.alloc (.cells #[.int .i64 0, .int .i64 0, .string ⟨#[]⟩, .slice none 0 0] 24)) ut := ⟨KT.os, KT.tape, KT.output, KT.size, fun k hk hn => KT.block k (by simpa using hk) hn, KT.here⟩
  have hbox : ut.heap[w.heap.size]? = some (.cells #[.int .i64 0, .int .i64 0, .string ⟨#[]⟩, .slice none 0 0] 24 (0, 0)) := by
    rw [hm.block _ (by omega) (by omega)]
    exact alloc_new _ _
  have x0 := cell_of hbox 0
  have x1 := cell_of hbox 1
  have x2 := cell_of hbox 2
  have x3 := cell_of hbox 3
  have y0 := free_of hbox 0
  have y1 := free_of hbox 1
  have y2 := free_of hbox 2
  have y3 := free_of hbox 3
  simp at x0 x1 x2 x3
  have HX := toHid hbox
  clear hbox
  go_wp2_with fail
  have z := put4_here HX.out (.int .i64 0) (.int .i64 0) (.string ⟨#[]⟩) (.slice none 0 0)
  have zb := put4_below ut w.heap.size (.int .i64 0) (.int .i64 0) (.string ⟨#[]⟩) (.slice none 0 0)
  have z0 := cell_of z 0
  have z1 := cell_of z 1
  have z2 := cell_of z 2
  have z3 := cell_of z 3
  have eP : (((ut.setCell ⟨w.heap.size, 0, none⟩ (.int .i64 0)).setCell ⟨w.heap.size, 1, none⟩ (.int .i64 0)).setCell ⟨w.heap.size, 2, none⟩ (.string ⟨#[]⟩)).setCell ⟨w.heap.size, 3, none⟩ (.slice none 0 0) = put4 ut w.heap.size (.int .i64 0) (.int .i64 0) (.string ⟨#[]⟩) (.slice none 0 0) := rfl
  rw [eP]
  clear eP
  generalize put4 ut w.heap.size (.int .i64 0) (.int .i64 0) (.string ⟨#[]⟩) (.slice none 0 0) = W9 at z zb z0 z1 z2 z3 ⊢
  simp at z0 z1 z2 z3
  exact bodyPost_ret (v := .agg #[.int .i64 0, .int .i64 0, .string ⟨#[]⟩, .slice none 0 0]) (by simp [results, Tryd.results19, go_sem, z0, z1, z2, z3]) rfl ⟨rfl, hm.close zb (by omega)⟩

set_option maxHeartbeats 2000000 in
set_option maxRecDepth 100000 in
theorem value_text (B r p : Nat) (text : ByteArray) (lists : Int) (w : World) (h : Rd r text p w) (hp : p ≤ text.size) (ht : text.size ≤ 4000) (hB : B ≤ r) (hT : Tabs B w) (hP : Pow10 B w) (bnull : begins text p ⟨#[110, 117, 108, 108]⟩ = false) (btrue : begins text p ⟨#[116, 114, 117, 101]⟩ = false) (bfalse : begins text p ⟨#[102, 97, 108, 115, 101]⟩ = false) (bquote : begins text p ⟨#[39]⟩ = true) (q : Nat) (l : List (ByteArray × Nat)) (hl : Letters text (p + 1) l q) (hll : ∀ d, d <+: l → (joined d).length ≤ 100000000) :
    Calls Tryd.prog 19 #[.pointer (some ⟨r, 0, none⟩), .int .i64 lists] w fun e w' => e = .returned (.agg #[.int .i64 3, .int .i64 0, .string ⟨(joined l).toArray⟩, .slice none 0 0]) ∧ Moved r text (q) w w' := by
  have hr := h.lt
  have c0 := h.place
  have cnull : Hid (∀ W, Rd r text p W → Calls Tryd.prog 31 #[.pointer (some ⟨r, 0, none⟩), .string ⟨#[110, 117, 108, 108]⟩] W fun e w' => e = .returned (.bool false) ∧ Moved r text (p) W w') := fun W hW => take_any r p text ⟨#[110, 117, 108, 108]⟩ W hW hp ht (by decide) false bnull
  have ctrue : Hid (∀ W, Rd r text p W → Calls Tryd.prog 31 #[.pointer (some ⟨r, 0, none⟩), .string ⟨#[116, 114, 117, 101]⟩] W fun e w' => e = .returned (.bool false) ∧ Moved r text (p) W w') := fun W hW => take_any r p text ⟨#[116, 114, 117, 101]⟩ W hW hp ht (by decide) false btrue
  have cfalse : Hid (∀ W, Rd r text p W → Calls Tryd.prog 31 #[.pointer (some ⟨r, 0, none⟩), .string ⟨#[102, 97, 108, 115, 101]⟩] W fun e w' => e = .returned (.bool false) ∧ Moved r text (p) W w') := fun W hW => take_any r p text ⟨#[102, 97, 108, 115, 101]⟩ W hW hp ht (by decide) false bfalse
  have cquote : Hid (∀ W, Rd r text p W → Calls Tryd.prog 31 #[.pointer (some ⟨r, 0, none⟩), .string ⟨#[39]⟩] W fun e w' => e = .returned (.bool true) ∧ Moved r text (p + 1) W w') := fun W hW => take_any r p text ⟨#[39]⟩ W hW hp ht (by decide) true bquote
  clear bnull btrue bfalse bquote
  have hb0 : Below w.heap.size w (w.alloc (.cells #[.int .i64 0, .int .i64 0, .string ⟨#[]⟩, .slice none 0 0] 24)) := (Below.refl _ _).alloc (Nat.le_refl _) _
  have K0 : Moved r text p (w.alloc (.cells #[.int .i64 0, .int .i64 0, .string ⟨#[]⟩, .slice none 0 0] 24)) (w.alloc (.cells #[.int .i64 0, .int .i64 0, .string ⟨#[]⟩, .slice none 0 0] 24)) := Moved.refl (Moved.of_below h hb0).here
  have HL := toHid hl
  clear hl
  go_enter Tryd.func19, Tryd.ntmps19
  go_wp2_with fail
  refine (cnull.out _ K0.here).mono ?_
  rintro e u1 ⟨rfl, k1⟩
  have K1 := K0.trans k1
  go_wp2_with fail
  refine (ctrue.out _ K1.here).mono ?_
  rintro e u2 ⟨rfl, k2⟩
  have K2 := K1.trans k2
  go_wp2_with fail
  refine (cfalse.out _ K2.here).mono ?_
  rintro e u3 ⟨rfl, k3⟩
  have K3 := K2.trans k3
  go_wp2_with fail
  refine (cquote.out _ K3.here).mono ?_
  rintro e ut ⟨rfl, kt⟩
  have KT := K3.trans kt
  have hbt : Below B w ut := (hb0.mono (by omega)).trans ⟨KT.os, KT.tape, KT.output, KT.size, fun k hk => KT.block k (by simp; omega) (by omega)⟩
  have hT' : Tabs B ut := hT.below hbt
  have hP' : Pow10 B ut := hP.below hbt
  go_wp2_with fail
  refine (quoted_any B r (p + 1) q text l _ KT.here ht hB hT' HL.out hll).mono ?_
  rintro e uc ⟨rfl, kc⟩
  have KC := KT.trans kc
  have hm : MovedTo (w.heap.size + 1) r text q (w.alloc (.cells #[.int .i64 0, .int .i64 0, .string ⟨#[]⟩, .slice none 0 0] 24)) uc := ⟨KC.os, KC.tape, KC.output, KC.size, fun k hk hn => KC.block k (by simpa using hk) hn, KC.here⟩
  have hbox : uc.heap[w.heap.size]? = some (.cells #[.int .i64 0, .int .i64 0, .string ⟨#[]⟩, .slice none 0 0] 24 (0, 0)) := by
    rw [hm.block _ (by omega) (by omega)]
    exact alloc_new _ _
  have x0 := cell_of hbox 0
  have x1 := cell_of hbox 1
  have x2 := cell_of hbox 2
  have x3 := cell_of hbox 3
  have y0 := free_of hbox 0
  have y1 := free_of hbox 1
  have y2 := free_of hbox 2
  have y3 := free_of hbox 3
  simp at x0 x1 x2 x3
  have HX := toHid hbox
  clear hbox
  go_wp2_with fail
  have z := put4_here HX.out (.int .i64 3) (.int .i64 0) (.string ⟨(joined l).toArray⟩) (.slice none 0 0)
  have zb := put4_below uc w.heap.size (.int .i64 3) (.int .i64 0) (.string ⟨(joined l).toArray⟩) (.slice none 0 0)
  have z0 := cell_of z 0
  have z1 := cell_of z 1
  have z2 := cell_of z 2
  have z3 := cell_of z 3
  have eP : (((uc.setCell ⟨w.heap.size, 0, none⟩ (.int .i64 3)).setCell ⟨w.heap.size, 1, none⟩ (.int .i64 0)).setCell ⟨w.heap.size, 2, none⟩ (.string ⟨(joined l).toArray⟩)).setCell ⟨w.heap.size, 3, none⟩ (.slice none 0 0) = put4 uc w.heap.size (.int .i64 3) (.int .i64 0) (.string ⟨(joined l).toArray⟩) (.slice none 0 0) := rfl
  rw [eP]
  clear eP
  generalize put4 uc w.heap.size (.int .i64 3) (.int .i64 0) (.string ⟨(joined l).toArray⟩) (.slice none 0 0) = W9 at z zb z0 z1 z2 z3 ⊢
  simp at z0 z1 z2 z3
  exact bodyPost_ret (v := .agg #[.int .i64 3, .int .i64 0, .string ⟨(joined l).toArray⟩, .slice none 0 0]) (by simp [results, Tryd.results19, go_sem, z0, z1, z2, z3]) rfl ⟨rfl, hm.close zb (by omega)⟩

set_option maxHeartbeats 2000000 in
set_option maxRecDepth 100000 in
theorem value_num (B r p : Nat) (text : ByteArray) (lists : Int) (w : World) (h : Rd r text p w) (hp : p ≤ text.size) (ht : text.size ≤ 4000) (hB : B ≤ r) (hT : Tabs B w) (hP : Pow10 B w) (bnull : begins text p ⟨#[110, 117, 108, 108]⟩ = false) (btrue : begins text p ⟨#[116, 114, 117, 101]⟩ = false) (bfalse : begins text p ⟨#[102, 97, 108, 115, 101]⟩ = false) (bquote : begins text p ⟨#[39]⟩ = false) (bopen : begins text p ⟨#[91]⟩ = false) (q : Nat) (n : Int) (hn : ∀ (B r : Nat) (w : World), Rd r text p w → B ≤ r → Pow10 B w → Calls Tryd.prog 35 #[.pointer (some ⟨r, 0, none⟩)] w fun e w' => e = .returned (.agg #[.int .i64 2, .int .i64 n, .string ⟨#[]⟩, .slice none 0 0]) ∧ Moved r text q w w') :
    Calls Tryd.prog 19 #[.pointer (some ⟨r, 0, none⟩), .int .i64 lists] w fun e w' => e = .returned (.agg #[.int .i64 2, .int .i64 n, .string ⟨#[]⟩, .slice none 0 0]) ∧ Moved r text (q) w w' := by
  have hr := h.lt
  have c0 := h.place
  have cnull : Hid (∀ W, Rd r text p W → Calls Tryd.prog 31 #[.pointer (some ⟨r, 0, none⟩), .string ⟨#[110, 117, 108, 108]⟩] W fun e w' => e = .returned (.bool false) ∧ Moved r text (p) W w') := fun W hW => take_any r p text ⟨#[110, 117, 108, 108]⟩ W hW hp ht (by decide) false bnull
  have ctrue : Hid (∀ W, Rd r text p W → Calls Tryd.prog 31 #[.pointer (some ⟨r, 0, none⟩), .string ⟨#[116, 114, 117, 101]⟩] W fun e w' => e = .returned (.bool false) ∧ Moved r text (p) W w') := fun W hW => take_any r p text ⟨#[116, 114, 117, 101]⟩ W hW hp ht (by decide) false btrue
  have cfalse : Hid (∀ W, Rd r text p W → Calls Tryd.prog 31 #[.pointer (some ⟨r, 0, none⟩), .string ⟨#[102, 97, 108, 115, 101]⟩] W fun e w' => e = .returned (.bool false) ∧ Moved r text (p) W w') := fun W hW => take_any r p text ⟨#[102, 97, 108, 115, 101]⟩ W hW hp ht (by decide) false bfalse
  have cquote : Hid (∀ W, Rd r text p W → Calls Tryd.prog 31 #[.pointer (some ⟨r, 0, none⟩), .string ⟨#[39]⟩] W fun e w' => e = .returned (.bool false) ∧ Moved r text (p) W w') := fun W hW => take_any r p text ⟨#[39]⟩ W hW hp ht (by decide) false bquote
  have copen : Hid (∀ W, Rd r text p W → Calls Tryd.prog 31 #[.pointer (some ⟨r, 0, none⟩), .string ⟨#[91]⟩] W fun e w' => e = .returned (.bool false) ∧ Moved r text (p) W w') := fun W hW => take_any r p text ⟨#[91]⟩ W hW hp ht (by decide) false bopen
  clear bnull btrue bfalse bquote bopen
  have hb0 : Below w.heap.size w (w.alloc (.cells #[.int .i64 0, .int .i64 0, .string ⟨#[]⟩, .slice none 0 0] 24)) := (Below.refl _ _).alloc (Nat.le_refl _) _
  have K0 : Moved r text p (w.alloc (.cells #[.int .i64 0, .int .i64 0, .string ⟨#[]⟩, .slice none 0 0] 24)) (w.alloc (.cells #[.int .i64 0, .int .i64 0, .string ⟨#[]⟩, .slice none 0 0] 24)) := Moved.refl (Moved.of_below h hb0).here
  have HN := toHid hn
  clear hn
  go_enter Tryd.func19, Tryd.ntmps19
  go_wp2_with fail
  refine (cnull.out _ K0.here).mono ?_
  rintro e u1 ⟨rfl, k1⟩
  have K1 := K0.trans k1
  go_wp2_with fail
  refine (ctrue.out _ K1.here).mono ?_
  rintro e u2 ⟨rfl, k2⟩
  have K2 := K1.trans k2
  go_wp2_with fail
  refine (cfalse.out _ K2.here).mono ?_
  rintro e u3 ⟨rfl, k3⟩
  have K3 := K2.trans k3
  go_wp2_with fail
  refine (cquote.out _ K3.here).mono ?_
  rintro e u4 ⟨rfl, k4⟩
  have K4 := K3.trans k4
  go_wp2_with fail
  refine (copen.out _ K4.here).mono ?_
  rintro e u5 ⟨rfl, k5⟩
  have K5 := K4.trans k5
  go_wp2_with fail
  have hbt : Below B w u5 := (hb0.mono (by omega)).trans ⟨K5.os, K5.tape, K5.output, K5.size, fun k hk => K5.block k (by simp; omega) (by omega)⟩
  have hT' : Tabs B u5 := hT.below hbt
  have hP' : Pow10 B u5 := hP.below hbt
  refine (HN.out B r _ K5.here hB hP').mono ?_
  rintro e uc ⟨rfl, kc⟩
  have KC := K5.trans kc
  have hm : MovedTo (w.heap.size + 1) r text q (w.alloc (.cells #[.int .i64 0, .int .i64 0, .string ⟨#[]⟩, .slice none 0 0] 24)) uc := ⟨KC.os, KC.tape, KC.output, KC.size, fun k hk hn => KC.block k (by simpa using hk) hn, KC.here⟩
  have hbox : uc.heap[w.heap.size]? = some (.cells #[.int .i64 0, .int .i64 0, .string ⟨#[]⟩, .slice none 0 0] 24 (0, 0)) := by
    rw [hm.block _ (by omega) (by omega)]
    exact alloc_new _ _
  have x0 := cell_of hbox 0
  have x1 := cell_of hbox 1
  have x2 := cell_of hbox 2
  have x3 := cell_of hbox 3
  have y0 := free_of hbox 0
  have y1 := free_of hbox 1
  have y2 := free_of hbox 2
  have y3 := free_of hbox 3
  simp at x0 x1 x2 x3
  have HX := toHid hbox
  clear hbox
  go_wp2_with fail
  have z := put4_here HX.out (.int .i64 2) (.int .i64 n) (.string ⟨#[]⟩) (.slice none 0 0)
  have zb := put4_below uc w.heap.size (.int .i64 2) (.int .i64 n) (.string ⟨#[]⟩) (.slice none 0 0)
  have z0 := cell_of z 0
  have z1 := cell_of z 1
  have z2 := cell_of z 2
  have z3 := cell_of z 3
  have eP : (((uc.setCell ⟨w.heap.size, 0, none⟩ (.int .i64 2)).setCell ⟨w.heap.size, 1, none⟩ (.int .i64 n)).setCell ⟨w.heap.size, 2, none⟩ (.string ⟨#[]⟩)).setCell ⟨w.heap.size, 3, none⟩ (.slice none 0 0) = put4 uc w.heap.size (.int .i64 2) (.int .i64 n) (.string ⟨#[]⟩) (.slice none 0 0) := rfl
  rw [eP]
  clear eP
  generalize put4 uc w.heap.size (.int .i64 2) (.int .i64 n) (.string ⟨#[]⟩) (.slice none 0 0) = W9 at z zb z0 z1 z2 z3 ⊢
  simp at z0 z1 z2 z3
  exact bodyPost_ret (v := .agg #[.int .i64 2, .int .i64 n, .string ⟨#[]⟩, .slice none 0 0]) (by simp [results, Tryd.results19, go_sem, z0, z1, z2, z3]) rfl ⟨rfl, hm.close zb (by omega)⟩

set_option maxHeartbeats 2000000 in
set_option maxRecDepth 100000 in
theorem value_list (B r p : Nat) (text : ByteArray) (lists : Int) (w : World) (h : Rd r text p w) (hp : p ≤ text.size) (ht : text.size ≤ 4000) (hB : B ≤ r) (hT : Tabs B w) (hP : Pow10 B w) (bnull : begins text p ⟨#[110, 117, 108, 108]⟩ = false) (btrue : begins text p ⟨#[116, 114, 117, 101]⟩ = false) (bfalse : begins text p ⟨#[102, 97, 108, 115, 101]⟩ = false) (bquote : begins text p ⟨#[39]⟩ = false) (bopen : begins text p ⟨#[91]⟩ = true) (q : Nat) (l : List Item) (hlt : lists < 40) (hl0 : 0 ≤ lists) (hp1 : p + 1 ≤ text.size) (hl : Items text (lists + 1) (p + 1) l q) (hll : l.length ≤ 4000) (hf : begins text (p + 1) ⟨#[93]⟩ = false) :
    Calls Tryd.prog 19 #[.pointer (some ⟨r, 0, none⟩), .int .i64 lists] w fun e w' => ∃ g cap, e = .returned (.agg #[.int .i64 4, .int .i64 0, .string ⟨#[]⟩, .slice (some ⟨g, 0, none⟩) l.length cap]) ∧ w'.ownsRow (w.heap.size + 1) 24 4 (.slice (some ⟨g, 0, none⟩) l.length cap) l.length (rowOf l) ∧ Moved r text q w w' := by
  have hr := h.lt
  have c0 := h.place
  have cnull : Hid (∀ W, Rd r text p W → Calls Tryd.prog 31 #[.pointer (some ⟨r, 0, none⟩), .string ⟨#[110, 117, 108, 108]⟩] W fun e w' => e = .returned (.bool false) ∧ Moved r text (p) W w') := fun W hW => take_any r p text ⟨#[110, 117, 108, 108]⟩ W hW hp ht (by decide) false bnull
  have ctrue : Hid (∀ W, Rd r text p W → Calls Tryd.prog 31 #[.pointer (some ⟨r, 0, none⟩), .string ⟨#[116, 114, 117, 101]⟩] W fun e w' => e = .returned (.bool false) ∧ Moved r text (p) W w') := fun W hW => take_any r p text ⟨#[116, 114, 117, 101]⟩ W hW hp ht (by decide) false btrue
  have cfalse : Hid (∀ W, Rd r text p W → Calls Tryd.prog 31 #[.pointer (some ⟨r, 0, none⟩), .string ⟨#[102, 97, 108, 115, 101]⟩] W fun e w' => e = .returned (.bool false) ∧ Moved r text (p) W w') := fun W hW => take_any r p text ⟨#[102, 97, 108, 115, 101]⟩ W hW hp ht (by decide) false bfalse
  have cquote : Hid (∀ W, Rd r text p W → Calls Tryd.prog 31 #[.pointer (some ⟨r, 0, none⟩), .string ⟨#[39]⟩] W fun e w' => e = .returned (.bool false) ∧ Moved r text (p) W w') := fun W hW => take_any r p text ⟨#[39]⟩ W hW hp ht (by decide) false bquote
  have copen : Hid (∀ W, Rd r text p W → Calls Tryd.prog 31 #[.pointer (some ⟨r, 0, none⟩), .string ⟨#[91]⟩] W fun e w' => e = .returned (.bool true) ∧ Moved r text (p + 1) W w') := fun W hW => take_any r p text ⟨#[91]⟩ W hW hp ht (by decide) true bopen
  clear bnull btrue bfalse bquote bopen
  have hb0 : Below w.heap.size w (w.alloc (.cells #[.int .i64 0, .int .i64 0, .string ⟨#[]⟩, .slice none 0 0] 24)) := (Below.refl _ _).alloc (Nat.le_refl _) _
  have K0 : Moved r text p (w.alloc (.cells #[.int .i64 0, .int .i64 0, .string ⟨#[]⟩, .slice none 0 0] 24)) (w.alloc (.cells #[.int .i64 0, .int .i64 0, .string ⟨#[]⟩, .slice none 0 0] 24)) := Moved.refl (Moved.of_below h hb0).here
  have HL := toHid hl
  have HF := toHid hf
  clear hl hf
  go_enter Tryd.func19, Tryd.ntmps19
  go_wp2_with fail
  refine (cnull.out _ K0.here).mono ?_
  rintro e u1 ⟨rfl, k1⟩
  have K1 := K0.trans k1
  go_wp2_with fail
  refine (ctrue.out _ K1.here).mono ?_
  rintro e u2 ⟨rfl, k2⟩
  have K2 := K1.trans k2
  go_wp2_with fail
  refine (cfalse.out _ K2.here).mono ?_
  rintro e u3 ⟨rfl, k3⟩
  have K3 := K2.trans k3
  go_wp2_with fail
  refine (cquote.out _ K3.here).mono ?_
  rintro e u4 ⟨rfl, k4⟩
  have K4 := K3.trans k4
  go_wp2_with fail
  refine (copen.out _ K4.here).mono ?_
  rintro e ut ⟨rfl, kt⟩
  have KT := K4.trans kt
  have hbt : Below B w ut := (hb0.mono (by omega)).trans ⟨KT.os, KT.tape, KT.output, KT.size, fun k hk => KT.block k (by simp; omega) (by omega)⟩
  have hT' : Tabs B ut := hT.below hbt
  have hP' : Pow10 B ut := hP.below hbt
  go_wp2_with fail
  refine (list_items B r (p + 1) q text (lists + 1) l _ KT.here ht hp1 hB hT' hP' HL.out hll HF.out).mono ?_
  rintro e uc ⟨g, cap, rfl, ho, kc⟩
  have KC := KT.trans kc
  have hm : MovedTo (w.heap.size + 1) r text q (w.alloc (.cells #[.int .i64 0, .int .i64 0, .string ⟨#[]⟩, .slice none 0 0] 24)) uc := ⟨KC.os, KC.tape, KC.output, KC.size, fun k hk hn => KC.block k (by simpa using hk) hn, KC.here⟩
  have hbox : uc.heap[w.heap.size]? = some (.cells #[.int .i64 0, .int .i64 0, .string ⟨#[]⟩, .slice none 0 0] 24 (0, 0)) := by
    rw [hm.block _ (by omega) (by omega)]
    exact alloc_new _ _
  have x0 := cell_of hbox 0
  have x1 := cell_of hbox 1
  have x2 := cell_of hbox 2
  have x3 := cell_of hbox 3
  have y0 := free_of hbox 0
  have y1 := free_of hbox 1
  have y2 := free_of hbox 2
  have y3 := free_of hbox 3
  simp at x0 x1 x2 x3
  have HX := toHid hbox
  clear hbox
  go_wp2_with fail
  have z := put4_here HX.out (.int .i64 4) (.int .i64 0) (.string ⟨#[]⟩) (.slice (some ⟨g, 0, none⟩) l.length cap)
  have zb := put4_below uc w.heap.size (.int .i64 4) (.int .i64 0) (.string ⟨#[]⟩) (.slice (some ⟨g, 0, none⟩) l.length cap)
  have z0 := cell_of z 0
  have z1 := cell_of z 1
  have z2 := cell_of z 2
  have z3 := cell_of z 3
  have eP : (((uc.setCell ⟨w.heap.size, 0, none⟩ (.int .i64 4)).setCell ⟨w.heap.size, 1, none⟩ (.int .i64 0)).setCell ⟨w.heap.size, 2, none⟩ (.string ⟨#[]⟩)).setCell ⟨w.heap.size, 3, none⟩ (.slice (some ⟨g, 0, none⟩) l.length cap) = put4 uc w.heap.size (.int .i64 4) (.int .i64 0) (.string ⟨#[]⟩) (.slice (some ⟨g, 0, none⟩) l.length cap) := rfl
  rw [eP]
  clear eP
  have zo : (put4 uc w.heap.size (.int .i64 4) (.int .i64 0) (.string ⟨#[]⟩) (.slice (some ⟨g, 0, none⟩) l.length cap)).ownsRow (w.heap.size + 1) 24 4 (.slice (some ⟨g, 0, none⟩) l.length cap) l.length (rowOf l) := by
    have hsz : w.heap.size + 1 ≤ ut.heap.size := by have := KT.size; simpa using this
    have o0 : uc.ownsRow (w.heap.size + 1) 24 4 (.slice (some ⟨g, 0, none⟩) l.length cap) l.length (rowOf l) := by
      refine ⟨ho.1, ?_⟩
      rcases ho.2 with h0 | ⟨g', cap', cur, e1, e2, e3⟩
      · exact .inl h0
      · exact .inr ⟨g', cap', cur, e1, by omega, e3⟩
    exact ownsRow_setCell_below (ownsRow_setCell_below (ownsRow_setCell_below (ownsRow_setCell_below o0 (a := ⟨w.heap.size, 0, none⟩) (by show w.heap.size < _; omega) (.int .i64 4)) (a := ⟨w.heap.size, 1, none⟩) (by show w.heap.size < _; omega) (.int .i64 0)) (a := ⟨w.heap.size, 2, none⟩) (by show w.heap.size < _; omega) (.string ⟨#[]⟩)) (a := ⟨w.heap.size, 3, none⟩) (by show w.heap.size < _; omega) (.slice (some ⟨g, 0, none⟩) l.length cap)
  generalize put4 uc w.heap.size (.int .i64 4) (.int .i64 0) (.string ⟨#[]⟩) (.slice (some ⟨g, 0, none⟩) l.length cap) = W9 at z zb zo z0 z1 z2 z3 ⊢
  simp at z0 z1 z2 z3
  exact bodyPost_ret (v := .agg #[.int .i64 4, .int .i64 0, .string ⟨#[]⟩, .slice (some ⟨g, 0, none⟩) l.length cap]) (by simp [results, Tryd.results19, go_sem, z0, z1, z2, z3]) rfl ⟨g, cap, rfl, zo, hm.close zb (by omega)⟩

set_option maxHeartbeats 1000000 in
theorem caught_nothing (p0 p1 p2 : Value) (w : World) :
    CallsD Tryd.prog 18 #[p0, p1, p2] .returning w fun e u' w' => e = .returned (.tuple #[]) ∧ u' = .returning ∧ w' = w := by
  refine callsD_of_wpS Tryd.func18 rfl fun c₀ cs hu => ?_
  have hnil : ∀ w, (binOp .eql 20 .nilIface .nilIface).run Tryd.prog w = .ok (.bool true) w := fun w => run_eql_nil_nil w 20 (by kernel_rfl)
  apply wpS_seq
  apply wpS_region
  simp [wpOpsS, go_sem, recoverD, hu, Tryd.ntmps18, Exit.thenS]
  apply wpS_seq
  apply wpS_seq
  apply wpS_region
  simp [wpOpsS, go_sem, Exit.thenS, hnil]
  refine wpS_cond (t := true) (by simp [Act.eval]) ?_
  simp only [if_true]
  refine wpS_of_wp (wp_ret ?_)
  simp only [Exit.thenS]
  cases c₀
  simp_all [bodyPostS, results, Tryd.results18]

/-- The world that readAll makes first. -/
def readWorld (w : World) (text : ByteArray) : World := (((w.alloc (.cells #[.int .i64 0, .int .i64 0, .string ⟨#[]⟩, .slice none 0 0] 24)).alloc (.cells #[.int .i64 0] 3)).alloc (.cells #[.int .i64 0] 25)).alloc (.cells #[.string text, .int .i64 0] 47)

theorem readWorld_facts (w : World) (text : ByteArray) : (readWorld w text).heap.size = w.heap.size + 4 ∧ Below w.heap.size w (readWorld w text) ∧ Rd (w.heap.size + 1 + 1 + 1) text 0 (readWorld w text) ∧
    (readWorld w text).heap[w.heap.size]? = some (.cells #[.int .i64 0, .int .i64 0, .string ⟨#[]⟩, .slice none 0 0] 24 (0, 0)) ∧ (readWorld w text).heap[w.heap.size + 1]? = some (.cells #[.int .i64 0] 3 (0, 0)) ∧ (readWorld w text).heap[w.heap.size + 1 + 1]? = some (.cells #[.int .i64 0] 25 (0, 0)) := by
  have s1 : ∀ o, (w.alloc o).heap.size = w.heap.size + 1 := fun o => by simp
  have s2 : ∀ o p, ((w.alloc o).alloc p).heap.size = w.heap.size + 1 + 1 := fun o p => by simp
  have s3 : ∀ o p q, (((w.alloc o).alloc p).alloc q).heap.size = w.heap.size + 1 + 1 + 1 := fun o p q => by simp
  refine ⟨by simp [readWorld], (((((Below.refl _ _).alloc (Nat.le_refl _) _).alloc (by simp) _).alloc (by simp; omega) _).alloc (by simp; omega) _), ?_, ?_, ?_, ?_⟩
  · unfold Rd readWorld
    rw [← s3 (.cells #[.int .i64 0, .int .i64 0, .string ⟨#[]⟩, .slice none 0 0] 24) (.cells #[.int .i64 0] 3) (.cells #[.int .i64 0] 25)]
    exact alloc_new _ _
  · unfold readWorld
    rw [Below.heap_alloc _ _ _ (by simp; omega), Below.heap_alloc _ _ _ (by simp; omega), Below.heap_alloc _ _ _ (by simp)]
    exact alloc_new _ _
  · unfold readWorld
    rw [Below.heap_alloc _ _ _ (by simp), Below.heap_alloc _ _ _ (by simp)]
    rw [← s1 (.cells #[.int .i64 0, .int .i64 0, .string ⟨#[]⟩, .slice none 0 0] 24)]
    exact alloc_new _ _
  · unfold readWorld
    rw [Below.heap_alloc _ _ _ (by simp)]
    rw [← s2 (.cells #[.int .i64 0, .int .i64 0, .string ⟨#[]⟩, .slice none 0 0] 24) (.cells #[.int .i64 0] 3)]
    exact alloc_new _ _

set_option maxHeartbeats 2000000 in
set_option maxRecDepth 100000 in
theorem readAll_list (B : Nat) (text : ByteArray) (l : List Item) (w : World) (hB : B ≤ w.heap.size) (ht : text.size ≤ 4000) (h1 : 1 ≤ text.size) (hT : Tabs B w) (hP : Pow10 B w)
    (bnull : begins text 0 ⟨#[110, 117, 108, 108]⟩ = false) (btrue : begins text 0 ⟨#[116, 114, 117, 101]⟩ = false) (bfalse : begins text 0 ⟨#[102, 97, 108, 115, 101]⟩ = false) (bquote : begins text 0 ⟨#[39]⟩ = false) (bopen : begins text 0 ⟨#[91]⟩ = true)
    (hl : Items text 1 1 l text.size) (hll : l.length ≤ 4000) (hf : begins text 1 ⟨#[93]⟩ = false) :
    Calls Tryd.prog 9 #[.string text] w fun e w' => ∃ g cap, e = .returned (.tuple #[.agg #[.int .i64 4, .int .i64 0, .string ⟨#[]⟩, .slice (some ⟨g, 0, none⟩) l.length cap], .int .i64 0, .int .i64 0]) ∧ w'.ownsRow w.heap.size 24 4 (.slice (some ⟨g, 0, none⟩) l.length cap) l.length (rowOf l) ∧ Below w.heap.size w w' := by
  have hmf : ∀ (fn : Fn) (first cap : Array Value) (w : World), (Instr.makeFunc fn first cap).run Tryd.prog w = .ok (.func fn first cap) w := fun _ _ _ _ => rfl
  have HC : Hid (∀ (r : Nat) (W : World), Rd r text 0 W → B ≤ r → Tabs B W → Pow10 B W → Calls Tryd.prog 19 #[.pointer (some ⟨r, 0, none⟩), .int .i64 0] W fun e w' => ∃ g cap, e = .returned (.agg #[.int .i64 4, .int .i64 0, .string ⟨#[]⟩, .slice (some ⟨g, 0, none⟩) l.length cap]) ∧ w'.ownsRow (W.heap.size + 1) 24 4 (.slice (some ⟨g, 0, none⟩) l.length cap) l.length (rowOf l) ∧ Moved r text text.size W w') :=
    fun r W hR hBr hTW hPW => value_list B r 0 text 0 W hR (Nat.zero_le _) ht hBr hTW hPW bnull btrue bfalse bquote bopen text.size l (by omega) (by omega) h1 hl hll hf
  clear bnull btrue bfalse bquote bopen hl hf
  go_enter_defers Tryd.func9, Tryd.ntmps9
  go_wp2_with fail
  have eW : (((w.alloc (.cells #[.int .i64 0, .int .i64 0, .string ⟨#[]⟩, .slice none 0 0] 24)).alloc (.cells #[.int .i64 0] 3)).alloc (.cells #[.int .i64 0] 25)).alloc (.cells #[.string text, .int .i64 0] 47) = readWorld w text := rfl
  rw [eW]
  clear eW
  obtain ⟨k0, k1, k2, k3, k4, k5⟩ := readWorld_facts w text
  generalize readWorld w text = W at k0 k1 k2 k3 k4 k5 ⊢
  refine (HC.out _ W k2 (by omega) (hT.below (k1.mono hB)) (hP.below (k1.mono hB))).mono ?_
  rintro e w1 ⟨g, cap, rfl, ho, hm⟩
  have hs1 := hm.size
  have b0 : w1.heap[w.heap.size]? = some (.cells #[.int .i64 0, .int .i64 0, .string ⟨#[]⟩, .slice none 0 0] 24 (0, 0)) := by rw [hm.block _ (by omega) (by omega)]; exact k3
  have b1 : w1.heap[w.heap.size + 1]? = some (.cells #[.int .i64 0] 3 (0, 0)) := by rw [hm.block _ (by omega) (by omega)]; exact k4
  have b2 : w1.heap[w.heap.size + 1 + 1]? = some (.cells #[.int .i64 0] 25 (0, 0)) := by rw [hm.block _ (by omega) (by omega)]; exact k5
  have x0 := cell_of b0 0
  have x1 := cell_of b0 1
  have x2 := cell_of b0 2
  have x3 := cell_of b0 3
  have y0 := free_of b0 0
  have y1 := free_of b0 1
  have y2 := free_of b0 2
  have y3 := free_of b0 3
  have xa := cell_of b1 0
  have ya := free_of b1 0
  have xe := cell_of b2 0
  have ye := free_of b2 0
  have xr := hm.here.place
  simp at x0 x1 x2 x3 xa xe
  have B0 := toHid b0
  have B1 := toHid b1
  have B2 := toHid b2
  clear b0 b1 b2 k2 k3 k4 k5 HC
  go_wp2_with fail
  have q1 := put4_here B0.out (.int .i64 4) (.int .i64 0) (.string ⟨#[]⟩) (.slice (some ⟨g, 0, none⟩) l.length cap)
  have q2 := put4_here q1 (.int .i64 4) (.int .i64 0) (.string ⟨#[]⟩) (.slice (some ⟨g, 0, none⟩) l.length cap)
  have e1 := put4_below w1 w.heap.size (.int .i64 4) (.int .i64 0) (.string ⟨#[]⟩) (.slice (some ⟨g, 0, none⟩) l.length cap)
  have e2 := put4_below (put4 w1 w.heap.size (.int .i64 4) (.int .i64 0) (.string ⟨#[]⟩) (.slice (some ⟨g, 0, none⟩) l.length cap)) w.heap.size (.int .i64 4) (.int .i64 0) (.string ⟨#[]⟩) (.slice (some ⟨g, 0, none⟩) l.length cap)
  have hp1 : (put4 (put4 w1 w.heap.size (.int .i64 4) (.int .i64 0) (.string ⟨#[]⟩) (.slice (some ⟨g, 0, none⟩) l.length cap)) w.heap.size (.int .i64 4) (.int .i64 0) (.string ⟨#[]⟩) (.slice (some ⟨g, 0, none⟩) l.length cap)).heap.size = w1.heap.size := by simp [put4, World.setCell]
  have o2 : ∀ k, k ≠ w.heap.size → (put4 (put4 w1 w.heap.size (.int .i64 4) (.int .i64 0) (.string ⟨#[]⟩) (.slice (some ⟨g, 0, none⟩) l.length cap)) w.heap.size (.int .i64 4) (.int .i64 0) (.string ⟨#[]⟩) (.slice (some ⟨g, 0, none⟩) l.length cap)).heap[k]? = w1.heap[k]? := fun k hk => by
    simp only [put4]
    rw [Below.heap_setCell _ _ _ _ hk, Below.heap_setCell _ _ _ _ hk, Below.heap_setCell _ _ _ _ hk, Below.heap_setCell _ _ _ _ hk, Below.heap_setCell _ _ _ _ hk, Below.heap_setCell _ _ _ _ hk, Below.heap_setCell _ _ _ _ hk, Below.heap_setCell _ _ _ _ hk]
  have e3 := e1.trans e2
  change bodyPostD Tryd.prog Tryd.f9 _ Exit.ret _ (((put4 (put4 w1 w.heap.size (.int .i64 4) (.int .i64 0) (.string ⟨#[]⟩) (.slice (some ⟨g, 0, none⟩) l.length cap)) w.heap.size (.int .i64 4) (.int .i64 0) (.string ⟨#[]⟩) (.slice (some ⟨g, 0, none⟩) l.length cap)).setCell ⟨w.heap.size + 1, 0, none⟩ (.int .i64 0)).setCell ⟨w.heap.size + 1 + 1, 0, none⟩ (.int .i64 0))
  generalize put4 (put4 w1 w.heap.size (.int .i64 4) (.int .i64 0) (.string ⟨#[]⟩) (.slice (some ⟨g, 0, none⟩) l.length cap)) w.heap.size (.int .i64 4) (.int .i64 0) (.string ⟨#[]⟩) (.slice (some ⟨g, 0, none⟩) l.length cap) = V at q2 e3 hp1 o2 ⊢
  clear q1 e1 e2 x0 x1 x2 x3 y0 y1 y2 y3 xa ya xe ye xr
  have r0 : ((V.setCell ⟨w.heap.size + 1, 0, none⟩ (.int .i64 0)).setCell ⟨w.heap.size + 1 + 1, 0, none⟩ (.int .i64 0)).heap[w.heap.size]? = some (.cells #[.int .i64 4, .int .i64 0, .string ⟨#[]⟩, .slice (some ⟨g, 0, none⟩) l.length cap] 24 (0, 0)) := by
    rw [Below.heap_setCell _ _ _ _ (by show w.heap.size ≠ w.heap.size + 1 + 1; omega), Below.heap_setCell _ _ _ _ (by show w.heap.size ≠ w.heap.size + 1; omega)]
    exact q2
  have r1 : ((V.setCell ⟨w.heap.size + 1, 0, none⟩ (.int .i64 0)).setCell ⟨w.heap.size + 1 + 1, 0, none⟩ (.int .i64 0)).heap[w.heap.size + 1]? = some (.cells #[.int .i64 0] 3 (0, 0)) := by
    have hB1 := B1.out
    rw [← o2 _ (by omega)] at hB1
    rw [Below.heap_setCell _ _ _ _ (by show w.heap.size + 1 ≠ w.heap.size + 1 + 1; omega)]
    simp [World.setCell, Array.getElem?_modify, hB1]
  have r2 : ((V.setCell ⟨w.heap.size + 1, 0, none⟩ (.int .i64 0)).setCell ⟨w.heap.size + 1 + 1, 0, none⟩ (.int .i64 0)).heap[w.heap.size + 1 + 1]? = some (.cells #[.int .i64 0] 25 (0, 0)) := by
    have hB2 := B2.out
    rw [← o2 _ (by omega), ← Below.heap_setCell V ⟨w.heap.size + 1, 0, none⟩ (.int .i64 0) _ (by show w.heap.size + 1 + 1 ≠ w.heap.size + 1; omega)] at hB2
    generalize V.setCell ⟨w.heap.size + 1, 0, none⟩ (.int .i64 0) = V1 at hB2 ⊢
    simp [World.setCell, Array.getElem?_modify, hB2]
  have r3 : Below w.heap.size w ((V.setCell ⟨w.heap.size + 1, 0, none⟩ (.int .i64 0)).setCell ⟨w.heap.size + 1 + 1, 0, none⟩ (.int .i64 0)) := by
    have e4 : Below w.heap.size w1 V := e3
    have e5 : Below w.heap.size W w1 := ⟨hm.os, hm.tape, hm.output, hm.size, fun k hk => hm.block k (by omega) (by omega)⟩
    exact (((k1.trans e5).trans e4).setCell (p := ⟨w.heap.size + 1, 0, none⟩) (by show w.heap.size ≤ w.heap.size + 1; omega) _).setCell (p := ⟨w.heap.size + 1 + 1, 0, none⟩) (by show w.heap.size ≤ w.heap.size + 1 + 1; omega) _
  have r4 : ((V.setCell ⟨w.heap.size + 1, 0, none⟩ (.int .i64 0)).setCell ⟨w.heap.size + 1 + 1, 0, none⟩ (.int .i64 0)).ownsRow w.heap.size 24 4 (.slice (some ⟨g, 0, none⟩) l.length cap) l.length (rowOf l) := by
    refine ⟨ho.1, ?_⟩
    rcases ho.2 with h0 | ⟨g', cap', cur, f1, f2, f3, f4⟩
    · exact .inl h0
    · refine .inr ⟨g', cap', cur, f1, by omega, ?_, f4⟩
      rw [Below.heap_setCell _ _ _ _ (by show g' ≠ w.heap.size + 1 + 1; omega), Below.heap_setCell _ _ _ _ (by show g' ≠ w.heap.size + 1; omega), o2 _ (by omega)]
      exact f3
  generalize (V.setCell ⟨w.heap.size + 1, 0, none⟩ (.int .i64 0)).setCell ⟨w.heap.size + 1 + 1, 0, none⟩ (.int .i64 0) = Z at r0 r1 r2 r3 r4 ⊢
  refine leaves_cons (f := 18) (args := #[.pointer (some ⟨w.heap.size, 0, none⟩), .pointer (some ⟨w.heap.size + 1, 0, none⟩), .pointer (some ⟨w.heap.size + 1 + 1, 0, none⟩)]) (by simp) (by simp [go_sem]) ?_
  refine (caught_nothing _ _ _ _).mono ?_
  rintro e u' w'' ⟨rfl, rfl, rfl⟩
  have t0 := cell_of r0 0
  have t1 := cell_of r0 1
  have t2 := cell_of r0 2
  have t3 := cell_of r0 3
  have ta := cell_of r1 0
  have te := cell_of r2 0
  simp at t0 t1 t2 t3 ta te
  refine ⟨_, ?_, g, cap, rfl, r4, r3⟩
  simp [results, Tryd.results9, go_sem, t0, t1, t2, t3, ta, te]
end Go.Proofs.YtdbodcfodlbgnaaDoor
