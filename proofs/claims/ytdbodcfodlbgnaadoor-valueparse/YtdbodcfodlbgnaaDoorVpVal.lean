/-
  What is proved here: the reader's method value gives up where its text, its list or its number does, and where too many brackets are open.
-/
import Derived.Test.YtdbodcfodlbgnaaDoorVpQuo
import Derived.Test.YtdbodcfodlbgnaaDoorVpNum
namespace Go.Proofs.YtdbodcfodlbgnaaDoor
open Go.RowKit
set_option linter.unusedVariables false

/-- At the place p the reader's value gives up, and tells the place a. -/
def ReadBad (text : ByteArray) (p : Nat) (lists : Int) (a : Nat) : Prop :=
  ∀ (B r : Nat) (w : World), Rd r text p w → B ≤ r → Tabs B w → Pow10 B w → ErrV B w → Calls Tryd.prog 19 #[.pointer (some ⟨r, 0, none⟩), .int .i64 lists] w fun e w' => e = .panicked (MIS a) ∧ Lost r w w'

set_option maxHeartbeats 2000000 in
set_option maxRecDepth 100000 in
theorem value_quote_bad (B r p : Nat) (text : ByteArray) (lists : Int) (w : World) (h : Rd r text p w) (hp : p ≤ text.size) (ht : text.size ≤ 4000) (hB : B ≤ r) (hT : Tabs B w) (hP : Pow10 B w) (bnull : begins text p ⟨#[110, 117, 108, 108]⟩ = false) (btrue : begins text p ⟨#[116, 114, 117, 101]⟩ = false) (bfalse : begins text p ⟨#[102, 97, 108, 115, 101]⟩ = false) (bquote : begins text p ⟨#[39]⟩ = true) (hV : ErrV B w) (a : Nat) (hn : ∀ (B r : Nat) (w : World), Rd r text (p + 1) w → B ≤ r → Tabs B w → Calls Tryd.prog 33 #[.pointer (some ⟨r, 0, none⟩)] w fun e w' => e = .panicked (MIS a) ∧ Lost r w w') :
    Calls Tryd.prog 19 #[.pointer (some ⟨r, 0, none⟩), .int .i64 lists] w fun e w' => e = .panicked (MIS a) ∧ Lost r w w' := by
  have hr := h.lt
  have c0 := h.place
  have cnull : Hid (∀ W, Rd r text p W → Calls Tryd.prog 31 #[.pointer (some ⟨r, 0, none⟩), .string ⟨#[110, 117, 108, 108]⟩] W fun e w' => e = .returned (.bool false) ∧ Moved r text (p) W w') := fun W hW => take_any r p text ⟨#[110, 117, 108, 108]⟩ W hW hp ht (by decide) false bnull
  have ctrue : Hid (∀ W, Rd r text p W → Calls Tryd.prog 31 #[.pointer (some ⟨r, 0, none⟩), .string ⟨#[116, 114, 117, 101]⟩] W fun e w' => e = .returned (.bool false) ∧ Moved r text (p) W w') := fun W hW => take_any r p text ⟨#[116, 114, 117, 101]⟩ W hW hp ht (by decide) false btrue
  have cfalse : Hid (∀ W, Rd r text p W → Calls Tryd.prog 31 #[.pointer (some ⟨r, 0, none⟩), .string ⟨#[102, 97, 108, 115, 101]⟩] W fun e w' => e = .returned (.bool false) ∧ Moved r text (p) W w') := fun W hW => take_any r p text ⟨#[102, 97, 108, 115, 101]⟩ W hW hp ht (by decide) false bfalse
  have cquote : Hid (∀ W, Rd r text p W → Calls Tryd.prog 31 #[.pointer (some ⟨r, 0, none⟩), .string ⟨#[39]⟩] W fun e w' => e = .returned (.bool true) ∧ Moved r text (p + 1) W w') := fun W hW => take_any r p text ⟨#[39]⟩ W hW hp ht (by decide) true bquote
  clear bnull btrue bfalse bquote
  have hb0 : Below w.heap.size w (w.alloc (.cells #[.int .i64 0, .int .i64 0, .string ⟨#[]⟩, .slice none 0 0] 24)) := (Below.refl _ _).alloc (Nat.le_refl _) _
  have K0 : Moved r text p (w.alloc (.cells #[.int .i64 0, .int .i64 0, .string ⟨#[]⟩, .slice none 0 0] 24)) (w.alloc (.cells #[.int .i64 0, .int .i64 0, .string ⟨#[]⟩, .slice none 0 0] 24)) := Moved.refl (Moved.of_below h hb0).here
  have HN := toHid hn
  clear hn
  go_enter Tryd.func19, Tryd.ntmps19
  go_wp2_with fail
  refine (cnull.out _ K0.here).mono ?_
  rintro e u1 ⟨rfl, k1⟩
  have K1 := K0.trans k1
  go_wp2_with fail
  refine (ctrue.out _ K1.here).mono ?_
  rintro e u2 ⟨rfl, k2⟩
  have K2 := K1.trans k2
  go_wp2_with fail
  refine (cfalse.out _ K2.here).mono ?_
  rintro e u3 ⟨rfl, k3⟩
  have K3 := K2.trans k3
  go_wp2_with fail
  refine (cquote.out _ K3.here).mono ?_
  rintro e ut ⟨rfl, kt⟩
  have KT := K3.trans kt
  have hbt : Below B w ut := (hb0.mono (by omega)).trans ⟨KT.os, KT.tape, KT.output, KT.size, fun k hk => KT.block k (by simp; omega) (by omega)⟩
  have hT' : Tabs B ut := hT.below hbt
  have hP' : Pow10 B ut := hP.below hbt
  go_wp2_with fail
  have hV' : ErrV B ut := hV.below hbt
  refine (HN.out B r _ KT.here hB hT').mono ?_
  rintro e uc ⟨rfl, kc⟩
  have ML : Lost r w uc := (Lost.of_below hb0).trans (KT.lost.trans kc)
  clear hbt hT' hP' hV'
  go_wp2_with fail
  exact ⟨rfl, rfl, ML⟩

set_option maxHeartbeats 2000000 in
set_option maxRecDepth 100000 in
theorem value_list_bad (B r p : Nat) (text : ByteArray) (lists : Int) (w : World) (h : Rd r text p w) (hp : p ≤ text.size) (ht : text.size ≤ 4000) (hB : B ≤ r) (hT : Tabs B w) (hP : Pow10 B w) (bnull : begins text p ⟨#[110, 117, 108, 108]⟩ = false) (btrue : begins text p ⟨#[116, 114, 117, 101]⟩ = false) (bfalse : begins text p ⟨#[102, 97, 108, 115, 101]⟩ = false) (bquote : begins text p ⟨#[39]⟩ = false) (bopen : begins text p ⟨#[91]⟩ = true) (hV : ErrV B w) (a : Nat) (hlt : lists < 40) (hl0 : 0 ≤ lists) (hn : ∀ (B r : Nat) (w : World), Rd r text (p + 1) w → B ≤ r → Tabs B w → Pow10 B w → ErrV B w → Calls Tryd.prog 34 #[.pointer (some ⟨r, 0, none⟩), .int .i64 (lists + 1)] w fun e w' => e = .panicked (MIS a) ∧ Lost r w w') :
    Calls Tryd.prog 19 #[.pointer (some ⟨r, 0, none⟩), .int .i64 lists] w fun e w' => e = .panicked (MIS a) ∧ Lost r w w' := by
  have hr := h.lt
  have c0 := h.place
  have cnull : Hid (∀ W, Rd r text p W → Calls Tryd.prog 31 #[.pointer (some ⟨r, 0, none⟩), .string ⟨#[110, 117, 108, 108]⟩] W fun e w' => e = .returned (.bool false) ∧ Moved r text (p) W w') := fun W hW => take_any r p text ⟨#[110, 117, 108, 108]⟩ W hW hp ht (by decide) false bnull
  have ctrue : Hid (∀ W, Rd r text p W → Calls Tryd.prog 31 #[.pointer (some ⟨r, 0, none⟩), .string ⟨#[116, 114, 117, 101]⟩] W fun e w' => e = .returned (.bool false) ∧ Moved r text (p) W w') := fun W hW => take_any r p text ⟨#[116, 114, 117, 101]⟩ W hW hp ht (by decide) false btrue
  have cfalse : Hid (∀ W, Rd r text p W → Calls Tryd.prog 31 #[.pointer (some ⟨r, 0, none⟩), .string ⟨#[102, 97, 108, 115, 101]⟩] W fun e w' => e = .returned (.bool false) ∧ Moved r text (p) W w') := fun W hW => take_any r p text ⟨#[102, 97, 108, 115, 101]⟩ W hW hp ht (by decide) false bfalse
  have cquote : Hid (∀ W, Rd r text p W → Calls Tryd.prog 31 #[.pointer (some ⟨r, 0, none⟩), .string ⟨#[39]⟩] W fun e w' => e = .returned (.bool false) ∧ Moved r text (p) W w') := fun W hW => take_any r p text ⟨#[39]⟩ W hW hp ht (by decide) false bquote
  have copen : Hid (∀ W, Rd r text p W → Calls Tryd.prog 31 #[.pointer (some ⟨r, 0, none⟩), .string ⟨#[91]⟩] W fun e w' => e = .returned (.bool true) ∧ Moved r text (p + 1) W w') := fun W hW => take_any r p text ⟨#[91]⟩ W hW hp ht (by decide) true bopen
  clear bnull btrue bfalse bquote bopen
  have hb0 : Below w.heap.size w (w.alloc (.cells #[.int .i64 0, .int .i64 0, .string ⟨#[]⟩, .slice none 0 0] 24)) := (Below.refl _ _).alloc (Nat.le_refl _) _
  have K0 : Moved r text p (w.alloc (.cells #[.int .i64 0, .int .i64 0, .string ⟨#[]⟩, .slice none 0 0] 24)) (w.alloc (.cells #[.int .i64 0, .int .i64 0, .string ⟨#[]⟩, .slice none 0 0] 24)) := Moved.refl (Moved.of_below h hb0).here
  have HN := toHid hn
  clear hn
  go_enter Tryd.func19, Tryd.ntmps19
  go_wp2_with fail
  refine (cnull.out _ K0.here).mono ?_
  rintro e u1 ⟨rfl, k1⟩
  have K1 := K0.trans k1
  go_wp2_with fail
  refine (ctrue.out _ K1.here).mono ?_
  rintro e u2 ⟨rfl, k2⟩
  have K2 := K1.trans k2
  go_wp2_with fail
  refine (cfalse.out _ K2.here).mono ?_
  rintro e u3 ⟨rfl, k3⟩
  have K3 := K2.trans k3
  go_wp2_with fail
  refine (cquote.out _ K3.here).mono ?_
  rintro e u4 ⟨rfl, k4⟩
  have K4 := K3.trans k4
  go_wp2_with fail
  refine (copen.out _ K4.here).mono ?_
  rintro e ut ⟨rfl, kt⟩
  have KT := K4.trans kt
  have hbt : Below B w ut := (hb0.mono (by omega)).trans ⟨KT.os, KT.tape, KT.output, KT.size, fun k hk => KT.block k (by simp; omega) (by omega)⟩
  have hT' : Tabs B ut := hT.below hbt
  have hP' : Pow10 B ut := hP.below hbt
  go_wp2_with fail
  have hV' : ErrV B ut := hV.below hbt
  refine (HN.out B r _ KT.here hB hT' hP' hV').mono ?_
  rintro e uc ⟨rfl, kc⟩
  have ML : Lost r w uc := (Lost.of_below hb0).trans (KT.lost.trans kc)
  clear hbt hT' hP' hV'
  go_wp2_with fail
  exact ⟨rfl, rfl, ML⟩

set_option maxHeartbeats 2000000 in
set_option maxRecDepth 100000 in
theorem value_num_bad (B r p : Nat) (text : ByteArray) (lists : Int) (w : World) (h : Rd r text p w) (hp : p ≤ text.size) (ht : text.size ≤ 4000) (hB : B ≤ r) (hT : Tabs B w) (hP : Pow10 B w) (bnull : begins text p ⟨#[110, 117, 108, 108]⟩ = false) (btrue : begins text p ⟨#[116, 114, 117, 101]⟩ = false) (bfalse : begins text p ⟨#[102, 97, 108, 115, 101]⟩ = false) (bquote : begins text p ⟨#[39]⟩ = false) (bopen : begins text p ⟨#[91]⟩ = false) (hV : ErrV B w) (a : Nat) (hn : ∀ (B r : Nat) (w : World), Rd r text p w → B ≤ r → Pow10 B w → ErrV B w → Calls Tryd.prog 35 #[.pointer (some ⟨r, 0, none⟩)] w fun e w' => e = .panicked (MIS a) ∧ Lost r w w') :
    Calls Tryd.prog 19 #[.pointer (some ⟨r, 0, none⟩), .int .i64 lists] w fun e w' => e = .panicked (MIS a) ∧ Lost r w w' := by
  have hr := h.lt
  have c0 := h.place
  have cnull : Hid (∀ W, Rd r text p W → Calls Tryd.prog 31 #[.pointer (some ⟨r, 0, none⟩), .string ⟨#[110, 117, 108, 108]⟩] W fun e w' => e = .returned (.bool false) ∧ Moved r text (p) W w') := fun W hW => take_any r p text ⟨#[110, 117, 108, 108]⟩ W hW hp ht (by decide) false bnull
  have ctrue : Hid (∀ W, Rd r text p W → Calls Tryd.prog 31 #[.pointer (some ⟨r, 0, none⟩), .string ⟨#[116, 114, 117, 101]⟩] W fun e w' => e = .returned (.bool false) ∧ Moved r text (p) W w') := fun W hW => take_any r p text ⟨#[116, 114, 117, 101]⟩ W hW hp ht (by decide) false btrue
  have cfalse : Hid (∀ W, Rd r text p W → Calls Tryd.prog 31 #[.pointer (some ⟨r, 0, none⟩), .string ⟨#[102, 97, 108, 115, 101]⟩] W fun e w' => e = .returned (.bool false) ∧ Moved r text (p) W w') := fun W hW => take_any r p text ⟨#[102, 97, 108, 115, 101]⟩ W hW hp ht (by decide) false bfalse
  have cquote : Hid (∀ W, Rd r text p W → Calls Tryd.prog 31 #[.pointer (some ⟨r, 0, none⟩), .string ⟨#[39]⟩] W fun e w' => e = .returned (.bool false) ∧ Moved r text (p) W w') := fun W hW => take_any r p text ⟨#[39]⟩ W hW hp ht (by decide) false bquote
  have copen : Hid (∀ W, Rd r text p W → Calls Tryd.prog 31 #[.pointer (some ⟨r, 0, none⟩), .string ⟨#[91]⟩] W fun e w' => e = .returned (.bool false) ∧ Moved r text (p) W w') := fun W hW => take_any r p text ⟨#[91]⟩ W hW hp ht (by decide) false bopen
  clear bnull btrue bfalse bquote bopen
  have hb0 : Below w.heap.size w (w.alloc (.cells #[.int .i64 0, .int .i64 0, .string ⟨#[]⟩, .slice none 0 0] 24)) := (Below.refl _ _).alloc (Nat.le_refl _) _
  have K0 : Moved r text p (w.alloc (.cells #[.int .i64 0, .int .i64 0, .string ⟨#[]⟩, .slice none 0 0] 24)) (w.alloc (.cells #[.int .i64 0, .int .i64 0, .string ⟨#[]⟩, .slice none 0 0] 24)) := Moved.refl (Moved.of_below h hb0).here
  have HN := toHid hn
  clear hn
  go_enter Tryd.func19, Tryd.ntmps19
  go_wp2_with fail
  refine (cnull.out _ K0.here).mono ?_
  rintro e u1 ⟨rfl, k1⟩
  have K1 := K0.trans k1
  go_wp2_with fail
  refine (ctrue.out _ K1.here).mono ?_
  rintro e u2 ⟨rfl, k2⟩
  have K2 := K1.trans k2
  go_wp2_with fail
  refine (cfalse.out _ K2.here).mono ?_
  rintro e u3 ⟨rfl, k3⟩
  have K3 := K2.trans k3
  go_wp2_with fail
  refine (cquote.out _ K3.here).mono ?_
  rintro e u4 ⟨rfl, k4⟩
  have K4 := K3.trans k4
  go_wp2_with fail
  refine (copen.out _ K4.here).mono ?_
  rintro e u5 ⟨rfl, k5⟩
  have K5 := K4.trans k5
  go_wp2_with fail
  have hbt : Below B w u5 := (hb0.mono (by omega)).trans ⟨K5.os, K5.tape, K5.output, K5.size, fun k hk => K5.block k (by simp; omega) (by omega)⟩
  have hT' : Tabs B u5 := hT.below hbt
  have hP' : Pow10 B u5 := hP.below hbt
  have hV' : ErrV B u5 := hV.below hbt
  refine (HN.out B r _ K5.here hB hP' hV').mono ?_
  rintro e uc ⟨rfl, kc⟩
  have ML : Lost r w uc := (Lost.of_below hb0).trans (K5.lost.trans kc)
  clear hbt hT' hP' hV'
  go_wp2_with fail
  exact ⟨rfl, rfl, ML⟩

set_option maxHeartbeats 2000000 in
set_option maxRecDepth 100000 in
theorem value_deep (B r p : Nat) (text : ByteArray) (lists : Int) (w : World) (h : Rd r text p w) (hp : p ≤ text.size) (ht : text.size ≤ 4000) (hB : B ≤ r) (hT : Tabs B w) (hP : Pow10 B w) (bnull : begins text p ⟨#[110, 117, 108, 108]⟩ = false) (btrue : begins text p ⟨#[116, 114, 117, 101]⟩ = false) (bfalse : begins text p ⟨#[102, 97, 108, 115, 101]⟩ = false) (bquote : begins text p ⟨#[39]⟩ = false) (bopen : begins text p ⟨#[91]⟩ = true) (hge : (40 : Int) ≤ lists) :
    Calls Tryd.prog 19 #[.pointer (some ⟨r, 0, none⟩), .int .i64 lists] w fun e w' => e = .panicked (MIS p) ∧ Lost r w w' := by
  have hr := h.lt
  have c0 := h.place
  have cnull : Hid (∀ W, Rd r text p W → Calls Tryd.prog 31 #[.pointer (some ⟨r, 0, none⟩), .string ⟨#[110, 117, 108, 108]⟩] W fun e w' => e = .returned (.bool false) ∧ Moved r text (p) W w') := fun W hW => take_any r p text ⟨#[110, 117, 108, 108]⟩ W hW hp ht (by decide) false bnull
  have ctrue : Hid (∀ W, Rd r text p W → Calls Tryd.prog 31 #[.pointer (some ⟨r, 0, none⟩), .string ⟨#[116, 114, 117, 101]⟩] W fun e w' => e = .returned (.bool false) ∧ Moved r text (p) W w') := fun W hW => take_any r p text ⟨#[116, 114, 117, 101]⟩ W hW hp ht (by decide) false btrue
  have cfalse : Hid (∀ W, Rd r text p W → Calls Tryd.prog 31 #[.pointer (some ⟨r, 0, none⟩), .string ⟨#[102, 97, 108, 115, 101]⟩] W fun e w' => e = .returned (.bool false) ∧ Moved r text (p) W w') := fun W hW => take_any r p text ⟨#[102, 97, 108, 115, 101]⟩ W hW hp ht (by decide) false bfalse
  have cquote : Hid (∀ W, Rd r text p W → Calls Tryd.prog 31 #[.pointer (some ⟨r, 0, none⟩), .string ⟨#[39]⟩] W fun e w' => e = .returned (.bool false) ∧ Moved r text (p) W w') := fun W hW => take_any r p text ⟨#[39]⟩ W hW hp ht (by decide) false bquote
  have copen : Hid (∀ W, Rd r text p W → Calls Tryd.prog 31 #[.pointer (some ⟨r, 0, none⟩), .string ⟨#[91]⟩] W fun e w' => e = .returned (.bool true) ∧ Moved r text (p + 1) W w') := fun W hW => take_any r p text ⟨#[91]⟩ W hW hp ht (by decide) true bopen
  clear bnull btrue bfalse bquote bopen
  have hb0 : Below w.heap.size w (w.alloc (.cells #[.int .i64 0, .int .i64 0, .string ⟨#[]⟩, .slice none 0 0] 24)) := (Below.refl _ _).alloc (Nat.le_refl _) _
  have K0 : Moved r text p (w.alloc (.cells #[.int .i64 0, .int .i64 0, .string ⟨#[]⟩, .slice none 0 0] 24)) (w.alloc (.cells #[.int .i64 0, .int .i64 0, .string ⟨#[]⟩, .slice none 0 0] 24)) := Moved.refl (Moved.of_below h hb0).here
  go_enter Tryd.func19, Tryd.ntmps19
  go_wp2_with fail
  refine (cnull.out _ K0.here).mono ?_
  rintro e u1 ⟨rfl, k1⟩
  have K1 := K0.trans k1
  go_wp2_with fail
  refine (ctrue.out _ K1.here).mono ?_
  rintro e u2 ⟨rfl, k2⟩
  have K2 := K1.trans k2
  go_wp2_with fail
  refine (cfalse.out _ K2.here).mono ?_
  rintro e u3 ⟨rfl, k3⟩
  have K3 := K2.trans k3
  go_wp2_with fail
  refine (cquote.out _ K3.here).mono ?_
  rintro e u4 ⟨rfl, k4⟩
  have K4 := K3.trans k4
  go_wp2_with fail
  refine (copen.out _ K4.here).mono ?_
  rintro e ut ⟨rfl, kt⟩
  have KT := K4.trans kt
  have ML : Lost r w ut := (Lost.of_below hb0).trans KT.lost
  go_wp2_with fail
  exact ⟨rfl, rfl, ML⟩

end Go.Proofs.YtdbodcfodlbgnaaDoor
