/-
  What is proved here: see the remark of the text Letter (the parts of it that this seat needs).
-/
import Derived.Test.YtonjeaoagpelmaaGreatDoorWReader
import Derived.Test.YtonjeaoagpelmaaGreatDoorShelf
import Derived.Shelf.Unicode.DecodeSlow
import Derived.Deep.RegionWith
namespace Go.Proofs.YtonjeaoagpelmaaGreatDoor
open Go.RowKit
set_option linter.unusedVariables false

/-- The rest of a text from a place on begins with a word. -/
def begins (text : ByteArray) (p : Nat) (word : ByteArray) : Bool := Lib.hasPrefix (text.extract p text.size).data.toList word.data.toList

/-- The tables of Go's package utf8 lie in the world, and in every world that leaves the blocks below B as they are. -/
def Tabs (B : Nat) (w : World) : Prop := ∀ w', Below B w w' → Lib.Utf8Tabs 0 1 w'

theorem Tabs.below {B : Nat} {w w' : World} (h : Tabs B w) (hb : Below B w w') : Tabs B w' := fun _ k => h _ (hb.trans k)

theorem Tabs.moved {B r : Nat} {text : ByteArray} {p : Nat} {w w' : World} (h : Tabs B w) (hb : Moved r text p w w') (hr : B ≤ r) (hB : B ≤ w.heap.size) : Tabs B w' :=
  h.below ⟨hb.os, hb.tape, hb.output, hb.size, fun k hk => hb.block k (by omega) (by omega)⟩

theorem Tabs.now {B : Nat} {w : World} (h : Tabs B w) : Lib.Utf8Tabs 0 1 w := h _ (Below.refl _ _)

set_option maxHeartbeats 1000000 in
theorem letter_quote (r p : Nat) (text : ByteArray) (w : World) (h : Rd r text p w) (hp : p ≤ text.size) (ht : text.size ≤ 4000) (h1 : begins text p ⟨#[92, 39]⟩ = true) :
    Calls Tryz.prog 72 #[.pointer (some ⟨r, 0, none⟩)] w fun e w' => e = .returned (.string ⟨#[39]⟩) ∧ Moved r text (p + 2) w w' := by
  have c1 := toHid (take_any r p text ⟨#[92, 39]⟩ w h hp ht (by decide) true h1)
  clear h1
  go_enter Tryz.func72, Tryz.ntmps72
  go_wp2_with fail
  refine c1.out.mono ?_
  rintro e w' ⟨rfl, hm⟩
  go_wp2_with fail
  go_ret
  exact ⟨rfl, hm⟩

set_option maxHeartbeats 2000000 in
theorem letter_plain (B r p n : Nat) (c : Nat) (text : ByteArray) (w : World) (h : Rd r text p w) (hp : p ≤ text.size) (ht : text.size ≤ 4000) (hB : B ≤ r) (hT : Tabs B w)
    (h1 : begins text p ⟨#[92, 39]⟩ = false) (h2 : begins text p ⟨#[92, 92]⟩ = false) (h3 : begins text p ⟨#[92, 110]⟩ = false)
    (hd : Lib.decodeGo (text.extract p text.size) = (c, n)) (hc1 : c ≠ 92) (hc2 : c ≠ 10) (hc3 : c ≠ 65533) (hn : p + n ≤ text.size) :
    Calls Tryz.prog 72 #[.pointer (some ⟨r, 0, none⟩)] w fun e w' => e = .returned (.string (text.extract p (p + n))) ∧ Moved r text (p + n) w w' := by
  have c1 := toHid (fun w (h : Rd r text p w) => take_any r p text ⟨#[92, 39]⟩ w h hp ht (by decide) false h1)
  have c2 := toHid (fun w (h : Rd r text p w) => take_any r p text ⟨#[92, 92]⟩ w h hp ht (by decide) false h2)
  have c3 := toHid (fun w (h : Rd r text p w) => take_any r p text ⟨#[92, 110]⟩ w h hp ht (by decide) false h3)
  have e1 : ((c : Int) == 92) = false := by simp; omega
  have e2 : ((c : Int) == 10) = false := by simp; omega
  have e3 : ((c : Int) == 65533) = false := by simp; omega
  have HD := toHid hd
  clear h1 h2 h3 hd hc1 hc2 hc3
  go_enter Tryz.func72, Tryz.ntmps72
  go_wp2_with fail
  refine (c1.out _ h).mono ?_
  rintro e w1 ⟨rfl, m1⟩
  go_wp2_with fail
  refine (c2.out _ m1.here).mono ?_
  rintro e w2 ⟨rfl, m2⟩
  go_wp2_with fail
  refine (c3.out _ m2.here).mono ?_
  rintro e w3 ⟨rfl, m3⟩
  have M := (m1.trans m2).trans m3
  have hT3 : Tabs B w3 := hT.moved M hB (by have := h.lt; omega)
  have q0 := M.here.text
  have q1 := M.here.place
  have q2 := M.here.free 1
  clear c1 c2 c3
  have cD : Hid (∀ W, Lib.Utf8Tabs 0 1 W → Calls Tryz.prog 84 #[.string (text.extract p text.size)] W fun e w' => e = .returned (.tuple #[.int .i32 c, .int .i64 n]) ∧ Below W.heap.size W w') := fun W hW => by
    have := Tryz.utf8_DecodeRuneInString (text.extract p text.size) W hW
    rw [HD.out] at this
    exact this
  clear HD
  go_wp2_with fail
  go_region_with (go_at_call 84; refine (cD.out _ (hT3 _ (Below.refl _ _).drew)).mono ?_; rintro e w4 ⟨rfl, hb4⟩)
  all_goals
    have hb4' : Below w3.heap.size w3 w4 := ((Below.refl _ _).drew).trans hb4
    have M4 := M.below hb4'
    have q0 := M4.here.text
    have q1 := M4.here.place
    have q2 := M4.here.free 1
    have M5 := M4.here.step (p + n) (.int .i64 ((p : Int) + (n : Int))) (by go_num)
    have s0 := M5.here.text
    have s1 : (w4.setCell ⟨r, 1, none⟩ (.int .i64 ((p : Int) + (n : Int)))).cell? ⟨r, 1, none⟩ = some (.int .i64 ((p : Int) + (n : Int))) := by rw [M5.here.place]; simp
    have hpn : (p : Int) + (n : Int) ≤ text.size := by omega
    go_wp2_with fail
    generalize w4.setCell ⟨r, 1, none⟩ (.int .i64 ((p : Int) + (n : Int))) = W5 at M5 s0 s1 ⊢
    have hsl : ∀ wx : World, (Instr.slice 9 (.string text) (some (.int .i64 (p : Int))) (some (.int .i64 ((p : Int) + (n : Int)))) none).run Tryz.prog wx = .ok (.string (text.extract p (p + n))) wx := fun wx => by
      have h9 := run_slice_string (P := Tryz.prog) wx 9 text .i64 .i64 (p : Int) ((p : Int) + (n : Int)) Tryz.underlying9 (by omega) (by omega) (by omega)
      rw [h9]
      have e : ((p : Int) + (n : Int)).toNat = p + n := by omega
      rw [e, Int.toNat_natCast]
    go_quiet (fail)
    go_wp2_with fail
    go_ret
    exact ⟨rfl, (M4.trans M5).below (below_drewN _ _)⟩

end Go.Proofs.YtonjeaoagpelmaaGreatDoor
