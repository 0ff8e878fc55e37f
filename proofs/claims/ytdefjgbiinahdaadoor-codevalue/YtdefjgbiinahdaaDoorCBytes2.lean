/-
  What is proved here: code.Bytes answers the bytes that appendValue adds to none, if Check takes the value and they are not too many; of a number its bytes; the closed fact of the laws on bytes is true.
-/
import Derived.Test.YtdefjgbiinahdaaDoorCBytes1
namespace Go.Proofs.YtdefjgbiinahdaaDoor
open Go.RowKit
set_option linter.unusedVariables false

set_option maxHeartbeats 1000000 in
set_option maxRecDepth 100000 in
theorem bytes_of (k n : Int) (s : ByteArray) (a : Option Addr) (l c : Nat) (w : World) (G : List UInt8 → Prop)
    (hC : ∀ W, Below w.heap.size w W → Calls Tryd.prog 24 #[.agg #[.int .i64 k, .int .i64 n, .string s, .slice a l c]] W fun e w' => e = .returned (.int .i64 0) ∧ Below W.heap.size W w')
    (hA : ∀ W, Below w.heap.size w W → Calls Tryd.prog 25 #[.slice none 0 0, .agg #[.int .i64 k, .int .i64 n, .string s, .slice a l c]] W fun e w' => ∃ v' Q, e = .returned v' ∧ Out W.heap.size w' v' Q ∧ G Q ∧ Q ≠ [] ∧ Q.length ≤ 1000000 ∧ Below W.heap.size W w') :
    Calls Tryd.prog 9 #[.agg #[.int .i64 k, .int .i64 n, .string s, .slice a l c]] w fun e w' => ∃ Q, G Q ∧ (Q.length ≤ 8000 → e = .returned (.tuple #[.string ⟨Q.toArray⟩, .int .i64 0])) ∧ (8000 < Q.length → e = .returned (.tuple #[.string ⟨#[]⟩, .int .i64 2])) ∧ Below w.heap.size w w' := by
  have HC := toHid hC
  have HA := toHid hA
  clear hC hA
  have hb0 : ∀ o, Below w.heap.size w (w.alloc o) := fun o => (Below.refl _ _).alloc (Nat.le_refl _) _
  go_enter Tryd.func9, Tryd.ntmps9
  go_wp2_with fail
  refine (HC.out _ (hb0 _)).mono ?_
  rintro e w1 ⟨rfl, hb1⟩
  have hz1 : w.heap.size + 1 ≤ w1.heap.size := by have := hb1.size; simpa using this
  have hw1 : Below w.heap.size w w1 := (hb0 _).trans (hb1.mono (by simp))
  have x0 : w1.cell? ⟨w.heap.size, 0, none⟩ = some (.int .i64 k) := by rw [hb1.cell (by simp)]; simp
  have x1 : w1.cell? ⟨w.heap.size, 1, none⟩ = some (.int .i64 n) := by rw [hb1.cell (by simp)]; simp
  have x2 : w1.cell? ⟨w.heap.size, 2, none⟩ = some (.string s) := by rw [hb1.cell (by simp)]; simp
  have x3 : w1.cell? ⟨w.heap.size, 3, none⟩ = some (.slice a l c) := by rw [hb1.cell (by simp)]; simp
  clear hb1
  go_wp2_with fail
  refine (HA.out _ hw1).mono ?_
  rintro e w2 ⟨v2, Q, rfl, o2, hG, hQ0, hQ1, hb2⟩
  have hw2 : Below w.heap.size w w2 := hw1.trans (hb2.mono (by omega))
  obtain ⟨g, cap, rfl, hcv⟩ := out_text o2 hQ0
  have HG := toHid hG
  clear hG o2 hQ0
  by_cases hbig : 8000 < Q.length
  · have hbig' : (8000 : Int) < (Q.length : Int) := by omega
    have HBIG := toHid hbig
    clear hbig
    go_wp2_with fail
    go_ret2
    exact ⟨Q, HG.out, fun h => by have := HBIG.out; omega, fun _ => rfl, hw2⟩
  · have hbig' : ¬ (8000 : Int) < (Q.length : Int) := by omega
    have HBIG := toHid hbig
    clear hbig
    go_wp2_with fail
    go_ret2
    exact ⟨Q, HG.out, fun _ => rfl, fun h => absurd h HBIG.out, hw2⟩

set_option maxHeartbeats 1000000 in
set_option maxRecDepth 100000 in
theorem bytes_bad (k n : Int) (s : ByteArray) (a : Option Addr) (l c : Nat) (z : Int) (w : World) (hz : z ≠ 0)
    (hC : ∀ W, Below w.heap.size w W → Calls Tryd.prog 24 #[.agg #[.int .i64 k, .int .i64 n, .string s, .slice a l c]] W fun e w' => e = .returned (.int .i64 z) ∧ Below W.heap.size W w') :
    Calls Tryd.prog 9 #[.agg #[.int .i64 k, .int .i64 n, .string s, .slice a l c]] w fun e w' => e = .returned (.tuple #[.string ⟨#[]⟩, .int .i64 z]) ∧ Below w.heap.size w w' := by
  have HC := toHid hC
  have hz' : (z != 0) = true := by simp [hz]
  clear hC hz
  have hb0 : ∀ o, Below w.heap.size w (w.alloc o) := fun o => (Below.refl _ _).alloc (Nat.le_refl _) _
  go_enter Tryd.func9, Tryd.ntmps9
  go_wp2_with fail
  refine (HC.out _ (hb0 _)).mono ?_
  rintro e w1 ⟨rfl, hb1⟩
  have hw1 : Below w.heap.size w w1 := (hb0 _).trans (hb1.mono (by simp))
  clear hb1
  go_wp2_with fail
  go_ret2
  exact ⟨rfl, hw1⟩

theorem check_int (n : Int) (w : World) :
    Calls Tryd.prog 24 #[.agg #[.int .i64 2, .int .i64 n, .string ⟨#[]⟩, .slice none 0 0]] w fun e w' => e = .returned (.int .i64 0) ∧ Below w.heap.size w w' :=
  check_of 2 n ⟨#[]⟩ none 0 0 0 w (fun w1 _ => within_plain 2 n ⟨#[]⟩ none 0 0 0 0 w1 (by decide) (by decide) (fun w2 _ => checkPlain_int n w2))

/-- The bytes of a whole number. -/
def intB (n : Int) : ByteArray := ⟨((2 : UInt8) :: hiB (up n) 8).toArray⟩

theorem bytes_int (n : Int) (w : World) (hn0 : -9223372036854775808 ≤ n) (hn1 : n ≤ 9223372036854775807) :
    Calls Tryd.prog 9 #[.agg #[.int .i64 2, .int .i64 n, .string ⟨#[]⟩, .slice none 0 0]] w fun e w' => e = .returned (.tuple #[.string (intB n), .int .i64 0]) ∧ Below w.heap.size w w' := by
  have hl : ((2 : UInt8) :: hiB (up n) 8).length = 9 := by simp [hiB_length]
  refine (bytes_of 2 n ⟨#[]⟩ none 0 0 w (fun Q => Q = 2 :: hiB (up n) 8) (fun W _ => check_int n W) (fun W _ => ?_)).mono ?_
  · refine (bv_num2 W.heap.size (.slice none 0 0) [] n none 0 W (Out.nil _ _) (Nat.le_refl _) (by simp) hn0 hn1).mono ?_
    rintro e w' ⟨v', he, ho, hb⟩
    exact ⟨v', 2 :: hiB (up n) 8, he, ho, rfl, by simp, by rw [hl]; omega, hb⟩
  · rintro e w' ⟨Q, rfl, h1, h2, hb⟩
    exact ⟨h1 (by rw [hl]; omega), hb⟩

theorem closed_int : intB 1 = ⟨#[2, 128, 0, 0, 0, 0, 0, 0, 1]⟩ := by decide +kernel
theorem closed_frame : (⟨(frameB [97]).toArray⟩ : ByteArray) = ⟨#[0, 0, 0, 1, 232, 183, 190, 67, 97]⟩ := by decide +kernel

theorem bel2 {w w1 w2 : World} (h : Below w.heap.size w w1) (k : Below w1.heap.size w1 w2) : Below w.heap.size w w2 := h.trans (k.mono h.size)

set_option maxHeartbeats 1000000 in
set_option maxRecDepth 100000 in
theorem coded_true (w : World) :
    Calls Tryd.prog 11 #[] w fun e w' => e = .returned (.bool true) ∧ Below w.heap.size w w' := by
  have cB : Hid (∀ W, Calls Tryd.prog 9 #[.agg #[.int .i64 2, .int .i64 1, .string ⟨#[]⟩, .slice none 0 0]] W fun e w' => e = .returned (.tuple #[.string ⟨#[2, 128, 0, 0, 0, 0, 0, 0, 1]⟩, .int .i64 0]) ∧ Below W.heap.size W w') := fun W => by
    rw [← closed_int]; exact bytes_int 1 W (by decide) (by decide)
  have cF : Hid (∀ W, Calls Tryd.prog 18 #[.string ⟨#[97]⟩] W fun e w' => e = .returned (.tuple #[.string ⟨#[0, 0, 0, 1, 232, 183, 190, 67, 97]⟩, .int .i64 0]) ∧ Below W.heap.size W w') := fun W => by
    rw [← closed_frame]; exact frame_any ⟨#[97]⟩ W (by decide) (by decide)
  go_enter Tryd.func11, Tryd.ntmps11
  go_wp2_with fail
  refine (num_any 1 _).mono ?_
  rintro e w1 ⟨rfl, k1⟩
  go_wp2_with fail
  refine (cB.out w1).mono ?_
  rintro e w2 ⟨rfl, k2⟩
  have c2 := bel2 k1 k2
  go_wp2_with fail
  refine (cF.out w2).mono ?_
  rintro e w3 ⟨rfl, k3⟩
  have c3 := bel2 c2 k3
  go_wp2_with fail
  go_ret
  exact ⟨rfl, c3⟩
end Go.Proofs.YtdefjgbiinahdaaDoor
