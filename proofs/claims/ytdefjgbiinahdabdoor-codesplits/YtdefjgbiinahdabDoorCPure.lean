/-
  What is proved here: plain facts on frames: a whole frame is read, one that is cut is not; of frames one behind the other, cut anywhere, those are read that are whole.
-/
import Derived.Test.YtdefjgbiinahdabDoorCFrames
namespace Go.Proofs.YtdefjgbiinahdabDoor
open Go.RowKit
set_option linter.unusedVariables false

theorem ofHi_cons (c : UInt8) (l : List UInt8) : ∀ x, (c :: l).foldl (fun n c => n * 256 + c.toNat) x = l.foldl (fun n c => n * 256 + c.toNat) (x * 256 + c.toNat) := fun _ => rfl

theorem foldHi (n : Nat) : ∀ (k x : Nat), (hiB n k).foldl (fun n c => n * 256 + c.toNat) x = x * 256 ^ k + n % 256 ^ k
  | 0, x => by simp [hiB, Nat.mod_one]
  | k + 1, x => by
    have e : (UInt8.ofNat (n / 256 ^ k)).toNat = n / 256 ^ k % 256 := by simp [UInt8.toNat_ofNat']
    simp only [hiB, List.foldl_cons]
    rw [foldHi n k, e, Nat.mod_pow_succ, Nat.add_mul, Nat.pow_succ]
    have : n / 256 ^ k % 256 * 256 ^ k = 256 ^ k * (n / 256 ^ k % 256) := Nat.mul_comm _ _
    have h2 : x * 256 * 256 ^ k = x * (256 ^ k * 256) := by rw [Nat.mul_assoc, Nat.mul_comm 256]
    omega

theorem ofHi_hiB (n k : Nat) (h : n < 256 ^ k) : ofHi (hiB n k) = n := by
  unfold ofHi
  rw [foldHi, Nat.mod_eq_of_lt h]
  omega

theorem cutP_ok {text : List UInt8} {p n : Nat} (h : p + n ≤ text.length) : cutP text (some p) n = ((text.drop p).take n, some (p + n)) := by
  simp [cutP, h]

theorem cutP_no {text : List UInt8} {p n : Nat} (h : ¬ p + n ≤ text.length) : cutP text (some p) n = ([], none) := by
  simp [cutP, h]
end Go.Proofs.YtdefjgbiinahdabDoor
