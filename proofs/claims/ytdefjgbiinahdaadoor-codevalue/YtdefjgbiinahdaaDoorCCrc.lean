/-
  What is proved here: plain facts on the sum of bytes (CRC-32, bit by bit), and on numbers of 32 bits.
-/
import Derived.Test.YtdefjgbiinahdaaDoorCNum
import Derived.Laws.BitsAllLaws
namespace Go.Proofs.YtdefjgbiinahdaaDoor
open Go.RowKit
set_option linter.unusedVariables false

/-- One bit goes out at the right. -/
def crcBit (s : Nat) : Nat := if s % 2 = 1 then (s / 2) ^^^ 3988292384 else s / 2

def crcBits : Nat → Nat → Nat
  | s, 0 => s
  | s, k + 1 => crcBits (crcBit s) k

/-- A byte. -/
def crcByte (s : Nat) (c : UInt8) : Nat := crcBits (s ^^^ c.toNat) 8

/-- Bytes, ahead of the last turn. -/
def crcAll (s : Nat) (l : List UInt8) : Nat := l.foldl crcByte s

/-- The sum of bytes. -/
def crcOf (l : List UInt8) : Nat := crcAll 4294967295 l ^^^ 4294967295

theorem xor_32 {a b : Nat} (ha : a < 4294967296) (hb : b < 4294967296) : a ^^^ b < 4294967296 := by
  have := Nat.xor_lt_two_pow (n := 32) (x := a) (y := b) (by simpa using ha) (by simpa using hb)
  simpa using this

theorem crcBit_lt {s : Nat} (h : s < 4294967296) : crcBit s < 4294967296 := by
  unfold crcBit
  split
  · exact xor_32 (by omega) (by omega)
  · omega

theorem crcBits_lt : ∀ (k s : Nat), s < 4294967296 → crcBits s k < 4294967296
  | 0, _, h => h
  | k + 1, s, h => crcBits_lt k _ (crcBit_lt h)

theorem crcByte_lt {s : Nat} (h : s < 4294967296) (c : UInt8) : crcByte s c < 4294967296 :=
  crcBits_lt 8 _ (xor_32 h (Nat.lt_of_lt_of_le c.toNat_lt (by omega)))

theorem crcAll_lt : ∀ (l : List UInt8) (s : Nat), s < 4294967296 → crcAll s l < 4294967296
  | [], _, h => h
  | c :: l, s, h => crcAll_lt l _ (crcByte_lt h c)

theorem crcOf_lt (l : List UInt8) : crcOf l < 4294967296 := xor_32 (crcAll_lt l _ (by omega)) (by omega)

theorem crcBits_succ (s k : Nat) : crcBits s (k + 1) = crcBits (crcBit s) k := rfl

theorem crcBits_last : ∀ (k s : Nat), crcBits s (k + 1) = crcBit (crcBits s k)
  | 0, _ => rfl
  | k + 1, s => by rw [crcBits_succ, crcBits_last k]; rfl

theorem crcAll_take (l : List UInt8) (s k : Nat) (h : k < l.length) : crcAll s (l.take (k + 1)) = crcByte (crcAll s (l.take k)) l[k] := by
  unfold crcAll
  rw [List.take_succ_eq_append_getElem h, List.foldl_append]
  rfl

theorem and_one {x : Nat} (h : x < 4294967296) : bits .and .u32 (x : Int) 1 = ((x % 2 : Nat) : Int) := by
  have := u32_and_nat x 1 h (by omega)
  rw [nat_mask1] at this
  exact this

theorem xor_poly {x : Nat} (h : x < 4294967296) : bits .xor .u32 ((x : Int) / 2) 3988292384 = ((x / 2 ^^^ 3988292384 : Nat) : Int) := by
  have := u32_xor_nat (x / 2) 3988292384 (by omega) (by omega)
  rw [← this]
  simp

theorem xor_byte {x : Nat} (h : x < 4294967296) (c : UInt8) : bits .xor .u32 (x : Int) (c.toNat : Int) = ((x ^^^ c.toNat : Nat) : Int) :=
  u32_xor_nat x c.toNat h (Nat.lt_of_lt_of_le c.toNat_lt (by omega))

theorem xor_not {x : Nat} (h : x < 4294967296) : x ^^^ 4294967295 = 4294967295 - x := by
  have h1 : (4294967295 : Nat) = 2 ^ 32 - 1 := by decide
  have e : (BitVec.ofNat 32 x ^^^ BitVec.allOnes 32) = ~~~ (BitVec.ofNat 32 x) := by rw [BitVec.xor_allOnes]
  have e2 := congrArg BitVec.toNat e
  rw [BitVec.toNat_xor, BitVec.toNat_not, BitVec.toNat_allOnes, BitVec.toNat_ofNat, Nat.mod_eq_of_lt (by simpa using h)] at e2
  simpa using e2
end Go.Proofs.YtdefjgbiinahdaaDoor
