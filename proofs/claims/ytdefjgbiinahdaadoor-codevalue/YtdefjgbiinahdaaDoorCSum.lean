/-
  What is proved here: code.sum answers the CRC-32 of the bytes that lie where it looks; it changes nothing.
-/
import Derived.Test.YtdefjgbiinahdaaDoorCCrc
namespace Go.Proofs.YtdefjgbiinahdaaDoor
open Go.RowKit
set_option linter.unusedVariables false

theorem not_max {x : Nat} (h : x < 4294967296) : bits .xor .u32 IntKind.u32.max (x : Int) = ((x ^^^ 4294967295 : Nat) : Int) := by
  have := u32_xor_nat 4294967295 x (by omega) h
  rw [Nat.xor_comm] at this
  exact this

/-- Bytes lie there. -/
def RowB (w : World) (b off : Nat) (l : List UInt8) : Prop := ∀ i (h : i < l.length), w.cell? ⟨b, off + i, none⟩ = some (.int .u8 (l[i].toNat : Int))

theorem RowB.kept {w w' : World} {b off : Nat} {l : List UInt8} (h : RowB w b off l) (k : w'.heap[b]? = w.heap[b]?) : RowB w' b off l := fun i hi => (World.cell?_of_block (a := ⟨b, off + i, none⟩) k).trans (h i hi)

set_option maxHeartbeats 1000000 in
set_option maxRecDepth 100000 in
theorem sum_any (b off : Nat) (l : List UInt8) (c : Nat) (w : World) (h : RowB w b off l) (hl : l.length ≤ 9223372036854775807) :
    Calls Tryd.prog 37 #[.slice (some ⟨b, off, none⟩) l.length c] w fun e w' => e = .returned (.int .u32 (crcOf l)) ∧ w' = w := by
  have H := toHid h
  clear h
  go_enter Tryd.func37, Tryd.ntmps37
  go_wp2_with fail
  go_loopg [3, 9] l.length (fun g s3 s9 wr => ∃ (k x : Nat), k ≤ l.length ∧ l.length - k ≤ g ∧ s9 = .int .i64 k ∧ s3 = .int .u32 x ∧ x < 4294967296 ∧ x = crcAll 4294967295 (l.take k) ∧ wr = w)
  case atStart => exact ⟨0, 4294967295, Nat.zero_le _, by omega, rfl, rfl, by omega, rfl, rfl⟩
  case round =>
    obtain ⟨k, x, hk, hg, rfl, rfl, hx, hxe, rfl⟩ := hrel
    have HX := toHid hxe
    clear hxe
    by_cases hlt : k < l.length
    · have hc := H.out k hlt
      have hxb : bits .xor .u32 (x : Int) ((l[k].toNat : Int) % 4294967296) = ((x ^^^ l[k].toNat : Nat) : Int) := by
        rw [Int.emod_eq_of_lt (by omega) (by have := l[k].toNat_lt; omega)]
        exact xor_byte hx l[k]
      have hy : x ^^^ l[k].toNat < 4294967296 := xor_32 hx (Nat.lt_of_lt_of_le l[k].toNat_lt (by omega))
      go_wp2_with fail
      go_loopg [3, 17] 8 (fun g s3 s17 wr' => ∃ (j y : Nat), j ≤ 8 ∧ 8 - j ≤ g ∧ s17 = .int .i64 j ∧ s3 = .int .u32 y ∧ y < 4294967296 ∧ y = crcBits (x ^^^ l[k].toNat) j ∧ wr' = wr)
      case atStart => exact ⟨0, _, by omega, by omega, rfl, rfl, hy, rfl, rfl⟩
      case round =>
        obtain ⟨j, y, hj, hg2, rfl, rfl, hy, hye, rfl⟩ := hrel
        have HY := toHid hye
        clear hye
        by_cases hjt : j < 8
        · have ha := and_one hy
          have hp := xor_poly hy
          by_cases hb : y % 2 = 1
          · rw [hb] at ha
            have HB := toHid hb
            clear hb
            go_wp2_with fail
            go_roundg (8 - (j + 1))
            case measure => omega
            case rel => exact ⟨j + 1, y / 2 ^^^ 3988292384, by omega, by omega, by go_num, rfl, xor_32 (by omega) (by omega), by rw [crcBits_last, ← HY.out, crcBit, if_pos HB.out], rfl⟩
          · have hb0 : y % 2 = 0 := by omega
            rw [hb0] at ha
            have HB := toHid hb
            clear hb hb0
            go_wp2_with fail
            go_roundg (8 - (j + 1))
            case measure => omega
            case rel => exact ⟨j + 1, y / 2, by omega, by omega, by go_num, by go_num, by omega, by rw [crcBits_last, ← HY.out, crcBit, if_neg HB.out], rfl⟩
        · have : j = 8 := by omega
          subst this
          go_wp2_with fail
          go_roundg (l.length - (k + 1))
          case measure => omega
          case rel => exact ⟨k + 1, y, by omega, by omega, by go_num, rfl, hy, by rw [crcAll_take l _ k hlt, HY.out, crcByte, HX.out], rfl⟩
    · have hkl : k = l.length := by omega
      have HK := toHid hkl
      have hm := not_max hx
      go_wp2_with fail
      go_ret
      refine ⟨ret_int ?_, rfl⟩
      rw [HX.out, crcOf, List.take_of_length_le (by have := HK.out; omega)]

set_option maxHeartbeats 1000000 in
set_option maxRecDepth 100000 in
theorem sum_nil (a : Option Addr) (c : Nat) (w : World) :
    Calls Tryd.prog 37 #[.slice a 0 c] w fun e w' => e = .returned (.int .u32 0) ∧ w' = w := by
  have hm : bits .xor .u32 IntKind.u32.max 4294967295 = 0 := by decide
  go_enter Tryd.func37, Tryd.ntmps37
  go_wp2_with fail
  go_loopg [3, 9] 0 (fun g s3 s9 wr => s9 = .int .i64 0 ∧ s3 = .int .u32 4294967295 ∧ wr = w)
  case atStart => exact ⟨rfl, rfl, rfl⟩
  case round =>
    obtain ⟨rfl, rfl, rfl⟩ := hrel
    go_wp2_with fail
    go_ret
    exact ⟨rfl, rfl⟩
end Go.Proofs.YtdefjgbiinahdaaDoor
