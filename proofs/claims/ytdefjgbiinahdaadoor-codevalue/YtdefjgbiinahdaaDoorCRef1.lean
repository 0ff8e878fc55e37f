/-
  What is proved here: espalierref.high, ofHigh, crcOf and FrameOf: a number's bytes, the number of bytes, their sum, and a frame of them; what was there is as it was.
-/
import Derived.Test.YtdefjgbiinahdaaDoorCPure
namespace Go.Proofs.YtdefjgbiinahdaaDoor
open Go.RowKit
set_option linter.unusedVariables false

theorem hiB_last (n : Nat) : ∀ k, hiB n (k + 1) = hiB (n / 256) k ++ [UInt8.ofNat n]
  | 0 => by simp [hiB]
  | k + 1 => by
    have := hiB_last n k
    have e : n / 256 / 256 ^ k = n / 256 ^ (k + 1) := by rw [Nat.div_div_eq_div_mul, Nat.pow_succ, Nat.mul_comm]
    conv => lhs; unfold hiB
    rw [this]
    conv => rhs; unfold hiB
    rw [e]
    rfl

theorem hiB_last' (n k : Nat) : hiB (n / 256 ^ k) 1 ++ hiB n k = hiB n (k + 1) := by
  simp [hiB]

theorem text_join (l m : List UInt8) : ((⟨l.toArray⟩ : ByteArray) ++ ⟨m.toArray⟩) = ⟨(l ++ m).toArray⟩ := by
  apply ByteArray.ext
  rw [ByteArray.data_append]
  simp

theorem text_size (l : List UInt8) : (⟨l.toArray⟩ : ByteArray).size = l.length := by simp [ByteArray.size]

set_option maxHeartbeats 1000000 in
set_option maxRecDepth 100000 in
theorem high_any (n size : Nat) (w : World) (hs : size ≤ 8) (hn : n ≤ 18446744073709551615) :
    Calls Tryd.prog 29 #[.int .u64 n, .int .i64 size] w fun e w' => e = .returned (.string ⟨(hiB n size).toArray⟩) ∧ Below w.heap.size w w' := by
  go_enter Tryd.func29, Tryd.ntmps29
  go_wp2_with fail
  go_loopg [0, 5, 7] size (fun g s0 s5 s7 wr => ∃ (k m : Nat) (A : ByteArray), k ≤ size ∧ size - k ≤ g ∧ s7 = .int .i64 k ∧ s0 = .int .u64 m ∧ s5 = .string A ∧ m = n / 256 ^ k ∧ A = ⟨(hiB n k).toArray⟩ ∧ A.size = k ∧ w.heap.size ≤ wr.heap.size ∧ Below w.heap.size w wr)
  case atStart => exact ⟨0, n, ⟨#[]⟩, Nat.zero_le _, by omega, rfl, rfl, rfl, by simp, rfl, rfl, Nat.le_refl _, Below.refl _ _⟩
  case round =>
    obtain ⟨k, m, A, hk, hg, rfl, rfl, rfl, hm, hA, hAs, hsz, hbw⟩ := hrel
    have HM := toHid hm
    have HA := toHid hA
    have hAs' : A.size ≤ 8 := by omega
    have HAS := toHid hAs
    have hm' : m ≤ 18446744073709551615 := by rw [hm]; exact Nat.le_trans (Nat.div_le_self _ _) hn
    clear hm hA hAs
    by_cases hlt : k < size
    · have hcv : (convert 55 9 (.slice (some ⟨wr.heap.size, 0, none⟩) 1 1)).run Tryd.prog (wr.alloc (.cells #[.int .u8 ((m : Int) % 256)] BE)) = .ok (.string ⟨#[UInt8.ofNat m]⟩) (wr.alloc (.cells #[.int .u8 ((m : Int) % 256)] BE)) := run_convert_bytes_back (P := Tryd.prog) (wr.alloc (.cells #[.int .u8 ((m : Int) % 256)] BE)) 55 9 BE ⟨wr.heap.size, 0, none⟩ 1 [UInt8.ofNat m] Tryd.underlying55 Tryd.underlying5 Tryd.underlying9 (fun j hj => by
        have hj0 : j = 0 := by simpa using hj
        subst hj0
        have := one_new wr (.int .u8 ((m : Int) % 256)) BE 0 _ rfl
        rw [this]
        simp [UInt8.toNat_ofNat'])
      obtain ⟨C, hC⟩ : ∃ C : ByteArray, C = ⟨#[UInt8.ofNat m]⟩ := ⟨_, rfl⟩
      have hCs : C.size ≤ 1 := by rw [hC]; exact Nat.le_refl _
      have hCs' : Hid (C.size = 1) := by rw [hC]; rfl
      rw [← hC] at hcv
      have HC := toHid hC
      have hbw2 : Below w.heap.size w (wr.alloc (.cells #[.int .u8 ((m : Int) % 256)] BE)) := hbw.alloc hsz _
      clear hC
      go_wp2_with fail
      go_roundg (size - (k + 1))
      case measure => omega
      case rel =>
        refine ⟨k + 1, m / 256, C ++ A, by omega, by omega, by go_num, by go_num, rfl, ?_, ?_, ?_, by simp; omega, hbw2⟩
        · rw [HM.out, Nat.div_div_eq_div_mul, Nat.pow_succ]
        · rw [HC.out, HA.out, HM.out]
          exact text_join [UInt8.ofNat (n / 256 ^ k)] (hiB n k)
        · rw [ByteArray.size_append, hCs'.out, HAS.out]; omega
    · obtain rfl : k = size := by omega
      go_wp2_with fail
      go_ret
      exact ⟨by rw [HA.out]; rfl, hbw⟩

theorem xor_byte' {x : Nat} (hx : x < 4294967296) (c : UInt8) : bits .xor .u32 (x : Int) ((c.toNat : Int) % 4294967296) = ((x ^^^ c.toNat : Nat) : Int) := by
  rw [Int.emod_eq_of_lt (by omega) (by have := c.toNat_lt; omega)]
  exact xor_byte hx c

set_option maxHeartbeats 1000000 in
set_option maxRecDepth 100000 in
theorem crc_any (s : ByteArray) (w : World) (hl : s.size ≤ 9223372036854775807) :
    Calls Tryd.prog 39 #[.string s] w fun e w' => e = .returned (.int .u32 (crcOf s.data.toList)) ∧ w' = w := by
  have hlen : Hid (s.data.toList.length = s.size) := by show s.data.toList.length = s.size; simp
  go_enter Tryd.func39, Tryd.ntmps39
  go_wp2_with fail
  go_loopg [3, 8] s.size (fun g s3 s8 wr => ∃ (k x : Nat), k ≤ s.size ∧ s.size - k ≤ g ∧ s8 = .int .i64 k ∧ s3 = .int .u32 x ∧ x < 4294967296 ∧ x = crcAll 4294967295 (s.data.toList.take k) ∧ wr = w)
  case atStart => exact ⟨0, 4294967295, Nat.zero_le _, by omega, rfl, rfl, by omega, rfl, rfl⟩
  case round =>
    obtain ⟨k, x, hk, hg, rfl, rfl, hx, hxe, rfl⟩ := hrel
    have HX := toHid hxe
    clear hxe
    by_cases hlt : k < s.size
    · have hxb := xor_byte' hx s[k]
      have hy : x ^^^ s[k].toNat < 4294967296 := xor_32 hx (Nat.lt_of_lt_of_le s[k].toNat_lt (by omega))
      go_wp2_with fail
      go_loopg [3, 17] 8 (fun g s3 s17 wr' => ∃ (j y : Nat), j ≤ 8 ∧ 8 - j ≤ g ∧ s17 = .int .i64 j ∧ s3 = .int .u32 y ∧ y < 4294967296 ∧ y = crcBits (x ^^^ s[k].toNat) j ∧ wr' = wr)
      case atStart => exact ⟨0, _, by omega, by omega, rfl, rfl, hy, rfl, rfl⟩
      case round =>
        obtain ⟨j, y, hj, hg2, rfl, rfl, hy, hye, rfl⟩ := hrel
        have HY := toHid hye
        clear hye
        by_cases hjt : j < 8
        · have hp := xor_poly hy
          by_cases hb : y % 2 = 1
          · have ha : (y : Int) % 2 = 1 := by omega
            have HB := toHid hb
            clear hb
            go_wp2_with fail
            go_roundg (8 - (j + 1))
            case measure => omega
            case rel => exact ⟨j + 1, y / 2 ^^^ 3988292384, by omega, by omega, by go_num, rfl, xor_32 (by omega) (by omega), by rw [crcBits_last, ← HY.out, crcBit, if_pos HB.out], rfl⟩
          · have ha : (y : Int) % 2 = 0 := by omega
            have HB := toHid hb
            clear hb
            go_wp2_with fail
            go_roundg (8 - (j + 1))
            case measure => omega
            case rel => exact ⟨j + 1, y / 2, by omega, by omega, by go_num, by go_num, by omega, by rw [crcBits_last, ← HY.out, crcBit, if_neg HB.out], rfl⟩
        · have : j = 8 := by omega
          subst this
          go_wp2_with fail
          go_roundg (s.size - (k + 1))
          case measure => omega
          case rel =>
            refine ⟨k + 1, y, by omega, by omega, by go_num, rfl, hy, ?_, rfl⟩
            rw [crcAll_take s.data.toList _ k (by rw [hlen.out]; exact hlt), HY.out, crcByte, HX.out]
            rfl
    · have hkl : k = s.size := by omega
      have HK := toHid hkl
      have hm := not_max hx
      go_wp2_with fail
      go_ret
      refine ⟨ret_int ?_, rfl⟩
      rw [HX.out, crcOf, List.take_of_length_le (by have := HK.out; have := hlen.out; omega)]

set_option maxHeartbeats 1000000 in
set_option maxRecDepth 100000 in
theorem ofHigh_any (s : ByteArray) (w : World) (hl : s.size ≤ 8) :
    Calls Tryd.prog 40 #[.string s] w fun e w' => e = .returned (.int .u64 (ofHi s.data.toList)) ∧ w' = w := by
  have hlen : Hid (s.data.toList.length = s.size) := by show s.data.toList.length = s.size; simp
  go_enter Tryd.func40, Tryd.ntmps40
  go_wp2_with fail
  go_loopg [3, 7] s.size (fun g s3 s7 wr => ∃ (k x : Nat), k ≤ s.size ∧ s.size - k ≤ g ∧ s7 = .int .i64 k ∧ s3 = .int .u64 x ∧ x = ofHi (s.data.toList.take k) ∧ wr = w)
  case atStart => exact ⟨0, 0, Nat.zero_le _, by omega, rfl, rfl, rfl, rfl⟩
  case round =>
    obtain ⟨k, x, hk, hg, rfl, rfl, hx, rfl⟩ := hrel
    have HX := toHid hx
    clear hx
    by_cases hlt : k < s.size
    · have hx7 : x < 72057594037927936 := by
        have h1 := ofHi_lt s.data.toList k (by rw [hlen.out]; exact hk)
        rw [← HX.out] at h1
        have h2 : 256 ^ k ≤ 256 ^ 7 := Nat.pow_le_pow_right (by decide) (by omega)
        have h3 : (256 : Nat) ^ 7 = 72057594037927936 := by decide
        omega
      have hcb : s[k].toNat < 256 := s[k].toNat_lt
      have hcb' : ((s[k].toNat : Nat) : Int) < 256 := by omega
      go_wp2_with fail
      go_roundg (s.size - (k + 1))
      case measure => omega
      case rel =>
        refine ⟨k + 1, x * 256 + s[k].toNat, by omega, by omega, by go_num, ?_, ?_, rfl⟩
        · rw [Int.natCast_add, Int.natCast_mul, Int.mul_comm]
          rfl
        · rw [ofHi_take s.data.toList k (by rw [hlen.out]; exact hlt), HX.out]
          rfl
    · have hkk : k = s.size := by omega
      have HK := toHid hkk
      clear hkk
      go_wp2_with fail
      go_ret
      refine ⟨ret_int ?_, rfl⟩
      rw [HX.out, List.take_of_length_le (by have := HK.out; have := hlen.out; omega)]
end Go.Proofs.YtdefjgbiinahdaaDoor
