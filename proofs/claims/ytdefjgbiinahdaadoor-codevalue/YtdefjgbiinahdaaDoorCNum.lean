/-
  What is proved here: code.appendNumber adds a number's bytes, the highest first, to a row of bytes that the call itself has made.
-/
import Derived.Test.YtdefjgbiinahdaaDoorOPText
namespace Go.Proofs.YtdefjgbiinahdaaDoor
open Go.RowKit
set_option linter.unusedVariables false

/-- A number in so many bytes, the highest first. -/
def hiB (n : Nat) : Nat → List UInt8
  | 0 => []
  | k + 1 => UInt8.ofNat (n / 256 ^ k) :: hiB n k

theorem hiB_length (n : Nat) : ∀ k, (hiB n k).length = k
  | 0 => rfl
  | k + 1 => by simp [hiB, hiB_length n k]

theorem hiB_at (n : Nat) : ∀ (k i : Nat), i < k → (hiB n k).take (i + 1) = (hiB n k).take i ++ [UInt8.ofNat (n / 256 ^ (k - 1 - i))]
  | 0, _, h => absurd h (Nat.not_lt_zero _)
  | k + 1, 0, _ => by simp [hiB]
  | k + 1, i + 1, h => by
    have := hiB_at n k i (by omega)
    simp only [hiB, List.take_succ_cons, List.cons_append]
    rw [this, show k + 1 - 1 - (i + 1) = k - 1 - i from by omega]

theorem byte_mod (x : Nat) : Lib.byteCells [UInt8.ofNat x] = [.int .u8 ((x % 256 : Nat) : Int)] := by
  simp [Lib.byteCells, UInt8.toNat_ofNat']

theorem byte_shift (n j : Nat) : ([.int .u8 ((n : Int) / 2 ^ (8 * j) % 256)] : List Value) = Lib.byteCells [UInt8.ofNat (n / 256 ^ j)] := by
  rw [byte_mod, show (256 : Nat) ^ j = 2 ^ (8 * j) from by rw [Nat.pow_mul]]
  simp

set_option maxHeartbeats 400000 in
set_option maxRecDepth 100000 in
theorem appendNumber_any (B : Nat) (sv : Value) (l : List UInt8) (n size : Nat) (w : World) (h : Out B w sv l) (hB : B ≤ w.heap.size) (hl : l.length ≤ 1000000) (hs : size ≤ 8) (hn : n ≤ 18446744073709551615) :
    Calls Tryd.prog 36 #[sv, .int .u64 n, .int .i64 size] w fun e w' => ∃ v', e = .returned v' ∧ Out B w' v' (l ++ hiB n size) ∧ Below B w w' := by
  obtain ⟨i0, hi, hz0, hz1, hz2⟩ := info_byte
  have H := toHid h
  obtain ⟨a0, c0, rfl⟩ := h.len
  clear h
  go_enter Tryd.func36, Tryd.ntmps36
  go_wp2_with fail
  go_loopg [0, 9] size (fun g s0 s9 wr => ∃ (k : Nat) (v : Value), k ≤ size ∧ size - k ≤ g ∧ s9 = .int .i64 k ∧ s0 = v ∧ B ≤ wr.heap.size ∧ Out B wr v (l ++ (hiB n size).take k) ∧ Below B w wr)
  case atStart => exact ⟨0, _, Nat.zero_le _, by omega, rfl, rfl, hB, by simpa using H.out, Below.refl _ _⟩
  case round =>
    clear H
    obtain ⟨k, v, hk, hg, rfl, rfl, hz, ho, hb⟩ := hrel
    obtain ⟨L, hLL⟩ : ∃ L, L = l ++ (hiB n size).take k := ⟨_, rfl⟩
    have hL0 : L.length ≤ 1000010 := by rw [hLL]; simp [hiB_length]; omega
    rw [← hLL] at ho
    have HLL := toHid hLL
    obtain ⟨a1, c1, hv⟩ := ho.len
    subst hv
    have OW := toHid ho
    clear ho hLL
    by_cases hlt : k < size
    · go_wp2_with (at_builtin; refine wpList_append_own _ rfl _ _ 55 rfl B BE i0 (.int .u8 0) 1 1 Tryd.underlying55 hi hz0 hz1 hz2 rfl (by decide) _ _ _ rfl (OW.out.alloc _) ⟨wr.heap.size, 0, none⟩ 1 1 [.int .u8 ((n : Int) / 2 ^ (8 * (size - 1 - k)) % 256)] rfl rfl (one_new _ _ _) (fun x hx => by simp at hx; subst hx; rfl) (by unfold maxLen; omega) (by omega) (by simp; omega) ?_)
      intro v2 w2 hown2 hg2 _
      have o2 := out_of hown2 (byte_shift n (size - 1 - k))
      have hb2 : Below B w w2 := hb.trans ((OW.out.alloc _).grown ((Below.refl _ _).alloc hz _) hg2 (by simp; omega))
      have hs2 : wr.heap.size ≤ w2.heap.size := by have := hg2.size; simp at this; omega
      have O2 := toHid o2
      clear o2 hown2 hg2
      go_wp2_with fail
      go_roundg (size - (k + 1))
      case measure => omega
      case rel => exact ⟨k + 1, v2, by omega, by omega, by go_num, rfl, by omega, by rw [hiB_at n size k hlt, ← List.append_assoc, ← HLL.out]; exact O2.out, hb2⟩
    · have : k = size := by omega
      subst this
      go_wp2_with fail
      go_ret
      refine ⟨_, rfl, ?_, hb⟩
      have e : l ++ hiB n k = L := by rw [HLL.out, List.take_of_length_le (by rw [hiB_length]; omega)]
      rw [e]
      exact OW.out
end Go.Proofs.YtdefjgbiinahdaaDoor
