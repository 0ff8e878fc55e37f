/-
  What is proved here: the reader's method number: what it answers and where it stands behind it.
-/
import Derived.Test.YtdefjgbiinahdaaDoorCRead
namespace Go.Proofs.YtdefjgbiinahdaaDoor
open Go.RowKit
set_option linter.unusedVariables false

/-- Bytes as a number, the highest first. -/
def ofHi (l : List UInt8) : Nat := l.foldl (fun n c => n * 256 + c.toNat) 0

theorem ofHi_take (l : List UInt8) (k : Nat) (h : k < l.length) : ofHi (l.take (k + 1)) = ofHi (l.take k) * 256 + l[k].toNat := by
  unfold ofHi
  rw [List.take_succ_eq_append_getElem h, List.foldl_append]
  rfl

theorem ofHi_lt (l : List UInt8) : ∀ k, k ≤ l.length → ofHi (l.take k) < 256 ^ k
  | 0, _ => by simp [ofHi]
  | k + 1, h => by
    have := ofHi_lt l k (by omega)
    have hc := l[k].toNat_lt
    rw [ofHi_take l k h, Nat.pow_succ]
    omega

theorem or_join {x : Nat} (h : x < 72057594037927936) (c : UInt8) : bits .or .u64 ((x : Int) * 256) (c.toNat : Int) = ((x * 256 + c.toNat : Nat) : Int) := by
  have hc := c.toNat_lt
  have h1 := u64_or_nat (x * 256) c.toNat (by omega) (by omega)
  have h2 := nat_join 8 (x * 256) c.toNat (by omega) (by omega)
  rw [h2] at h1
  rw [← h1]
  simp

set_option maxHeartbeats 1000000 in
set_option maxRecDepth 100000 in
theorem number_of (r tb size : Nat) (L : List UInt8) (G : World → Prop) (w : World) (hL : L.length ≤ 8)
    (hC : Calls Tryd.prog 48 #[.pointer (some ⟨r, 0, none⟩), .int .i64 size] w fun e w' => ∃ a, e = .returned (.slice a L.length L.length) ∧ Piece tb a L w' ∧ G w') :
    Calls Tryd.prog 47 #[.pointer (some ⟨r, 0, none⟩), .int .i64 size] w fun e w' => e = .returned (.int .u64 (ofHi L)) ∧ G w' := by
  have HC := toHid hC
  clear hC
  go_enter Tryd.func47, Tryd.ntmps47
  go_wp2_with fail
  refine HC.out.mono ?_
  rintro e w1 ⟨a, rfl, hp, hG⟩
  have HG := toHid hG
  have HP := toHid hp
  clear hG hp
  go_wp2_with fail
  go_loopg [5, 12] L.length (fun g s5 s12 wr => ∃ (k x : Nat), k ≤ L.length ∧ L.length - k ≤ g ∧ s12 = .int .i64 k ∧ s5 = .int .u64 x ∧ x = ofHi (L.take k) ∧ wr = w1)
  case atStart => exact ⟨0, 0, Nat.zero_le _, by omega, rfl, rfl, rfl, rfl⟩
  case round =>
    obtain ⟨k, x, hk, hg, rfl, rfl, hx, rfl⟩ := hrel
    have HX := toHid hx
    clear hx
    by_cases hlt : k < L.length
    · obtain ⟨off, ha, hrow⟩ : ∃ off, a = some ⟨tb, off, none⟩ ∧ RowB wr tb off L := by
        rcases HP.out with h | h
        · subst h; exact absurd hlt (by simp)
        · exact h
      subst ha
      have hc := hrow k hlt
      have hx7 : x < 72057594037927936 := by
        have h1 := ofHi_lt L k hk
        rw [← HX.out] at h1
        have h2 : 256 ^ k ≤ 256 ^ 7 := Nat.pow_le_pow_right (by decide) (by omega)
        have h3 : (256 : Nat) ^ 7 = 72057594037927936 := by decide
        omega
      have hor := or_join hx7 L[k]
      have hcb := L[k].toNat_lt
      clear hrow
      go_wp2_with fail
      go_roundg (L.length - (k + 1))
      case measure => omega
      case rel =>
        refine ⟨k + 1, x * 256 + L[k].toNat, by omega, by omega, by go_num, by go_num, by rw [ofHi_take L k hlt, HX.out], rfl⟩
    · have hkk : k = L.length := by omega
      have HK := toHid hkk
      clear hkk
      go_wp2_with fail
      go_ret
      refine ⟨ret_int ?_, HG.out⟩
      rw [HX.out, List.take_of_length_le (by have := HK.out; omega)]

theorem number_any (r tb size : Nat) (text : List UInt8) (st : Option Nat) (w : World) (h : RdS r tb text st w) (hs : size ≤ 8) :
    Calls Tryd.prog 47 #[.pointer (some ⟨r, 0, none⟩), .int .i64 size] w fun e w' => e = .returned (.int .u64 (ofHi (cutP text st size).1)) ∧ RdS r tb text (cutP text st size).2 w' ∧ Mv r w w' := by
  refine number_of r tb size _ (fun w' => RdS r tb text (cutP text st size).2 w' ∧ Mv r w w') w ?_ (cut_any r tb size text st w h (by omega))
  unfold cutP
  split
  · split
    · simp; omega
    · simp
  · simp
end Go.Proofs.YtdefjgbiinahdaaDoor
