/-
  What is proved here: code.appendNumber leaves all as it was but the row that it adds to.
-/
import Derived.Test.YtdefjgbiinahdaaDoorCNum
import Derived.Maps.AppendAt
namespace Go.Proofs.YtdefjgbiinahdaaDoor
open Go.RowKit
set_option linter.unusedVariables false

/-- All that was there is as it was, but for a row. -/
def Kept (w w' : World) (own : Option Nat) : Prop := ∀ k, k < w.heap.size → own ≠ some k → w'.heap[k]? = w.heap[k]?

set_option maxHeartbeats 400000 in
set_option maxRecDepth 100000 in
theorem appendNumber_kept (B : Nat) (sv : Value) (l : List UInt8) (n size : Nat) (w : World) (h : Out B w sv l) (hB : B ≤ w.heap.size) (hl : l.length ≤ 1000000) (hs : size ≤ 8) (hn : n ≤ 18446744073709551615) :
    Calls Tryd.prog 36 #[sv, .int .u64 n, .int .i64 size] w fun e w' => ∃ v', e = .returned v' ∧ Out B w' v' (l ++ hiB n size) ∧ Below B w w' ∧ Kept w w' sv.ownBlock := by
  obtain ⟨i0, hi, hz0, hz1, hz2⟩ := info_byte
  have H := toHid h
  obtain ⟨a0, c0, rfl⟩ := h.len
  generalize hob : (Value.slice a0 l.length c0).ownBlock = ob
  have HOB := toHid hob
  clear h hob
  go_enter Tryd.func36, Tryd.ntmps36
  go_wp2_with fail
  go_loopg [0, 9] size (fun g s0 s9 wr => ∃ (k : Nat) (v : Value), k ≤ size ∧ size - k ≤ g ∧ s9 = .int .i64 k ∧ v = s0 ∧ B ≤ wr.heap.size ∧ Out B wr v (l ++ (hiB n size).take k) ∧ Below B w wr ∧ Kept w wr ob ∧ w.heap.size ≤ wr.heap.size ∧ (v.ownBlock = ob ∨ ∃ j, v.ownBlock = some j ∧ w.heap.size ≤ j))
  case atStart => exact ⟨0, .slice a0 l.length c0, Nat.zero_le _, by omega, rfl, rfl, hB, by simpa using H.out, Below.refl _ _, fun _ _ _ => rfl, Nat.le_refl _, .inl HOB.out⟩
  case round =>
    clear H
    obtain ⟨k, v, hk, hg, rfl, rfl, hz, ho, hb, hkept, hws, hown⟩ := hrel
    obtain ⟨L, hLL⟩ : ∃ L, L = l ++ (hiB n size).take k := ⟨_, rfl⟩
    have hL0 : L.length ≤ 1000010 := by rw [hLL]; simp [hiB_length]; omega
    rw [← hLL] at ho
    have HLL := toHid hLL
    obtain ⟨a1, c1, hv⟩ := ho.len
    subst hv
    have OW := toHid ho
    have HOWN := toHid hown
    have HK := toHid hkept
    clear ho hLL hown hkept
    by_cases hlt : k < size
    · go_wp2_with (at_builtin; refine wpList_append_own_at _ rfl _ _ 55 rfl B BE i0 (.int .u8 0) 1 1 Tryd.underlying55 hi hz0 hz1 hz2 rfl (by decide) _ _ _ rfl (OW.out.alloc _) ⟨wr.heap.size, 0, none⟩ 1 1 [.int .u8 ((n : Int) / 2 ^ (8 * (size - 1 - k)) % 256)] rfl rfl (one_new _ _ _) (fun x hx => by simp at hx; subst hx; rfl) (by unfold maxLen; omega) (by omega) (by simp; omega) ?_)
      intro v2 w2 hown2 hg2 _ hob2
      have o2 := out_of hown2 (byte_shift n (size - 1 - k))
      have hb2 : Below B w w2 := hb.trans ((OW.out.alloc _).grown ((Below.refl _ _).alloc hz _) hg2 (by simp; omega))
      have hs2 : wr.heap.size ≤ w2.heap.size := by have := hg2.size; simp at this; omega
      have k2 : Kept w w2 ob := fun j hj hne => by
        have hne2 : (Value.slice a1 L.length c1).ownBlock ≠ some j := by
          rcases HOWN.out with h | ⟨i, h, hi⟩
          · rw [h]; exact hne
          · rw [h]; intro e; simp only [Option.some.injEq] at e; omega
        rw [hg2.block j (by simp; omega) (fun e => hne2 e.symm), Below.heap_alloc _ _ _ (by omega)]
        exact HK.out j hj hne
      have q2 : v2.ownBlock = ob ∨ ∃ j, v2.ownBlock = some j ∧ w.heap.size ≤ j := by
        rcases hob2 with h | h
        · rw [h]; exact HOWN.out
        · exact .inr ⟨_, h, by omega⟩
      have O2 := toHid o2
      have Q2 := toHid q2
      have K2 := toHid k2
      clear o2 hown2 hg2 hob2 q2 k2
      go_wp2_with fail
      go_roundg (size - (k + 1))
      case measure => omega
      case rel => exact ⟨k + 1, v2, by omega, by omega, by go_num, rfl, by omega, by rw [hiB_at n size k hlt, ← List.append_assoc, ← HLL.out]; exact O2.out, hb2, K2.out, by omega, Q2.out⟩
    · have : k = size := by omega
      subst this
      go_wp2_with fail
      go_ret
      refine ⟨_, rfl, ?_, hb, HK.out⟩
      have e : l ++ hiB n k = L := by rw [HLL.out, List.take_of_length_le (by rw [hiB_length]; omega)]
      rw [e]
      exact OW.out
end Go.Proofs.YtdefjgbiinahdaaDoor
