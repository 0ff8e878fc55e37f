/-
  What is proved here: espalierref.FrameOf: a frame of bytes; slices.Equal of two rows of the same texts answers true; what was there is as it was.
-/
import Derived.Test.YtdefjgbiinahdaaDoorCRef1
import Derived.Test.YtdefjgbiinahdaaDoorCTorn
import Derived.Deep.QuietTactic
import Derived.BigQuiet
import Derived.Deep.RegionHeld3
import Derived.Deep.RegionWith
namespace Go.Proofs.YtdefjgbiinahdaaDoor
open Go.RowKit
set_option linter.unusedVariables false

theorem bel (w w1 w2 : World) (h : Below w.heap.size w w1) (k : Below w1.heap.size w1 w2) : Below w.heap.size w w2 := h.trans (k.mono h.size)

set_option maxHeartbeats 1000000 in
set_option maxRecDepth 100000 in
theorem frameOf_any (s : ByteArray) (w : World) (hs : s.size ≤ 8000) :
    Calls Tryd.prog 20 #[.string s] w fun e w' => e = .returned (.string ⟨(frameB s.data.toList).toArray⟩) ∧ Below w.heap.size w w' := by
  have hlen : Hid (s.data.toList.length = s.size) := by show s.data.toList.length = s.size; simp
  have hc := crcOf_lt s.data.toList
  have z1 : (⟨(hiB s.size 4).toArray⟩ : ByteArray).size ≤ 4 := by rw [text_size, hiB_length]; omega
  have z2 : (⟨(hiB (crcOf s.data.toList) 4).toArray⟩ : ByteArray).size ≤ 4 := by rw [text_size, hiB_length]; omega
  have c1 : Hid (∀ W, Calls Tryd.prog 29 #[.int .u64 s.size, .int .i64 4] W fun e w' => e = .returned (.string ⟨(hiB s.size 4).toArray⟩) ∧ Below W.heap.size W w') := fun W => high_any s.size 4 W (by omega) (by omega)
  have c2 : Hid (∀ W, Calls Tryd.prog 29 #[.int .u64 (crcOf s.data.toList), .int .i64 4] W fun e w' => e = .returned (.string ⟨(hiB (crcOf s.data.toList) 4).toArray⟩) ∧ Below W.heap.size W w') := fun W => high_any _ 4 W (by omega) (by omega)
  have eF : (⟨(frameB s.data.toList).toArray⟩ : ByteArray) = ((⟨(hiB s.size 4).toArray⟩ : ByteArray) ++ ⟨(hiB (crcOf s.data.toList) 4).toArray⟩) ++ s := by
    have es : s = ⟨s.data.toList.toArray⟩ := by simp
    conv => rhs; rw [es]
    rw [text_join, text_join, frameB, hlen.out]
  rw [eF]
  clear eF
  generalize (⟨(hiB s.size 4).toArray⟩ : ByteArray) = A at z1 c1 ⊢
  generalize (⟨(hiB (crcOf s.data.toList) 4).toArray⟩ : ByteArray) = D at z2 c2 ⊢
  go_enter Tryd.func20, Tryd.ntmps20
  go_wp2_with fail
  refine (c1.out _).mono ?_
  rintro e w1 ⟨rfl, k1⟩
  go_wp2_with fail
  refine (crc_any s w1 (by omega)).mono ?_
  rintro e w2 ⟨rfl, rfl⟩
  go_wp2_with fail
  refine (c2.out _).mono ?_
  rintro e w3 ⟨rfl, k3⟩
  have b3 := bel _ _ _ k1 k3
  have hj : (A ++ D).size ≤ 8 := by rw [ByteArray.size_append]; omega
  go_wp2_with fail
  go_ret
  exact ⟨rfl, b3⟩

set_option maxHeartbeats 1000000 in
set_option maxRecDepth 100000 in
theorem equal_same (B B' n : Nat) (a a' : Option Addr) (c c' : Nat) (ss : List Value) (w : World) (h : w.ownsRow B ST 1 (.slice a n c) n ss) (h' : w.ownsRow B' ST 1 (.slice a' n c') n ss) (hn : n ≤ 1000000)
    (hss : ∀ v ∈ ss, ∃ s : ByteArray, v = .string s) :
    Calls Tryd.prog 22 #[.slice a n c, .slice a' n c'] w fun e w' => e = .returned (.bool true) ∧ Below w.heap.size w w' := by
  have hlen := h.1
  have HLEN := toHid hlen
  have HSS := toHid hss
  have hcells : 0 < n → ∃ g g', a = some ⟨g, 0, none⟩ ∧ a' = some ⟨g', 0, none⟩ ∧ n ≤ c ∧ n ≤ c' ∧ (∀ j u, ss[j]? = some u → w.cell? ⟨g, j, none⟩ = some u) ∧ (∀ j u, ss[j]? = some u → w.cell? ⟨g', j, none⟩ = some u) := fun hn => by
    obtain ⟨g, e1, _, _, e2, e3⟩ := row1_cell h hn
    obtain ⟨g', e1', _, _, e2', e3'⟩ := row1_cell h' hn
    exact ⟨g, g', e1, e1', e2, e2', e3, e3'⟩
  have HC := toHid hcells
  clear h h' hcells hlen hss
  go_enter Tryd.func22, Tryd.ntmps22
  go_wp2_with fail
  go_loopg [13] n (fun g s13 wr => ∃ (k q : Nat), k ≤ n ∧ n - k ≤ g ∧ s13 = .int .i64 k ∧ wr = w.drewN q)
  case atStart => exact ⟨0, 0, Nat.zero_le _, by omega, rfl, rfl⟩
  case round =>
    obtain ⟨k, q, hk, hg, rfl, rfl⟩ := hrel
    by_cases hlt : k < n
    · obtain ⟨g, g', rfl, rfl, h1, h2, h3, h4⟩ := HC.out (by omega)
      have hkl : k < ss.length := by have := HLEN.out; omega
      obtain ⟨s, hs⟩ := HSS.out ss[k] (List.getElem_mem hkl)
      have h5 := h3 k (.string s) (by rw [List.getElem?_eq_getElem hkl, hs])
      have h6 := h4 k (.string s) (by rw [List.getElem?_eq_getElem hkl, hs])
      clear h3 h4 hs
      go_wp2_with fail
      go_quiet (fail)
      all_goals
        go_wp2_with fail
        go_roundg (n - (k + 1))
        case measure => omega
        case rel => exact ⟨k + 1, q + nq, by omega, by omega, by go_num, rfl⟩
    · obtain rfl : k = n := by omega
      go_wp2_with fail
      go_ret
      exact ⟨rfl, below_drewN (Below.refl _ _) q⟩
end Go.Proofs.YtdefjgbiinahdaaDoor
