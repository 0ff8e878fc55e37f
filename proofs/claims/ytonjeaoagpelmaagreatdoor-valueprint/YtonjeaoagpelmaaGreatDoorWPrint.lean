/-
  What is proved here: see the remark of the text Print (the parts of it that this seat needs).
-/
import Derived.Test.YtonjeaoagpelmaaGreatDoorWOrder
namespace Go.Proofs.YtonjeaoagpelmaaGreatDoor
open Go.RowKit
set_option linter.unusedVariables false

set_option maxHeartbeats 2000000 in
set_option maxRecDepth 100000 in
theorem appendValue_list (B : Nat) (sv : Value) (l : List UInt8) (a : Option Addr) (len cap : Nat) (Q : List UInt8) (w : World) (h : Out B w sv l) (hB : B ≤ w.heap.size) (hl : l.length ≤ 4000)
    (hA : ∀ W, B ≤ W.heap.size → Below B w W → Out B W sv l → Calls Tryz.prog 24 #[sv, .slice a len cap] W fun e w' => ∃ v', e = .returned v' ∧ Out B w' v' Q ∧ Below B W w') :
    Calls Tryz.prog 9 #[sv, .agg #[.int .i64 4, .int .i64 0, .string ⟨#[]⟩, .slice a len cap]] w fun e w' => ∃ v', e = .returned v' ∧ Out B w' v' Q ∧ Below B w w' := by
  have H := toHid h
  have HA := toHid hA
  clear hA
  obtain ⟨a0, c0, rfl⟩ := h.len
  have hb0 : ∀ o, Below B w (w.alloc o) := fun o => (Below.refl _ _).alloc hB _
  clear h
  have hbig : ¬ (4000 : Int) < (l.length : Int) := by omega
  go_enter Tryz.func9, Tryz.ntmps9
  go_wp2_with fail
  refine (HA.out _ (by simp; omega) (hb0 _) (H.out.alloc _)).mono ?_
  rintro e w1 ⟨v1, rfl, o1, hb1⟩
  have O1 := toHid o1
  clear o1
  go_wp2_with fail
  go_ret
  exact ⟨v1, rfl, O1.out, (hb0 _).trans hb1⟩

set_option maxHeartbeats 2000000 in
set_option maxRecDepth 100000 in
theorem print_of (k n : Int) (s : ByteArray) (a : Option Addr) (l c : Nat) (Q : List UInt8) (w : World) (hQ : Q.length ≤ 4000) (hQ0 : Q ≠ [])
    (hC : ∀ W, Below w.heap.size w W → Calls Tryz.prog 8 #[.agg #[.int .i64 k, .int .i64 n, .string s, .slice a l c]] W fun e w' => e = .returned (.int .i64 0) ∧ Below W.heap.size W w')
    (hA : ∀ W, Below w.heap.size w W → Calls Tryz.prog 9 #[.slice none 0 0, .agg #[.int .i64 k, .int .i64 n, .string s, .slice a l c]] W fun e w' => ∃ v', e = .returned v' ∧ Out W.heap.size w' v' Q ∧ Below W.heap.size W w') :
    Calls Tryz.prog 4 #[.agg #[.int .i64 k, .int .i64 n, .string s, .slice a l c]] w fun e w' => e = .returned (.tuple #[.string ⟨Q.toArray⟩, .int .i64 0]) ∧ Below w.heap.size w w' := by
  have HC := toHid hC
  have HA := toHid hA
  clear hC hA
  have hb0 : ∀ o, Below w.heap.size w (w.alloc o) := fun o => (Below.refl _ _).alloc (Nat.le_refl _) _
  go_enter Tryz.func4, Tryz.ntmps4
  go_wp2_with fail
  refine (HC.out _ (hb0 _)).mono ?_
  rintro e w1 ⟨rfl, hb1⟩
  have hz1 : w.heap.size + 1 ≤ w1.heap.size := by have := hb1.size; simpa using this
  have hw1 : Below w.heap.size w w1 := (hb0 _).trans (hb1.mono (by simp))
  have x0 : w1.cell? ⟨w.heap.size, 0, none⟩ = some (.int .i64 k) := by rw [hb1.cell (by simp)]; simp
  have x1 : w1.cell? ⟨w.heap.size, 1, none⟩ = some (.int .i64 n) := by rw [hb1.cell (by simp)]; simp
  have x2 : w1.cell? ⟨w.heap.size, 2, none⟩ = some (.string s) := by rw [hb1.cell (by simp)]; simp
  have x3 : w1.cell? ⟨w.heap.size, 3, none⟩ = some (.slice a l c) := by rw [hb1.cell (by simp)]; simp
  clear hb1
  go_wp2_with fail
  refine (HA.out _ hw1).mono ?_
  rintro e w2 ⟨v2, rfl, o2, hb2⟩
  have hw2 : Below w.heap.size w w2 := hw1.trans (hb2.mono (by omega))
  have O2 := toHid o2
  obtain ⟨g, cap, cur, hv, e2, e3, e4, e5, e6, e7⟩ : ∃ g cap cur, v2 = .slice (some ⟨g, 0, none⟩) Q.length cap ∧ w1.heap.size ≤ g ∧ w2.heap[g]? = some (.cells cur BE (0, 0)) ∧ Q.length ≤ cap ∧ cap ≤ maxLen ∧ cur.size = cap * 1 ∧ cur.toList.take (Q.length * 1) = Lib.byteCells Q := by
    rcases o2.2 with ⟨h0, h1⟩ | h1
    · exact absurd (List.length_eq_zero_iff.1 h1) hQ0
    · exact h1
  have hbig : ¬ (4000 : Int) < (Q.length : Int) := by omega
  clear o2
  rw [hv]
  have E3 := toHid e3
  have E7 := toHid e7
  have hcv := run_convert_bytes_back (P := Tryz.prog) w2 33 9 BE ⟨g, 0, none⟩ cap Q Tryz.underlying33 Tryz.underlying5 Tryz.underlying9 (fun j hj => by
    refine World.news_of_block e3 j _ ?_
    have h1 : (cur.toList.take (Q.length * 1))[j]? = some (.int .u8 (Q[j].toNat : Int)) := by
      rw [e7]
      simp [Lib.byteCells, hj]
    rw [List.getElem?_take] at h1
    split at h1
    · exact h1
    · simp at h1)
  clear hv e3 e7
  go_wp2_with fail
  go_ret2
  exact ⟨rfl, hw2⟩

/-- The pieces of the closed fact's values. -/
def closedPiece : Nat → List UInt8
  | 0 => [45, 55]
  | 1 => [39, 105, 116, 92, 39, 115, 39]
  | _ => [110, 117, 108, 108]

theorem closed_piece (B : Nat) (w : World) (hP : Pow10 B w) : ∀ i, i < 3 → ∀ W sv L, B ≤ W.heap.size → Below B w W → Out B W sv L → L.length ≤ 4000 → Calls Tryz.prog 9 #[sv, (valsOf closedItems).at i] W fun e w' => ∃ v', e = .returned v' ∧ Out B w' v' (L ++ closedPiece i) ∧ Below B W w' := by
  intro i hi W sv L hB hb ho hL
  have h3 : i = 0 ∨ i = 1 ∨ i = 2 := by omega
  rcases h3 with rfl | rfl | rfl
  · have := appendValue_int B sv L (-7) W ho hB hL (by decide) (by decide) (hP.below hb)
    rw [show Lib.itoa (-7) = closedPiece 0 by decide +kernel] at this
    exact this
  · have := appendValue_text B sv L ⟨#[105, 116, 39, 115]⟩ W ho hB hL (by decide)
    rw [show [39] ++ escape (⟨#[105, 116, 39, 115]⟩ : ByteArray).data.toList ++ [39] = closedPiece 1 by decide +kernel] at this
    exact this
  · exact appendValue_null B sv L W ho hB hL

/-- Print of the closed fact's list. -/
theorem print_closed (B b cap : Nat) (w : World) (hB : B ≤ w.heap.size) (hT : Tabs B w) (hP : Pow10 B w) (hb : b < w.heap.size) (hat : ListAt w b 0 3 (valsOf closedItems)) :
    Calls Tryz.prog 4 #[.agg #[.int .i64 4, .int .i64 0, .string ⟨#[]⟩, .slice (some ⟨b, 0, none⟩) 3 cap]] w fun e w' => e = .returned (.tuple #[.string closedText, .int .i64 0]) ∧ Below w.heap.size w w' := by
  refine print_of 4 0 ⟨#[]⟩ (some ⟨b, 0, none⟩) 3 cap closedText.data.toList w (by decide) (by decide) (fun W hW => ?_) (fun W hW => ?_)
  · exact check_list b 0 3 cap (valsOf closedItems) W (by omega) (by have := hW.size; omega) (listAt_below hat hb hW) (fun i hi W' kW => closed_check B i hi W' (by have := hW.size; have := kW.size; omega) (hT.below ((hW.mono hB).trans (kW.mono (by have := hW.size; omega)))))
  · have hs := hW.size
    refine appendValue_list W.heap.size (.slice none 0 0) [] (some ⟨b, 0, none⟩) 3 cap closedText.data.toList W (Out.nil _ _) (Nat.le_refl _) (by decide) (fun W' hB' hb' ho' => ?_)
    have hP' : Pow10 W.heap.size W' := (hP.below (hW.mono hB)).mono (by omega) |>.below hb'
    have := appendList_any W.heap.size (.slice none 0 0) [] b 0 3 cap (valsOf closedItems) closedPiece W' ho' hB' (by omega) (listAt_below (listAt_below hat hb hW) (by omega) hb') (by omega) (fun k hk => ?_) (closed_piece W.heap.size W' hP')
    · exact this
    · have h4 : k = 0 ∨ k = 1 ∨ k = 2 ∨ k = 3 := by omega
      rcases h4 with rfl | rfl | rfl | rfl <;> decide

end Go.Proofs.YtonjeaoagpelmaaGreatDoor
