/-
  What is proved here: (*strings.Replacer).Replace, called for the first time, of a replacer that NewReplacer has made of PrintOf's six texts.
-/
import Derived.Test.YtonjeaoagpelmaaGreatDoorZRepl
namespace Go.Proofs.YtonjeaoagpelmaaGreatDoor
open Go.RowKit
set_option linter.unusedVariables false

set_option maxHeartbeats 4000000 in
set_option maxRecDepth 100000 in
theorem replace_first (B b r cc : Nat) (s : ByteArray) (w : World) (hBb : B ≤ b) (hb : w.heap[b]? = some (.cells #[.int .u32 0, .int .i32 0, .int .u32 0, .nilIface, .slice (some ⟨r, 0, none⟩) 6 cc] 74 (0, 0))) (hr : r < w.heap.size) (hrb : r ≠ b) (h6 : SixAt w r) (hs : s.size ≤ 4000) :
    Calls Tryz.prog 18 #[.pointer (some ⟨b, 0, none⟩), .string s] w fun e w' => e = .returned (.string ⟨(escape s.data.toList).toArray⟩) ∧ Below B w w' := by
  have hbl : b < w.heap.size := (Array.getElem?_eq_some_iff.1 hb).1
  have hb1 := set_hereZ hb 1 (.int .i32 1)
  have hb1' : (w.setCell ⟨b, 1, none⟩ (.int .i32 1)).heap[b]? = some (.cells #[.int .u32 0, .int .i32 1, .int .u32 0, .nilIface, .slice (some ⟨r, 0, none⟩) 6 cc] 74 (0, 0)) := by simpa using hb1
  have q6 : ∀ o, (w.setCell ⟨b, 1, none⟩ (.int .i32 1)).cell? ⟨r, o, none⟩ = w.cell? ⟨r, o, none⟩ := fun o => World.cell?_of_block (Below.heap_setCell _ _ _ r hrb)
  have h6' : SixAt (w.setCell ⟨b, 1, none⟩ (.int .i32 1)) r := ⟨(q6 0).trans h6.s0, (q6 1).trans h6.s1, (q6 2).trans h6.s2, (q6 3).trans h6.s3, (q6 4).trans h6.s4, (q6 5).trans h6.s5⟩
  have z1 : (w.setCell ⟨b, 1, none⟩ (.int .i32 1)).heap.size = w.heap.size := setCell_sizeZ _ _ _
  have HDO := z_do b (fun w1 => ∃ p, w1.heap[b]? = some (.cells #[.int .u32 0, .int .i32 1, .int .u32 0, .iface 124 (.pointer (some ⟨p, 0, none⟩)), .slice none 0 0] 74 (0, 0)) ∧ w.heap.size ≤ p ∧ RepFin w.heap.size p w1 ∧ w.heap.size ≤ w1.heap.size ∧ w1.os = w.os ∧ w1.tape = w.tape ∧ w1.output = w.output ∧ ∀ i, i < w.heap.size → i ≠ b → w1.heap[i]? = w.heap[i]?) w ((cell_of hb 0).trans rfl) ((cell_of hb 1).trans rfl) (free_of hb 0) (free_of hb 1) (by
    refine (once_six b r cc (.int .u32 0) (.int .i32 1) (.int .u32 0) (w.setCell ⟨b, 1, none⟩ (.int .i32 1)) hb1' (by rw [z1]; exact hr) h6').mono ?_
    rintro e w1 ⟨rfl, p, g1, g2, g3, g4, g5, g6, g7, g8⟩
    rw [z1] at g2 g3 g4 g8
    exact ⟨rfl, (cell_of g1 0).trans rfl, (cell_of g1 1).trans rfl, free_of g1 0, free_of g1 1, p, g1, g2, g3, g4, g5, g6, g7, fun i hi hib => (g8 i hi hib).trans (Below.heap_setCell _ _ _ i hib)⟩)
  have HD := toHid HDO
  have hmf : ∀ (fn : Fn) (first cap : Array Value) (w : World), (Instr.makeFunc fn first cap).run Tryz.prog w = .ok (.func fn first cap) w := fun _ _ _ _ => rfl
  clear HDO hb hb1 hb1' h6 h6' q6 z1
  go_enter Tryz.func18, Tryz.ntmps18
  go_wp2_with fail
  refine HD.out.mono ?_
  rintro e w2 ⟨rfl, w1, ⟨p, g1, g2, g3, g4, g5, g6, g7, g8⟩, hw2⟩
  have y1 : w2.heap[b]? = some (.cells #[.int .u32 1, .int .i32 0, .int .u32 0, .iface 124 (.pointer (some ⟨p, 0, none⟩)), .slice none 0 0] 74 (0, 0)) := by
    rw [hw2]
    have := set_hereZ (set_hereZ (w := w1.drew) g1 0 (.int .u32 1)) 1 (.int .i32 0)
    simpa using this
  have y2 : ∀ i, i ≠ b → w2.heap[i]? = w1.heap[i]? := fun i hib => by
    rw [hw2, Below.heap_setCell _ _ _ i hib, Below.heap_setCell _ _ _ i hib]
    rfl
  have y3 : w2.heap.size = w1.heap.size := by rw [hw2, setCell_sizeZ, setCell_sizeZ]; rfl
  have HF : Hid (Rep p w2) := (g3.keep g2 (by rw [y3]; exact Nat.le_refl _) fun i hi _ => y2 i (by omega)).rep
  have HBL : Hid (Below B w w2) := toHid ⟨by rw [hw2]; exact g5, by rw [hw2]; exact g6, by rw [hw2]; exact g7, by rw [y3]; exact g4, fun i hi => (y2 i (by omega)).trans (g8 i (by omega) (by omega))⟩
  have c3 := cell_of y1 3
  simp at c3
  have hz : B ≤ w2.heap.size := by rw [y3]; omega
  clear g1 g2 g3 g4 g5 g6 g7 g8 hw2 y1 y2 y3
  go_wp2_with fail
  refine (replace_any p s w2 HF.out hs).mono ?_
  rintro e w3 ⟨rfl, k3⟩
  go_wp2_with fail
  go_ret
  exact ⟨rfl, HBL.out.trans (k3.mono hz)⟩
end Go.Proofs.YtonjeaoagpelmaaGreatDoor
