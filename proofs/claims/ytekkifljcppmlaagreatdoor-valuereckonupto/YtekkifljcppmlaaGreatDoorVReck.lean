/-
  What is proved here: what value.Reckon and espalierref.ReckonOf answer of two lists of at most thirty values together.
-/
import Derived.Test.YtekkifljcppmlaaGreatDoorVJoin
namespace Go.Proofs.YtekkifljcppmlaaGreatDoor
open Go.RowKit
set_option linter.unusedVariables false

set_option maxHeartbeats 2000000 in
set_option maxRecDepth 100000 in
theorem reckon_lists (n1 n2 : Int) (s1 s2 : ByteArray) (a1 a2 : Option Addr) (l1 c1 l2 c2 : Nat) (L1 L2 : List T) (w : World) (hL1 : LiesS w L1 a1 l1) (hL2 : LiesS w L2 a2 l2) (hs : l1 + l2 ≤ 30) (hw : wtL L1 + wtL L2 ≤ 1099511627776) :
    Calls Tryz.prog 5 #[.string ⟨#[43]⟩, .agg #[.int .i64 4, .int .i64 n1, .string s1, .slice a1 l1 c1], .agg #[.int .i64 4, .int .i64 n2, .string s2, .slice a2 l2 c2]] w fun e w' => AnsV w' 4 0 ⟨#[]⟩ (L1 ++ L2) 0 e ∧ Below w.heap.size w w' := by
  have HJ : Hid (∀ U, Below w.heap.size w U → Calls Tryz.prog 14 #[.slice a1 l1 c1, .slice a2 l2 c2] U fun e w' => AnsA (fun i => U.heap.size ≤ i) w' 4 0 ⟨#[]⟩ (L1 ++ L2) 0 e ∧ Below U.heap.size U w') := fun U kU => joinLists_short a1 a2 l1 c1 l2 c2 L1 L2 U (hL1.below kU) (hL2.below kU) hs hw
  have b0 : Below w.heap.size w (((w.alloc (.cells #[.int .i64 4, .int .i64 n1, .string s1, .slice a1 l1 c1] 24)).alloc (.cells #[.int .i64 4, .int .i64 n2, .string s2, .slice a2 l2 c2] 24)).alloc (.cells #[.int .i64 0, .int .i64 0, .string ⟨#[]⟩, .slice none 0 0] 24)) := (((Below.refl _ _).alloc (Nat.le_refl _) _).alloc (by simp) _).alloc (by simp; omega) _
  have q3 := (three_alloc w (.cells #[.int .i64 4, .int .i64 n1, .string s1, .slice a1 l1 c1] 24) (.cells #[.int .i64 4, .int .i64 n2, .string s2, .slice a2 l2 c2] 24) (.cells #[.int .i64 0, .int .i64 0, .string ⟨#[]⟩, .slice none 0 0] 24)).2.2
  have z0 : (((w.alloc (.cells #[.int .i64 4, .int .i64 n1, .string s1, .slice a1 l1 c1] 24)).alloc (.cells #[.int .i64 4, .int .i64 n2, .string s2, .slice a2 l2 c2] 24)).alloc (.cells #[.int .i64 0, .int .i64 0, .string ⟨#[]⟩, .slice none 0 0] 24)).heap.size = w.heap.size + 3 := by simp
  have HB0 := toHid b0
  have HQ3 := toHid q3
  have HZ0 := toHid z0
  clear b0 q3 z0
  go_enter Tryz.func5, Tryz.ntmps5
  go_wp2_with fail
  refine (HJ.out _ HB0.out).mono ?_
  generalize (((w.alloc (.cells #[.int .i64 4, .int .i64 n1, .string s1, .slice a1 l1 c1] 24)).alloc (.cells #[.int .i64 4, .int .i64 n2, .string s2, .slice a2 l2 c2] 24)).alloc (.cells #[.int .i64 0, .int .i64 0, .string ⟨#[]⟩, .slice none 0 0] 24)) = W at HB0 HQ3 HZ0 ⊢
  rintro e w1 ⟨⟨a', l', c', rfl, hlc, hL'⟩, k1⟩
  have HL' := toHid hL'
  clear hL'
  have hr := (k1.block (w.heap.size + 2) (by rw [HZ0.out]; omega)).trans HQ3.out
  have HK := toHid (HB0.out.trans (k1.mono HB0.out.size))
  have HR := toHid hr
  have r0 := cell_of hr 0
  have r1 := cell_of hr 1
  have r2 := cell_of hr 2
  have r3 := cell_of hr 3
  have f0 := free_of hr 0
  have f1 := free_of hr 1
  have f2 := free_of hr 2
  have f3 := free_of hr 3
  simp at r0 r1 r2 r3
  have sz2 : w.heap.size + 2 < w1.heap.size := (Array.getElem?_eq_some_iff.1 hr).1
  clear hr k1
  go_wp2_with fail
  have E := set4_here (b := w.heap.size + 1 + 1) HR.out (.int .i64 4) (.int .i64 0) (.string ⟨#[]⟩) (.slice a' l' c')
  have hbb : Below w.heap.size w ((((w1.setCell ⟨w.heap.size + 1 + 1, 0, none⟩ (.int .i64 4)).setCell ⟨w.heap.size + 1 + 1, 1, none⟩ (.int .i64 0)).setCell ⟨w.heap.size + 1 + 1, 2, none⟩ (.string ⟨#[]⟩)).setCell ⟨w.heap.size + 1 + 1, 3, none⟩ (.slice a' l' c')) := (((HK.out.setCell (p := ⟨w.heap.size + 1 + 1, 0, none⟩) (by show w.heap.size ≤ w.heap.size + 1 + 1; omega) _).setCell (p := ⟨w.heap.size + 1 + 1, 1, none⟩) (by show w.heap.size ≤ w.heap.size + 1 + 1; omega) _).setCell (p := ⟨w.heap.size + 1 + 1, 2, none⟩) (by show w.heap.size ≤ w.heap.size + 1 + 1; omega) _).setCell (p := ⟨w.heap.size + 1 + 1, 3, none⟩) (by show w.heap.size ≤ w.heap.size + 1 + 1; omega) _
  have hkeep : ∀ i, i ≠ w.heap.size + 1 + 1 → ((((w1.setCell ⟨w.heap.size + 1 + 1, 0, none⟩ (.int .i64 4)).setCell ⟨w.heap.size + 1 + 1, 1, none⟩ (.int .i64 0)).setCell ⟨w.heap.size + 1 + 1, 2, none⟩ (.string ⟨#[]⟩)).setCell ⟨w.heap.size + 1 + 1, 3, none⟩ (.slice a' l' c')).heap[i]? = w1.heap[i]? := fun i hi => by
    rw [Below.heap_setCell _ _ _ i hi, Below.heap_setCell _ _ _ i hi, Below.heap_setCell _ _ _ i hi, Below.heap_setCell _ _ _ i hi]
  have hsz : ((((w1.setCell ⟨w.heap.size + 1 + 1, 0, none⟩ (.int .i64 4)).setCell ⟨w.heap.size + 1 + 1, 1, none⟩ (.int .i64 0)).setCell ⟨w.heap.size + 1 + 1, 2, none⟩ (.string ⟨#[]⟩)).setCell ⟨w.heap.size + 1 + 1, 3, none⟩ (.slice a' l' c')).heap.size = w1.heap.size := by simp [World.setCell]
  generalize ((((w1.setCell ⟨w.heap.size + 1 + 1, 0, none⟩ (.int .i64 4)).setCell ⟨w.heap.size + 1 + 1, 1, none⟩ (.int .i64 0)).setCell ⟨w.heap.size + 1 + 1, 2, none⟩ (.string ⟨#[]⟩)).setCell ⟨w.heap.size + 1 + 1, 3, none⟩ (.slice a' l' c')) = Y at E hbb hkeep hsz ⊢
  have hL5 : LieA (fun _ => True) Y (L1 ++ L2) a' l' := LieA.kept (Nat.le_of_eq hsz.symm) (fun i hi _ => ⟨trivial, hkeep i (by have : W.heap.size ≤ i := hi; rw [HZ0.out] at this; omega)⟩) _ _ _ HL'.out
  have t0 := cell_of E 0
  have t1 := cell_of E 1
  have t2 := cell_of E 2
  have t3 := cell_of E 3
  simp at t0 t1 t2 t3
  exact bodyPost_ret (v := .tuple #[.agg #[.int .i64 4, .int .i64 0, .string ⟨#[]⟩, .slice a' l' c'], .int .i64 0]) (by simp [results, Tryz.results5, go_sem, t0, t1, t2, t3]) rfl ⟨⟨_, _, _, rfl, hlc, LieA.lies _ _ _ hL5⟩, hbb⟩
/-- What ReckonOf answers of two such lists. -/
theorem reckonOf_lists (n1 n2 : Int) (s1 s2 : ByteArray) (a1 a2 : Option Addr) (l1 c1 l2 c2 : Nat) (L1 L2 : List T) (w : World) (hL1 : LiesS w L1 a1 l1) (hL2 : LiesS w L2 a2 l2) (hs : l1 + l2 ≤ 30) :
    Calls Tryz.prog 6 #[.string ⟨#[43]⟩, .agg #[.int .i64 4, .int .i64 n1, .string s1, .slice a1 l1 c1], .agg #[.int .i64 4, .int .i64 n2, .string s2, .slice a2 l2 c2]] w fun e w' => AnsV w' 4 0 ⟨#[]⟩ (L1 ++ L2) 0 e ∧ Below w.heap.size w w' := by
  obtain ⟨cs1, m1, p1, o1, d1⟩ := cells_any hL1
  obtain ⟨cs2, m2, p2, o2, d2⟩ := cells_any hL2
  have e1 := hL1.length.1
  have e2 := hL2.length.1
  refine (reckonOf_cells n1 n2 s1 s2 a1 a2 l1 c1 l2 c2 cs1 cs2 w hs m1 m2 (fun W kW => cells_kept p1 kW) (fun W kW => cells_kept p2 kW) o1 o2).mono ?_
  rintro e w' ⟨⟨v', rfl, hrow⟩, k⟩
  obtain ⟨a, c, rfl, hc, hl⟩ := lies_row hrow (by rw [List.length_append, e1, e2]) (by rw [List.length_append, ← e1, ← e2]; omega) (d1.append d2 (by rw [m1, e1])) (fun Lt a l h => h.below k)
  exact ⟨⟨_, _, _, rfl, hc, hl⟩, k⟩
end Go.Proofs.YtekkifljcppmlaaGreatDoor
