/-
  What is proved here: what value.joinLists and value.Reckon answer of two lists of at most thirty values together: the list of both, all its lists in memory of their own.
-/
import Derived.Test.YtekkifljcppmlaaGreatDoorVList
import Derived.Test.YtekkifljcppmlaaGreatDoorVRefJ
import Derived.OwnWalk
namespace Go.Proofs.YtekkifljcppmlaaGreatDoor
open Go.RowKit
set_option linter.unusedVariables false

/-- An answer of Reckon: a value, by what it holds, and an error. -/
def AnsV (w' : World) (k n : Int) (s : ByteArray) (L : List T) (er : Int) (e : Ending) : Prop := ∃ a' l' c', e = .returned (.tuple #[.agg #[.int .i64 k, .int .i64 n, .string s, .slice a' l' c'], .int .i64 er]) ∧ l' ≤ c' ∧ LiesS w' L a' l'

/-- The same, where all its lists lie in blocks that A allows. -/
def AnsA (A : Nat → Prop) (w' : World) (k n : Int) (s : ByteArray) (L : List T) (er : Int) (e : Ending) : Prop := ∃ a' l' c', e = .returned (.tuple #[.agg #[.int .i64 k, .int .i64 n, .string s, .slice a' l' c'], .int .i64 er]) ∧ l' ≤ c' ∧ LieA A w' L a' l'

theorem cells_kept {w : World} {a : Option Addr} {cs : List Value} (p : ∀ j u, cs[j]? = some u → ∃ ad, a = some ad ∧ ad.block < w.heap.size ∧ w.cell? (ad.add j) = some u) {W : World} (kW : Below w.heap.size w W) : ∀ j u, cs[j]? = some u → ∃ ad, a = some ad ∧ W.cell? (ad.add j) = some u := fun j u hu => by
  obtain ⟨ad, ea, hb, hc⟩ := p j u hu
  refine ⟨ad, ea, (kW.cell (p := ad.add j) ?_).trans hc⟩
  have : (ad.add j).block = ad.block := by unfold Addr.add; split <;> rfl
  rw [this]
  exact hb

set_option maxHeartbeats 4000000 in
set_option maxRecDepth 100000 in
theorem joinLists_short (a1 a2 : Option Addr) (l1 c1 l2 c2 : Nat) (L1 L2 : List T) (w : World) (hL1 : LiesS w L1 a1 l1) (hL2 : LiesS w L2 a2 l2) (hs : l1 + l2 ≤ 30) (hw : wtL L1 + wtL L2 ≤ 1099511627776) :
    Calls Tryz.prog 14 #[.slice a1 l1 c1, .slice a2 l2 c2] w fun e w' => AnsA (fun i => w.heap.size ≤ i) w' 4 0 ⟨#[]⟩ (L1 ++ L2) 0 e ∧ Below w.heap.size w w' := by
  obtain ⟨cs1, n1, p1, o1, d1⟩ := cells_any hL1
  obtain ⟨cs2, n2, p2, o2, d2⟩ := cells_any hL2
  have e1 := hL1.length.1
  have e2 := hL2.length.1
  have hs1 : ¬ ((30 : Int) < (l1 : Int) + (l2 : Int)) := by omega
  obtain ⟨i4, hi0, hiz, his, hib⟩ := info_val
  have HI0 := toHid hi0
  have HIZ := toHid hiz
  have HIS := toHid his
  have HIB := toHid hib
  have HN1 := toHid n1
  have HN2 := toHid n2
  have HO1 := toHid o1
  have HO2 := toHid o2
  have HW := toHid hw
  have HD : Hid (CellsOf w (L1 ++ L2) (cs1 ++ cs2)) := d1.append d2 (by rw [n1, e1])
  have HP1 : Hid (∀ W, Below w.heap.size w W → ∀ j u, cs1[j]? = some u → ∃ ad, a1 = some ad ∧ W.cell? (ad.add j) = some u) := fun W kW => cells_kept p1 kW
  have HP2 : Hid (∀ W, Below w.heap.size w W → ∀ j u, cs2[j]? = some u → ∃ ad, a2 = some ad ∧ W.cell? (ad.add j) = some u) := fun W kW => cells_kept p2 kW
  have HE : Hid (l1 + l2 = (L1 ++ L2).length) := toHid (by rw [List.length_append, e1, e2])
  have hb56 : i4.bytes * (l1 + l2) ≤ 281474976710656 := by rw [hib]; omega
  have hmx : l1 + l2 ≤ maxLen := by unfold maxLen; omega
  clear hi0 hiz his hib n1 n2 p1 p2 o1 o2 d1 d2 e1 e2 hL1 hL2 hw
  have b0 : Below w.heap.size w (w.alloc (.cells #[.int .i64 0, .int .i64 0, .string ⟨#[]⟩, .slice none 0 0] 24)) := (Below.refl _ _).alloc (Nat.le_refl _) _
  have q0 := alloc_new w (.cells #[.int .i64 0, .int .i64 0, .string ⟨#[]⟩, .slice none 0 0] 24)
  have z0 : (w.alloc (.cells #[.int .i64 0, .int .i64 0, .string ⟨#[]⟩, .slice none 0 0] 24)).heap.size = w.heap.size + 1 := by simp
  have HB0 := toHid b0
  have HQ0 := toHid q0
  have HZ0 := toHid z0
  clear b0 q0 z0
  go_enter Tryz.func14, Tryz.ntmps14
  go_wp2_with (at_make; refine wpList_make_own _ rfl _ _ 22 rfl (w.heap.size + 1) 24 i4 _ 4 Tryz.underlying22 HI0.out HIZ.out HIS.out .i64 .i64 ((l1 : Int) + (l2 : Int)) (l1 + l2) rfl rfl (by omega) hb56 hmx (by rw [HZ0.out]; exact Nat.le_refl _) ?_)
  generalize (w.alloc (.cells #[.int .i64 0, .int .i64 0, .string ⟨#[]⟩, .slice none 0 0] 24)) = W at HB0 HQ0 HZ0 ⊢
  intro w1 hown1 hg1
  have hz1 : w.heap.size + 1 ≤ w1.heap.size := by have := hg1.size; rw [HZ0.out] at this; exact this
  have HB1 : Hid (Below w.heap.size w w1) := HB0.out.grown hg1 (by rw [HZ0.out]; omega) (fun k hk => by cases hk)
  have HQ1 : Hid (w1.heap[w.heap.size]? = _) := (hg1.block w.heap.size (by rw [HZ0.out]; omega) (by simp)).trans HQ0.out
  have HOWN1 := toHid hown1
  clear hown1 hg1
  have HB30 : 0 + l1 ≤ maxLen := by unfold maxLen; omega
  have HB31 : l1 + l2 ≤ maxLen := by unfold maxLen; omega
  have HB56 : (0 + l1) * 56 ≤ 140737488355328 := by omega
  have HB57 : (l1 + l2) * 56 ≤ 140737488355328 := by omega
  go_wp2_with (at_builtin; refine wpList_append_both _ rfl _ _ 22 rfl (w.heap.size + 1) 24 i4 _ 4 56 Tryz.underlying22 HI0.out HIZ.out HIS.out HIB.out rfl (by omega) (.slice (some ⟨w.heap.size + 1, 0, none⟩) 0 (l1 + l2)) 0 [] rfl HOWN1.out a1 l1 c1 cs1 rfl HN1.out (HP1.out _ HB1.out) HO1.out HB30 HB56 hz1 ?_)
  intro v2 w2 hown2 hg2 hat2
  have hz2 : w.heap.size + 1 ≤ w2.heap.size := Nat.le_trans hz1 hg2.size
  have hne1 : ∀ k, (Value.slice (some ⟨w.heap.size + 1, 0, none⟩) 0 (l1 + l2)).ownBlock = some k → w.heap.size + 1 ≤ k := fun k hk => by
    have : w.heap.size + 1 = k := Option.some.inj hk
    omega
  have HB2 : Hid (Below w.heap.size w w2) := HB1.out.grown hg2 (by omega) (fun k hk => by have := hne1 k hk; omega)
  have HQ2 : Hid (w2.heap[w.heap.size]? = _) := (hg2.block w.heap.size (by omega) (fun h => by have := hne1 _ h.symm; omega)).trans HQ1.out
  have HOWN2 := toHid hown2
  obtain ⟨av2, cv2, hv2, hcv2⟩ := slice_of_rowR hown2
  subst hv2
  clear hown2 hg2 hat2 hne1 HQ1 HOWN1
  go_wp2_with (at_builtin; refine wpList_append_both _ rfl _ _ 22 rfl (w.heap.size + 1) 24 i4 _ 4 56 Tryz.underlying22 HI0.out HIZ.out HIS.out HIB.out rfl (by omega) (.slice av2 l1 cv2) l1 cs1 rfl HOWN2.out a2 l2 c2 cs2 rfl HN2.out (HP2.out _ HB2.out) HO2.out HB31 HB57 hz2 ?_)
  intro v3 w3 hown3 hg3 hat3
  have hz3 : w.heap.size + 1 ≤ w3.heap.size := Nat.le_trans hz2 hg3.size
  have HB3 : Hid (Below w.heap.size w w3) := HB2.out.grown hg3 (by omega) (fun k hk => by have := (HOWN2.out.lt k hk).1; omega)
  have HQ3 : Hid (w3.heap[w.heap.size]? = _) := (hg3.block w.heap.size (by omega) (fun h => by have := (HOWN2.out.lt _ h.symm).1; omega)).trans HQ2.out
  obtain ⟨av, cv, rfl, hcv, hlies⟩ := lies_row hown3 HE.out (by rw [← HE.out]; omega) HD.out (fun Lt a l h => h.below HB3.out)
  have HL3 := toHid hlies
  have HV : Hid (Calls Tryz.prog 33 #[.slice av (l1 + l2) cv] w3 fun e w' => ValsEnd w3 w' (L1 ++ L2) (l1 + l2) e ∧ Below w3.heap.size w3 w') := values_any (L1 ++ L2) av (l1 + l2) cv w3 hlies (by have := wt_both L1 L2; have := HW.out; omega)
  clear hown3 hg3 hat3 hlies HOWN2 HQ2 HB2
  go_wp2_with fail
  refine HV.out.mono ?_
  rintro e w4 ⟨⟨a', c', rfl, hlc, hL4⟩, k4⟩
  have hq4 := (k4.block w.heap.size (by omega)).trans HQ3.out
  have HK4 : Hid (Below w.heap.size w w4) := HB3.out.trans (k4.mono (by omega))
  have HQ4 := toHid hq4
  have HL4 := toHid hL4
  have r0 := cell_of hq4 0
  have r1 := cell_of hq4 1
  have r2 := cell_of hq4 2
  have r3 := cell_of hq4 3
  have f0 := free_of hq4 0
  have f1 := free_of hq4 1
  have f2 := free_of hq4 2
  have f3 := free_of hq4 3
  simp at r0 r1 r2 r3
  have sz4 : w.heap.size < w4.heap.size := (Array.getElem?_eq_some_iff.1 hq4).1
  clear hq4 hL4 k4
  go_wp2_with fail
  have E := set4_here (b := w.heap.size) HQ4.out (.int .i64 4) (.int .i64 0) (.string ⟨#[]⟩) (.slice a' (l1 + l2) c')
  have hbb : Below w.heap.size w ((((w4.setCell ⟨w.heap.size, 0, none⟩ (.int .i64 4)).setCell ⟨w.heap.size, 1, none⟩ (.int .i64 0)).setCell ⟨w.heap.size, 2, none⟩ (.string ⟨#[]⟩)).setCell ⟨w.heap.size, 3, none⟩ (.slice a' (l1 + l2) c')) := (((HK4.out.setCell (p := ⟨w.heap.size, 0, none⟩) (Nat.le_refl _) _).setCell (p := ⟨w.heap.size, 1, none⟩) (Nat.le_refl _) _).setCell (p := ⟨w.heap.size, 2, none⟩) (Nat.le_refl _) _).setCell (p := ⟨w.heap.size, 3, none⟩) (Nat.le_refl _) _
  have hkeep : ∀ i, i ≠ w.heap.size → (((((w4.setCell ⟨w.heap.size, 0, none⟩ (.int .i64 4)).setCell ⟨w.heap.size, 1, none⟩ (.int .i64 0)).setCell ⟨w.heap.size, 2, none⟩ (.string ⟨#[]⟩)).setCell ⟨w.heap.size, 3, none⟩ (.slice a' (l1 + l2) c'))).heap[i]? = w4.heap[i]? := fun i hi => by
    rw [Below.heap_setCell _ _ _ i hi, Below.heap_setCell _ _ _ i hi, Below.heap_setCell _ _ _ i hi, Below.heap_setCell _ _ _ i hi]
  have hsz : (((((w4.setCell ⟨w.heap.size, 0, none⟩ (.int .i64 4)).setCell ⟨w.heap.size, 1, none⟩ (.int .i64 0)).setCell ⟨w.heap.size, 2, none⟩ (.string ⟨#[]⟩)).setCell ⟨w.heap.size, 3, none⟩ (.slice a' (l1 + l2) c'))).heap.size = w4.heap.size := by simp [World.setCell]
  generalize ((((w4.setCell ⟨w.heap.size, 0, none⟩ (.int .i64 4)).setCell ⟨w.heap.size, 1, none⟩ (.int .i64 0)).setCell ⟨w.heap.size, 2, none⟩ (.string ⟨#[]⟩)).setCell ⟨w.heap.size, 3, none⟩ (.slice a' (l1 + l2) c')) = Y at E hbb hkeep hsz ⊢
  have hL5 : LieA (fun i => w.heap.size ≤ i) Y (L1 ++ L2) a' (l1 + l2) := LieA.kept (Nat.le_of_eq hsz.symm) (fun i hi _ => ⟨by have : w3.heap.size ≤ i := hi; omega, hkeep i (by have : w3.heap.size ≤ i := hi; omega)⟩) _ _ _ HL4.out
  have t0 := cell_of E 0
  have t1 := cell_of E 1
  have t2 := cell_of E 2
  have t3 := cell_of E 3
  simp at t0 t1 t2 t3
  exact bodyPost_ret (v := .tuple #[.agg #[.int .i64 4, .int .i64 0, .string ⟨#[]⟩, .slice a' (l1 + l2) c'], .int .i64 0]) (by simp [results, Tryz.results14, go_sem, t0, t1, t2, t3]) rfl ⟨⟨_, _, _, rfl, hlc, hL5⟩, hbb⟩
end Go.Proofs.YtekkifljcppmlaaGreatDoor
