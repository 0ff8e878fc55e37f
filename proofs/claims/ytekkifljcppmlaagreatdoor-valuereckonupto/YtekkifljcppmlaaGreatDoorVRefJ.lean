/-
  What is proved here: what espalierref.ReckonOf answers of two lists of at most thirty values together, by the cells that they hold.
-/
import Derived.Test.YtekkifljcppmlaaGreatDoorBgReckon
import Derived.Test.YtekkifljcppmlaaGreatDoorVApp
namespace Go.Proofs.YtekkifljcppmlaaGreatDoor
open Go.RowKit
set_option linter.unusedVariables false

theorem info_valR0 : (Tryz.prog.info? 24).map (fun i => (i.zero, i.size, i.bytes)) = some (some (.agg #[.int .i64 0, .int .i64 0, .string ⟨#[]⟩, .slice none 0 0]), 4, 56) := by kernel_rfl

theorem info_valR : ∃ i, Tryz.prog.info? 24 = some i ∧ i.zero = some (.agg #[.int .i64 0, .int .i64 0, .string ⟨#[]⟩, .slice none 0 0]) ∧ i.size = 4 ∧ i.bytes = 56 := by
  obtain ⟨i, h, e⟩ := Option.map_eq_some_iff.1 info_valR0
  simp only [Prod.mk.injEq] at e
  exact ⟨i, h, e⟩

theorem slice_of_rowR {w : World} {B n size : Nat} {e : TypeId} {v : Value} {xs : List Value} (h : w.ownsRow B e size v n xs) : ∃ a c, v = .slice a n c ∧ n ≤ c := by
  rcases h.2 with ⟨rfl, rfl⟩ | ⟨g, cap, cur, rfl, h1, h2, h3, _⟩
  · exact ⟨none, 0, rfl, Nat.le_refl _⟩
  · exact ⟨_, cap, rfl, h3⟩

theorem row_keepR {w w' : World} {B B' n size : Nat} {e : TypeId} {v : Value} {xs : List Value} (h : w.ownsRow B e size v n xs) (hB : B' ≤ B) (hk : ∀ g, B ≤ g → w'.heap[g]? = w.heap[g]?) : w'.ownsRow B' e size v n xs := by
  refine ⟨h.1, ?_⟩
  rcases h.2 with h | ⟨g, cap, cur, e1, e2, e3, e4⟩
  · exact .inl h
  · exact .inr ⟨g, cap, cur, e1, by omega, (hk g e2).trans e3, e4⟩

/-- Cells that may be read wherever the old memory is as it was. -/
def OldCells (w : World) (a : Option Addr) (cs : List Value) : Prop := ∀ W, Below w.heap.size w W → ∀ j u, cs[j]? = some u → ∃ ad, a = some ad ∧ W.cell? (ad.add j) = some u

set_option maxHeartbeats 4000000 in
set_option maxRecDepth 100000 in
theorem reckonOf_cells (n1 n2 : Int) (s1 s2 : ByteArray) (a1 a2 : Option Addr) (l1 c1 l2 c2 : Nat) (cs1 cs2 : List Value) (w : World) (hs : l1 + l2 ≤ 30) (hn1 : cs1.length = l1 * 4) (hn2 : cs2.length = l2 * 4) (hp1 : OldCells w a1 cs1) (hp2 : OldCells w a2 cs2) (ho1 : ∀ u ∈ cs1, u.oneCell' = true) (ho2 : ∀ u ∈ cs2, u.oneCell' = true) :
    Calls Tryz.prog 6 #[.string ⟨#[43]⟩, .agg #[.int .i64 4, .int .i64 n1, .string s1, .slice a1 l1 c1], .agg #[.int .i64 4, .int .i64 n2, .string s2, .slice a2 l2 c2]] w fun e w' => (∃ v', e = .returned (.tuple #[.agg #[.int .i64 4, .int .i64 0, .string ⟨#[]⟩, v'], .int .i64 0]) ∧ w'.ownsRow w.heap.size 24 4 v' (l1 + l2) (cs1 ++ cs2)) ∧ Below w.heap.size w w' := by
  have hs1 : ¬ ((30 : Int) < (l1 : Int) + (l2 : Int)) := by omega
  obtain ⟨i4, hi0, hiz, his, hib⟩ := info_valR
  have HI0 := toHid hi0
  have HIZ := toHid hiz
  have HIS := toHid his
  have HIB := toHid hib
  have HN1 := toHid hn1
  have HN2 := toHid hn2
  have HO1 := toHid ho1
  have HO2 := toHid ho2
  have HP1 := toHid hp1
  have HP2 := toHid hp2
  have HB30 : 0 + l1 ≤ maxLen := by unfold maxLen; omega
  have HB31 : 0 + l1 + l2 ≤ maxLen := by unfold maxLen; omega
  have HB56 : (0 + l1) * 56 ≤ 140737488355328 := by omega
  have HB57 : (0 + l1 + l2) * 56 ≤ 140737488355328 := by omega
  clear hi0 hiz his hib hn1 hn2 ho1 ho2 hp1 hp2
  have q := three_alloc w (.cells #[.int .i64 4, .int .i64 n1, .string s1, .slice a1 l1 c1] 24) (.cells #[.int .i64 4, .int .i64 n2, .string s2, .slice a2 l2 c2] 24) (.cells #[.int .i64 0, .int .i64 0, .string ⟨#[]⟩, .slice none 0 0] 24)
  have b0 : Below w.heap.size w (((w.alloc (.cells #[.int .i64 4, .int .i64 n1, .string s1, .slice a1 l1 c1] 24)).alloc (.cells #[.int .i64 4, .int .i64 n2, .string s2, .slice a2 l2 c2] 24)).alloc (.cells #[.int .i64 0, .int .i64 0, .string ⟨#[]⟩, .slice none 0 0] 24)) := (((Below.refl _ _).alloc (Nat.le_refl _) _).alloc (by simp) _).alloc (by simp; omega) _
  have z0 : (((w.alloc (.cells #[.int .i64 4, .int .i64 n1, .string s1, .slice a1 l1 c1] 24)).alloc (.cells #[.int .i64 4, .int .i64 n2, .string s2, .slice a2 l2 c2] 24)).alloc (.cells #[.int .i64 0, .int .i64 0, .string ⟨#[]⟩, .slice none 0 0] 24)).heap.size = w.heap.size + 3 := by simp
  have HQ := toHid q
  have HB0 := toHid b0
  have HZ0 := toHid z0
  clear q b0 z0
  go_enter Tryz.func6, Tryz.ntmps6
  go_wp2_with fail
  generalize (((w.alloc (.cells #[.int .i64 4, .int .i64 n1, .string s1, .slice a1 l1 c1] 24)).alloc (.cells #[.int .i64 4, .int .i64 n2, .string s2, .slice a2 l2 c2] 24)).alloc (.cells #[.int .i64 0, .int .i64 0, .string ⟨#[]⟩, .slice none 0 0] 24)) = Y at HQ HB0 HZ0 ⊢
  have x3 : Y.cell? ⟨w.heap.size, 3, none⟩ = some (.slice a1 l1 c1) := cell_of HQ.out.1 3
  have y3 : Y.cell? ⟨w.heap.size + 1, 3, none⟩ = some (.slice a2 l2 c2) := cell_of HQ.out.2.1 3
  have s0 : w.heap.size < Y.heap.size := by rw [HZ0.out]; omega
  have s1' : w.heap.size + 1 < Y.heap.size := by rw [HZ0.out]; omega
  have HKY : Hid (∀ o : Obj, Below (w.heap.size + 3) Y (Y.drew.alloc o)) := fun o => ((Below.refl _ _).drew).alloc (by simp [HZ0.out]) _
  have HS : Hid (∀ W, Below (w.heap.size + 2) Y W → W.cell? ⟨w.heap.size, 3, none⟩ = some (.slice a1 l1 c1) ∧ W.cell? ⟨w.heap.size + 1, 3, none⟩ = some (.slice a2 l2 c2)) := fun W k => ⟨(k.cell (p := ⟨w.heap.size, 3, none⟩) (by show w.heap.size < _; omega)).trans x3, (k.cell (p := ⟨w.heap.size + 1, 3, none⟩) (by show w.heap.size + 1 < _; omega)).trans y3⟩
  go_region_held3 (fun w' => w'.cell? ⟨w.heap.size, 3, none⟩ = some (.slice a1 l1 c1) ∧ w'.cell? ⟨w.heap.size + 1, 3, none⟩ = some (.slice a2 l2 c2))
    (first
      | exact HS.out _ (((((k2.mono (by omega) : Below (w.heap.size + 2) Y w2).setCell (p := ⟨w.heap.size + 1 + 1, 0, none⟩) (by show w.heap.size + 2 ≤ w.heap.size + 1 + 1; omega) _).setCell (p := ⟨w.heap.size + 1 + 1, 1, none⟩) (by show w.heap.size + 2 ≤ w.heap.size + 1 + 1; omega) _).setCell (p := ⟨w.heap.size + 1 + 1, 2, none⟩) (by show w.heap.size + 2 ≤ w.heap.size + 1 + 1; omega) _).setCell (p := ⟨w.heap.size + 1 + 1, 3, none⟩) (by show w.heap.size + 2 ≤ w.heap.size + 1 + 1; omega) _)
      | exact HS.out _ (k2.mono (by omega))
      | exact HS.out _ (k1.mono (by omega))
      | go_keep)
    (first
      | ((refine step_append_both _ (by rfl) (.tmp 119) (.tmp 121) 22 (by rfl) (w.heap.size + 3) 24 i4 _ 4 56 Tryz.underlying22 HI0.out HIZ.out HIS.out HIB.out rfl (by omega) v1 (0 + l1) ([] ++ cs1) (by rfl) hown1 a2 l2 c2 cs2 (by rfl) HN2.out (HP2.out _ (HB0.out.trans (k1.mono (by omega)))) HO2.out HB31 HB57 (by have := k1.size; rw [HZ0.out] at this; omega) ?_; intro v2 w2 hown2 hg2 hat2; have k2 : Below (w.heap.size + 3) Y w2 := k1.grown hg2 (by have := k1.size; rw [HZ0.out] at this; omega) (fun k hk => (hown1.lt k hk).1); obtain ⟨av, cv, rfl, hcv⟩ := slice_of_rowR hown2; have hr := (k2.block (w.heap.size + 1 + 1) (by omega)).trans HQ.out.2.2; have r0 := cell_of hr 0; have r1 := cell_of hr 1; have r2 := cell_of hr 2; have r3 := cell_of hr 3; have f0 := free_of hr 0; have f1 := free_of hr 1; have f2 := free_of hr 2; have f3 := free_of hr 3; simp only [List.getElem?_toArray, List.getElem?_cons_zero, List.getElem?_cons_succ] at r0 r1 r2 r3; have sz2 : w.heap.size + 1 + 1 < w2.heap.size := (Array.getElem?_eq_some_iff.1 hr).1; have HHR := toHid hr; clear hr))
      | ((refine step_append_both _ (by rfl) (.tmp 116) (.tmp 118) 22 (by rfl) (w.heap.size + 3) 24 i4 _ 4 56 Tryz.underlying22 HI0.out HIZ.out HIS.out HIB.out rfl (by omega) (.slice (some ⟨Y.heap.size, 0, none⟩) 0 0) 0 [] (by rfl) (World.ownsRow_made _ #[] 0 (Nat.le_of_eq HZ0.out.symm) (by decide) rfl) a1 l1 c1 cs1 (by rfl) HN1.out (HP1.out _ (HB0.out.trans ((HKY.out _).mono (by omega)))) HO1.out HB30 HB56 (by have := (HKY.out (.cells #[] 24)).size; rw [HZ0.out] at this; exact this) ?_; intro v1 w1 hown1 hg1 hat1; have k1 : Below (w.heap.size + 3) Y w1 := (HKY.out _).grown hg1 (by have := (HKY.out (.cells #[] 24)).size; rw [HZ0.out] at this; exact this) (fun k hk => by have hkk : Y.heap.size = k := (Option.some.inj hk); rw [HZ0.out] at hkk; omega))))
  have hownx : w2.ownsRow (w.heap.size + 3) 24 4 (.slice av (l1 + l2) cv) (l1 + l2) (cs1 ++ cs2) := by
    have h := hown2
    rw [List.nil_append, Nat.zero_add] at h
    exact h
  have E := set4_here (b := w.heap.size + 1 + 1) HHR.out (.int .i64 4) (.int .i64 0) (.string ⟨#[]⟩) (.slice av (l1 + l2) cv)
  have hkk : Below w.heap.size w w2 := HB0.out.trans (k2.mono (by omega))
  have hbb : Below w.heap.size w ((((w2.setCell ⟨w.heap.size + 1 + 1, 0, none⟩ (.int .i64 4)).setCell ⟨w.heap.size + 1 + 1, 1, none⟩ (.int .i64 0)).setCell ⟨w.heap.size + 1 + 1, 2, none⟩ (.string ⟨#[]⟩)).setCell ⟨w.heap.size + 1 + 1, 3, none⟩ (.slice av (l1 + l2) cv)) := (((hkk.setCell (p := ⟨w.heap.size + 1 + 1, 0, none⟩) (by show w.heap.size ≤ w.heap.size + 1 + 1; omega) _).setCell (p := ⟨w.heap.size + 1 + 1, 1, none⟩) (by show w.heap.size ≤ w.heap.size + 1 + 1; omega) _).setCell (p := ⟨w.heap.size + 1 + 1, 2, none⟩) (by show w.heap.size ≤ w.heap.size + 1 + 1; omega) _).setCell (p := ⟨w.heap.size + 1 + 1, 3, none⟩) (by show w.heap.size ≤ w.heap.size + 1 + 1; omega) _
  have hrow : ((((w2.setCell ⟨w.heap.size + 1 + 1, 0, none⟩ (.int .i64 4)).setCell ⟨w.heap.size + 1 + 1, 1, none⟩ (.int .i64 0)).setCell ⟨w.heap.size + 1 + 1, 2, none⟩ (.string ⟨#[]⟩)).setCell ⟨w.heap.size + 1 + 1, 3, none⟩ (.slice av (l1 + l2) cv)).ownsRow w.heap.size 24 4 (.slice av (l1 + l2) cv) (l1 + l2) (cs1 ++ cs2) := row_keepR hownx (by omega) (fun g hg => by
    rw [Below.heap_setCell _ _ _ g (by show g ≠ w.heap.size + 1 + 1; omega), Below.heap_setCell _ _ _ g (by show g ≠ w.heap.size + 1 + 1; omega), Below.heap_setCell _ _ _ g (by show g ≠ w.heap.size + 1 + 1; omega), Below.heap_setCell _ _ _ g (by show g ≠ w.heap.size + 1 + 1; omega)])
  generalize ((((w2.setCell ⟨w.heap.size + 1 + 1, 0, none⟩ (.int .i64 4)).setCell ⟨w.heap.size + 1 + 1, 1, none⟩ (.int .i64 0)).setCell ⟨w.heap.size + 1 + 1, 2, none⟩ (.string ⟨#[]⟩)).setCell ⟨w.heap.size + 1 + 1, 3, none⟩ (.slice av (l1 + l2) cv)) = Z at E hbb hrow ⊢
  clear hown1 hown2 hg1 hg2 hat1 hat2 k1 k2 hownx hkk r0 r1 r2 r3 f0 f1 f2 f3 x3 y3
  go_wp2_with fail
  have t0 := cell_of E 0
  have t1 := cell_of E 1
  have t2 := cell_of E 2
  have t3 := cell_of E 3
  simp at t0 t1 t2 t3
  exact bodyPost_ret (v := .tuple #[.agg #[.int .i64 4, .int .i64 0, .string ⟨#[]⟩, .slice av (l1 + l2) cv], .int .i64 0]) (by simp [results, Tryz.results6, go_sem, t0, t1, t2, t3]) rfl ⟨⟨_, rfl, hrow⟩, hbb⟩
end Go.Proofs.YtekkifljcppmlaaGreatDoor
