/-
  What is proved here: what the texts ESmall, ETwo prove, in one text.
-/
import Derived.Test.YtbfhapmnnckkaaaGreatDoorQNAG
import Derived.Test.YtbfhapmnnckkaaaGreatDoorQNAH
import Derived.Deep.RegionHeld3
namespace Go.Proofs.YtbfhapmnnckkaaaGreatDoor
open Go.RowKit
set_option linter.unusedVariables false

def hdT : List T → T
  | [] => tNull
  | t :: _ => t

set_option maxHeartbeats 4000000 in
set_option maxRecDepth 100000 in
theorem not_any (A : Nat → Prop) (L : List T) (a : Option Addr) (l c : Nat) (w : World) (hL : LieA A w L a l) (hl : l = 1) : Calls Tryz.prog 51 #[.slice a l c] w fun e w' => VEnd A w w' (turnF (hdT L)) e ∧ Below w.heap.size w w' := by
  obtain ⟨b, off, k, n, s, Lt, a1, l1, c1, rfl, hAb, hbl, hd, x0, x1, x2, x3, hlc, hss, hLt⟩ := hL.at (i := 0) (by omega)
  rw [Nat.zero_mul, Nat.add_zero] at x0 x1 x2 x3
  have hlen := hL.len.1
  have hL1 : L = .node k n s Lt :: L.drop 1 := by simpa using hd
  have e1 : turnF (hdT L) = .node (turnK k n).1 (turnK k n).2 ⟨#[]⟩ [] := by rw [hL1]; exact turnF_eq k n s Lt
  obtain ⟨z1, hz1⟩ : ∃ z, z = (turnK k n).1 := ⟨_, rfl⟩
  obtain ⟨z2, hz2⟩ : ∃ z, z = (turnK k n).2 := ⟨_, rfl⟩
  rw [e1, ← hz1, ← hz2]
  have HC : Hid (∀ W, Calls Tryz.prog 50 #[vC k n s a1 l1 c1] W fun e w' => e = .returned (vC z1 z2 ⟨#[]⟩ none 0 0) ∧ Below W.heap.size W w') := fun W => by rw [hz1, hz2]; exact turned_any k n s a1 l1 c1 W
  have hy := alloc_new w (.cells #[.int .i64 0, .int .i64 0, .string ⟨#[]⟩, .slice none 0 0] 24)
  have hz : (w.alloc (.cells #[.int .i64 0, .int .i64 0, .string ⟨#[]⟩, .slice none 0 0] 24)).heap.size = w.heap.size + 1 := by simp
  have hb0 : Below w.heap.size w (w.alloc (.cells #[.int .i64 0, .int .i64 0, .string ⟨#[]⟩, .slice none 0 0] 24)) := (Below.refl _ _).alloc (Nat.le_refl _) _
  have hq : ∀ o, (w.alloc (.cells #[.int .i64 0, .int .i64 0, .string ⟨#[]⟩, .slice none 0 0] 24)).cell? ⟨b, o, none⟩ = w.cell? ⟨b, o, none⟩ := fun o => hb0.cell (p := ⟨b, o, none⟩) hbl
  have y0 : (w.alloc (.cells #[.int .i64 0, .int .i64 0, .string ⟨#[]⟩, .slice none 0 0] 24)).cell? ⟨b, off, none⟩ = _ := (hq _).trans x0
  have y1 : (w.alloc (.cells #[.int .i64 0, .int .i64 0, .string ⟨#[]⟩, .slice none 0 0] 24)).cell? ⟨b, off + 1, none⟩ = _ := (hq _).trans x1
  have y2 : (w.alloc (.cells #[.int .i64 0, .int .i64 0, .string ⟨#[]⟩, .slice none 0 0] 24)).cell? ⟨b, off + 2, none⟩ = _ := (hq _).trans x2
  have y3 : (w.alloc (.cells #[.int .i64 0, .int .i64 0, .string ⟨#[]⟩, .slice none 0 0] 24)).cell? ⟨b, off + 3, none⟩ = _ := (hq _).trans x3
  have hbl2 : b < (w.alloc (.cells #[.int .i64 0, .int .i64 0, .string ⟨#[]⟩, .slice none 0 0] 24)).heap.size := by rw [hz]; omega
  have HY := toHid hy
  have HZ := toHid hz
  have HB := toHid hb0
  clear x0 x1 x2 x3 hq hL1 hd hLt hL e1 hz1 hz2 hlen hy hz hb0
  subst hl
  go_enter Tryz.func51, Tryz.ntmps51
  go_wp2_with fail
  refine (HC.out _).mono ?_
  generalize w.alloc (.cells #[.int .i64 0, .int .i64 0, .string ⟨#[]⟩, .slice none 0 0] 24) = W at HB HY HZ y0 y1 y2 y3 hbl2 ⊢
  rintro e w1 ⟨rfl, k1⟩
  have hb1 := (k1.block w.heap.size (by rw [HZ.out]; omega)).trans HY.out
  have h0 := cell_of hb1 0
  have h1 := cell_of hb1 1
  have h2 := cell_of hb1 2
  have h3 := cell_of hb1 3
  have fh0 := free_of hb1 0
  have fh1 := free_of hb1 1
  have fh2 := free_of hb1 2
  have fh3 := free_of hb1 3
  simp at h0 h1 h2 h3
  have hs1 : w.heap.size < w1.heap.size := by have := k1.size; rw [HZ.out] at this; omega
  have HW1 := toHid (below2 HB.out k1)
  have HB1 := toHid hb1
  clear k1 hb1 y0 y1 y2 y3
  go_wp2_with fail
  have eP : ∀ X : World, (((X.setCell ⟨w.heap.size, 0, none⟩ (.int .i64 z1)).setCell ⟨w.heap.size, 1, none⟩ (.int .i64 z2)).setCell ⟨w.heap.size, 2, none⟩ (.string ⟨#[]⟩)).setCell ⟨w.heap.size, 3, none⟩ (.slice none 0 0) = putL X (w.heap.size) 0 [.int .i64 z1, .int .i64 z2, .string ⟨#[]⟩, .slice none 0 0] := fun _ => rfl
  rw [eP]
  have E := box4 HB1.out rfl (.int .i64 z1) (.int .i64 z2) (.string ⟨#[]⟩) (.slice none 0 0)
  have hbb : Below w.heap.size w (putL w1 (w.heap.size) 0 [.int .i64 z1, .int .i64 z2, .string ⟨#[]⟩, .slice none 0 0]) := HW1.out.trans ((putL_bel (w.heap.size) _ _ w1).mono (by omega))
  have hoth : ∀ j, j ≠ w.heap.size → (putL w1 (w.heap.size) 0 [.int .i64 z1, .int .i64 z2, .string ⟨#[]⟩, .slice none 0 0]).heap[j]? = w1.heap[j]? := fun j hj => putL_other _ _ _ _ j hj
  have hsz : (putL w1 (w.heap.size) 0 [.int .i64 z1, .int .i64 z2, .string ⟨#[]⟩, .slice none 0 0]).heap.size = w1.heap.size := putL_size _ _ _ _
  generalize putL w1 (w.heap.size) 0 [.int .i64 z1, .int .i64 z2, .string ⟨#[]⟩, .slice none 0 0] = Y at E hbb hoth hsz ⊢
  have t0 := cell_of E 0
  have t1 := cell_of E 1
  have t2 := cell_of E 2
  have t3 := cell_of E 3
  simp at t0 t1 t2 t3
  exact bodyPost_ret (v := .agg #[.int .i64 z1, .int .i64 z2, .string ⟨#[]⟩, .slice none 0 0]) (by simp [results, Tryz.results51, go_sem, t0, t1, t2, t3]) rfl ⟨VEnd.flat _ _ _ (by decide), hbb⟩

/-- Is it null? -/
def nullF : T → T
  | .node k _ _ _ => tBool (k == 0)

set_option maxHeartbeats 4000000 in
set_option maxRecDepth 100000 in
theorem null_any (A : Nat → Prop) (L : List T) (a : Option Addr) (l c : Nat) (w : World) (hL : LieA A w L a l) (hl : l = 1) : Calls Tryz.prog 54 #[.slice a l c] w fun e w' => VEnd A w w' (nullF (hdT L)) e ∧ Below w.heap.size w w' := by
  obtain ⟨b, off, k, n, s, Lt, a1, l1, c1, rfl, hAb, hbl, hd, x0, x1, x2, x3, hlc, hss, hLt⟩ := hL.at (i := 0) (by omega)
  rw [Nat.zero_mul, Nat.add_zero] at x0 x1 x2 x3
  have hlen := hL.len.1
  have hL1 : L = .node k n s Lt :: L.drop 1 := by simpa using hd
  have e1 : nullF (hdT L) = tBool (k == 0) := by rw [hL1]; rfl
  rw [e1]
  have hy := alloc_new w (.cells #[.int .i64 0, .int .i64 0, .string ⟨#[]⟩, .slice none 0 0] 24)
  have hz : (w.alloc (.cells #[.int .i64 0, .int .i64 0, .string ⟨#[]⟩, .slice none 0 0] 24)).heap.size = w.heap.size + 1 := by simp
  have hb0 : Below w.heap.size w (w.alloc (.cells #[.int .i64 0, .int .i64 0, .string ⟨#[]⟩, .slice none 0 0] 24)) := (Below.refl _ _).alloc (Nat.le_refl _) _
  have hq : ∀ o, (w.alloc (.cells #[.int .i64 0, .int .i64 0, .string ⟨#[]⟩, .slice none 0 0] 24)).cell? ⟨b, o, none⟩ = w.cell? ⟨b, o, none⟩ := fun o => hb0.cell (p := ⟨b, o, none⟩) hbl
  have y0 : (w.alloc (.cells #[.int .i64 0, .int .i64 0, .string ⟨#[]⟩, .slice none 0 0] 24)).cell? ⟨b, off, none⟩ = _ := (hq _).trans x0
  have y1 : (w.alloc (.cells #[.int .i64 0, .int .i64 0, .string ⟨#[]⟩, .slice none 0 0] 24)).cell? ⟨b, off + 1, none⟩ = _ := (hq _).trans x1
  have y2 : (w.alloc (.cells #[.int .i64 0, .int .i64 0, .string ⟨#[]⟩, .slice none 0 0] 24)).cell? ⟨b, off + 2, none⟩ = _ := (hq _).trans x2
  have y3 : (w.alloc (.cells #[.int .i64 0, .int .i64 0, .string ⟨#[]⟩, .slice none 0 0] 24)).cell? ⟨b, off + 3, none⟩ = _ := (hq _).trans x3
  have hbl2 : b < (w.alloc (.cells #[.int .i64 0, .int .i64 0, .string ⟨#[]⟩, .slice none 0 0] 24)).heap.size := by rw [hz]; omega
  have HY := toHid hy
  have HZ := toHid hz
  have HB := toHid hb0
  clear x0 x1 x2 x3 hq hL1 hd hLt hL e1 hlen hy hz hb0
  subst hl
  by_cases hk : k = 0
  · have hk' : (k == 0) = true := by simp [hk]
    rw [hk']
    show Calls _ _ _ _ fun e w_ => VEnd A w w_ (.node 1 1 ⟨#[]⟩ []) e ∧ Below w.heap.size w w_
    go_enter Tryz.func54, Tryz.ntmps54
    go_wp2_with fail
    refine (truth_t _).mono ?_
    generalize w.alloc (.cells #[.int .i64 0, .int .i64 0, .string ⟨#[]⟩, .slice none 0 0] 24) = W at HB HY HZ y0 y1 y2 y3 hbl2 ⊢
    rintro e w1 ⟨rfl, k1⟩
    have hb1 := (k1.block w.heap.size (by rw [HZ.out]; omega)).trans HY.out
    have h0 := cell_of hb1 0
    have h1 := cell_of hb1 1
    have h2 := cell_of hb1 2
    have h3 := cell_of hb1 3
    have fh0 := free_of hb1 0
    have fh1 := free_of hb1 1
    have fh2 := free_of hb1 2
    have fh3 := free_of hb1 3
    simp at h0 h1 h2 h3
    have hs1 : w.heap.size < w1.heap.size := by have := k1.size; rw [HZ.out] at this; omega
    have HW1 := toHid (below2 HB.out k1)
    have HB1 := toHid hb1
    clear k1 hb1 y0 y1 y2 y3
    go_wp2_with fail
    have eP : ∀ X : World, (((X.setCell ⟨w.heap.size, 0, none⟩ (.int .i64 1)).setCell ⟨w.heap.size, 1, none⟩ (.int .i64 1)).setCell ⟨w.heap.size, 2, none⟩ (.string ⟨#[]⟩)).setCell ⟨w.heap.size, 3, none⟩ (.slice none 0 0) = putL X (w.heap.size) 0 [.int .i64 1, .int .i64 1, .string ⟨#[]⟩, .slice none 0 0] := fun _ => rfl
    rw [eP]
    have E := box4 HB1.out rfl (.int .i64 1) (.int .i64 1) (.string ⟨#[]⟩) (.slice none 0 0)
    have hbb : Below w.heap.size w (putL w1 (w.heap.size) 0 [.int .i64 1, .int .i64 1, .string ⟨#[]⟩, .slice none 0 0]) := HW1.out.trans ((putL_bel (w.heap.size) _ _ w1).mono (by omega))
    have hoth : ∀ j, j ≠ w.heap.size → (putL w1 (w.heap.size) 0 [.int .i64 1, .int .i64 1, .string ⟨#[]⟩, .slice none 0 0]).heap[j]? = w1.heap[j]? := fun j hj => putL_other _ _ _ _ j hj
    have hsz : (putL w1 (w.heap.size) 0 [.int .i64 1, .int .i64 1, .string ⟨#[]⟩, .slice none 0 0]).heap.size = w1.heap.size := putL_size _ _ _ _
    generalize putL w1 (w.heap.size) 0 [.int .i64 1, .int .i64 1, .string ⟨#[]⟩, .slice none 0 0] = Y at E hbb hoth hsz ⊢
    have t0 := cell_of E 0
    have t1 := cell_of E 1
    have t2 := cell_of E 2
    have t3 := cell_of E 3
    simp at t0 t1 t2 t3
    exact bodyPost_ret (v := .agg #[.int .i64 1, .int .i64 1, .string ⟨#[]⟩, .slice none 0 0]) (by simp [results, Tryz.results54, go_sem, t0, t1, t2, t3]) rfl ⟨VEnd.flat _ _ _ (by decide), hbb⟩
  · have hk' : (k == 0) = false := by simp [hk]
    rw [hk']
    show Calls _ _ _ _ fun e w_ => VEnd A w w_ (.node 1 0 ⟨#[]⟩ []) e ∧ Below w.heap.size w w_
    go_enter Tryz.func54, Tryz.ntmps54
    go_wp2_with fail
    refine (truth_f _).mono ?_
    generalize w.alloc (.cells #[.int .i64 0, .int .i64 0, .string ⟨#[]⟩, .slice none 0 0] 24) = W at HB HY HZ y0 y1 y2 y3 hbl2 ⊢
    rintro e w1 ⟨rfl, k1⟩
    have hb1 := (k1.block w.heap.size (by rw [HZ.out]; omega)).trans HY.out
    have h0 := cell_of hb1 0
    have h1 := cell_of hb1 1
    have h2 := cell_of hb1 2
    have h3 := cell_of hb1 3
    have fh0 := free_of hb1 0
    have fh1 := free_of hb1 1
    have fh2 := free_of hb1 2
    have fh3 := free_of hb1 3
    simp at h0 h1 h2 h3
    have hs1 : w.heap.size < w1.heap.size := by have := k1.size; rw [HZ.out] at this; omega
    have HW1 := toHid (below2 HB.out k1)
    have HB1 := toHid hb1
    clear k1 hb1 y0 y1 y2 y3
    go_wp2_with fail
    have eP : ∀ X : World, (((X.setCell ⟨w.heap.size, 0, none⟩ (.int .i64 1)).setCell ⟨w.heap.size, 1, none⟩ (.int .i64 0)).setCell ⟨w.heap.size, 2, none⟩ (.string ⟨#[]⟩)).setCell ⟨w.heap.size, 3, none⟩ (.slice none 0 0) = putL X (w.heap.size) 0 [.int .i64 1, .int .i64 0, .string ⟨#[]⟩, .slice none 0 0] := fun _ => rfl
    rw [eP]
    have E := box4 HB1.out rfl (.int .i64 1) (.int .i64 0) (.string ⟨#[]⟩) (.slice none 0 0)
    have hbb : Below w.heap.size w (putL w1 (w.heap.size) 0 [.int .i64 1, .int .i64 0, .string ⟨#[]⟩, .slice none 0 0]) := HW1.out.trans ((putL_bel (w.heap.size) _ _ w1).mono (by omega))
    have hoth : ∀ j, j ≠ w.heap.size → (putL w1 (w.heap.size) 0 [.int .i64 1, .int .i64 0, .string ⟨#[]⟩, .slice none 0 0]).heap[j]? = w1.heap[j]? := fun j hj => putL_other _ _ _ _ j hj
    have hsz : (putL w1 (w.heap.size) 0 [.int .i64 1, .int .i64 0, .string ⟨#[]⟩, .slice none 0 0]).heap.size = w1.heap.size := putL_size _ _ _ _
    generalize putL w1 (w.heap.size) 0 [.int .i64 1, .int .i64 0, .string ⟨#[]⟩, .slice none 0 0] = Y at E hbb hoth hsz ⊢
    have t0 := cell_of E 0
    have t1 := cell_of E 1
    have t2 := cell_of E 2
    have t3 := cell_of E 3
    simp at t0 t1 t2 t3
    exact bodyPost_ret (v := .agg #[.int .i64 1, .int .i64 0, .string ⟨#[]⟩, .slice none 0 0]) (by simp [results, Tryz.results54, go_sem, t0, t1, t2, t3]) rfl ⟨VEnd.flat _ _ _ (by decide), hbb⟩

set_option maxHeartbeats 4000000 in
set_option maxRecDepth 100000 in
theorem id_any (A : Nat → Prop) (L : List T) (a : Option Addr) (l c : Nat) (w : World) (hL : LieA A w L a l) (hl : l = 1) : Calls Tryz.prog 60 #[.slice a l c] w fun e w' => VEnd A w w' (hdT L) e ∧ Below w.heap.size w w' := by
  obtain ⟨b, off, k, n, s, Lt, a1, l1, c1, rfl, hAb, hbl, hd, x0, x1, x2, x3, hlc, hss, hLt⟩ := hL.at (i := 0) (by omega)
  rw [Nat.zero_mul, Nat.add_zero] at x0 x1 x2 x3
  have hlen := hL.len.1
  have hL1 : L = .node k n s Lt :: L.drop 1 := by simpa using hd
  have e1 : hdT L = .node k n s Lt := by rw [hL1]; rfl
  rw [e1]
  have hy := alloc_new w (.cells #[.int .i64 0, .int .i64 0, .string ⟨#[]⟩, .slice none 0 0] 24)
  have hz : (w.alloc (.cells #[.int .i64 0, .int .i64 0, .string ⟨#[]⟩, .slice none 0 0] 24)).heap.size = w.heap.size + 1 := by simp
  have hb0 : Below w.heap.size w (w.alloc (.cells #[.int .i64 0, .int .i64 0, .string ⟨#[]⟩, .slice none 0 0] 24)) := (Below.refl _ _).alloc (Nat.le_refl _) _
  have hq : ∀ o, (w.alloc (.cells #[.int .i64 0, .int .i64 0, .string ⟨#[]⟩, .slice none 0 0] 24)).cell? ⟨b, o, none⟩ = w.cell? ⟨b, o, none⟩ := fun o => hb0.cell (p := ⟨b, o, none⟩) hbl
  have y0 : (w.alloc (.cells #[.int .i64 0, .int .i64 0, .string ⟨#[]⟩, .slice none 0 0] 24)).cell? ⟨b, off, none⟩ = _ := (hq _).trans x0
  have y1 : (w.alloc (.cells #[.int .i64 0, .int .i64 0, .string ⟨#[]⟩, .slice none 0 0] 24)).cell? ⟨b, off + 1, none⟩ = _ := (hq _).trans x1
  have y2 : (w.alloc (.cells #[.int .i64 0, .int .i64 0, .string ⟨#[]⟩, .slice none 0 0] 24)).cell? ⟨b, off + 2, none⟩ = _ := (hq _).trans x2
  have y3 : (w.alloc (.cells #[.int .i64 0, .int .i64 0, .string ⟨#[]⟩, .slice none 0 0] 24)).cell? ⟨b, off + 3, none⟩ = _ := (hq _).trans x3
  have hbl2 : b < (w.alloc (.cells #[.int .i64 0, .int .i64 0, .string ⟨#[]⟩, .slice none 0 0] 24)).heap.size := by rw [hz]; omega
  have HY := toHid hy
  have HZ := toHid hz
  have HB := toHid hb0
  have HLT := toHid hLt
  have HSS := toHid hss
  have HLC := toHid hlc
  have HAB := toHid hAb
  have h0 := cell_of hy 0
  have h1 := cell_of hy 1
  have h2 := cell_of hy 2
  have h3 := cell_of hy 3
  have fh0 := free_of hy 0
  have fh1 := free_of hy 1
  have fh2 := free_of hy 2
  have fh3 := free_of hy 3
  simp at h0 h1 h2 h3
  clear x0 x1 x2 x3 hq hL1 hd hLt hL e1 hlen hy hz hb0 hlc
  subst hl
  go_enter Tryz.func60, Tryz.ntmps60
  go_wp2_with fail
  have hbb : Below w.heap.size w (w.alloc (.cells #[.int .i64 k, .int .i64 n, .string s, .slice a1 l1 c1] 24)) := (Below.refl _ _).alloc (Nat.le_refl _) _
  exact bodyPost_ret (v := vC k n s a1 l1 c1) (by simp [results, Tryz.results60, go_sem]) rfl ⟨⟨k, n, s, a1, l1, c1, Lt, rfl, rfl, HLC.out, HSS.out, LieA.kept hbb.size (fun i hi hl => ⟨.inl hi, hbb.block i hl⟩) _ _ _ HLT.out⟩, hbb⟩

theorem lt_block' {w : World} {b : Nat} {o : Obj} (h : w.heap[b]? = some o) : b < w.heap.size := (Array.getElem?_eq_some_iff.1 h).1

/-- Of the first two. -/
def on2 (g : T → T → T) : List T → T
  | x :: y :: _ => g x y
  | _ => tNull

def sameK (x : Int) : Int × Int := if x = 2 then (0, 0) else (1, x)
def sameF (x y : T) : T := .node (sameK (sameT x y)).1 (sameK (sameT x y)).2 ⟨#[]⟩ []

theorem sameV_eq (x : Int) : sameV x = vC (sameK x).1 (sameK x).2 ⟨#[]⟩ none 0 0 := by
  unfold sameV sameK
  split <;> rfl

/-- Ahead: kind and number. -/
def lessK (x y : T) : Int × Int :=
  match x, y with
  | .node k _ _ _, .node k' _ _ _ => if k = k' ∧ (k = 2 ∨ k = 3) then (1, if ordT x y < 0 then 1 else 0) else (0, 0)

def lessF (x y : T) : T := .node (lessK x y).1 (lessK x y).2 ⟨#[]⟩ []

theorem less_any (k n : Int) (s : ByteArray) (a : Option Addr) (l c : Nat) (k' n' : Int) (s' : ByteArray) (a' : Option Addr) (l' c' : Nat) (L L' : List T) (w : World) (hL : LiesS w L a l) (hL' : LiesS w L' a' l') (hc : l ≤ c) (hc' : l' ≤ c') (hw : wtL L ≤ 1099511627776) :
    Calls Tryz.prog 48 #[vC k n s a l c, vC k' n' s' a' l' c'] w fun e w' => e = .returned (vC (lessK (.node k n s L) (.node k' n' s' L')).1 (lessK (.node k n s L) (.node k' n' s' L')).2 ⟨#[]⟩ none 0 0) ∧ Below w.heap.size w w' := by
  by_cases h : k = k' ∧ (k = 2 ∨ k = 3)
  · obtain ⟨rfl, hk⟩ := h
    have e1 : lessK (.node k n s L) (.node k n' s' L') = (1, if ordT (.node k n s L) (.node k n' s' L') < 0 then 1 else 0) := by simp [lessK, hk]
    rw [e1]
    exact less_ord k n s a l c n' s' a' l' c' (ordT (.node k n s L) (.node k n' s' L')) w hk (fun W kk => order_any k n s a l c k n' s' a' l' c' L L' W (LiesS.below kk _ _ _ hL) (LiesS.below kk _ _ _ hL') hc hc' hw)
  · have e1 : lessK (.node k n s L) (.node k' n' s' L') = (0, 0) := by simp only [lessK, if_neg h]
    rw [e1]
    refine less_null k n s a l c k' n' s' a' l' c' w ?_
    by_cases hk : k = k'
    · exact .inr ⟨fun e => h ⟨hk, .inl e⟩, fun e => h ⟨hk, .inr e⟩⟩
    · exact .inl hk

set_option maxHeartbeats 4000000 in
set_option maxRecDepth 100000 in
theorem same2_any (A : Nat → Prop) (L : List T) (a : Option Addr) (l c : Nat) (w : World) (hL : LieA A w L a l) (hl : l = 2) (hwt : ∀ t ∈ L, wtT t ≤ 1099511627000) : Calls Tryz.prog 45 #[.slice a l c] w fun e w' => VEnd A w w' (on2 sameF L) e ∧ Below w.heap.size w w' := by
  have hlen := hL.len.1
  obtain ⟨b, off, k0, n0, s0, L0, a0, l0, c0, ha, hAb, hbl, hd0, x0, x1, x2, x3, hlc0, hs0, hL0⟩ := hL.at (i := 0) (by omega)
  obtain ⟨b', off', k1, n1, s1, L1, a1, l1, c1, ha', -, -, hd1, z0, z1, z2, z3, hlc1, hs1, hL1⟩ := hL.at (i := 1) (by omega)
  subst ha
  injection ha' with ha'
  injection ha' with e1 e2
  subst e1 e2
  rw [Nat.zero_mul, Nat.add_zero] at x0 x1 x2 x3
  rw [Nat.one_mul] at z0 z1 z2 z3
  have hLL : L = .node k0 n0 s0 L0 :: .node k1 n1 s1 L1 :: L.drop 2 := by
    have e0 : L = .node k0 n0 s0 L0 :: L.drop 1 := by simpa using hd0
    rw [hd1] at e0
    exact e0
  have e1 : on2 sameF L = .node (sameK (sameT (.node k0 n0 s0 L0) (.node k1 n1 s1 L1))).1 (sameK (sameT (.node k0 n0 s0 L0) (.node k1 n1 s1 L1))).2 ⟨#[]⟩ [] := by rw [hLL]; rfl
  have hw0 := hwt (.node k0 n0 s0 L0) (by rw [hLL]; exact List.mem_cons_self ..)
  obtain ⟨q1, hq1⟩ : ∃ z, z = (sameK (sameT (.node k0 n0 s0 L0) (.node k1 n1 s1 L1))).1 := ⟨_, rfl⟩
  obtain ⟨q2, hq2⟩ : ∃ z, z = (sameK (sameT (.node k0 n0 s0 L0) (.node k1 n1 s1 L1))).2 := ⟨_, rfl⟩
  rw [e1, ← hq1, ← hq2]
  have HC : Hid (∀ W, Below w.heap.size w W → Calls Tryz.prog 46 #[vC k0 n0 s0 a0 l0 c0, vC k1 n1 s1 a1 l1 c1] W fun e w' => e = .returned (vC q1 q2 ⟨#[]⟩ none 0 0) ∧ Below W.heap.size W w') := fun W kk => by
    have := same_any k0 n0 s0 a0 l0 c0 k1 n1 s1 a1 l1 c1 L0 L1 W (LieA.lies _ _ _ (hL0.below kk)) (LieA.lies _ _ _ (hL1.below kk)) hlc0 hlc1 hs0 hs1 (by unfold wtT at hw0; omega)
    rw [sameV_eq, ← hq1, ← hq2] at this
    exact this
  clear e1 hq1 hq2 hw0 hwt
  have hy := alloc_new w (.cells #[.int .i64 0, .int .i64 0, .string ⟨#[]⟩, .slice none 0 0] 24)
  have hz : (w.alloc (.cells #[.int .i64 0, .int .i64 0, .string ⟨#[]⟩, .slice none 0 0] 24)).heap.size = w.heap.size + 1 := by simp
  have hb0 : Below w.heap.size w (w.alloc (.cells #[.int .i64 0, .int .i64 0, .string ⟨#[]⟩, .slice none 0 0] 24)) := (Below.refl _ _).alloc (Nat.le_refl _) _
  have HY := toHid hy
  have HZ := toHid hz
  have HB := toHid hb0
  have HS0 : Hid (∀ W', Below w.heap.size w W' → (W'.cell? ⟨b, off, none⟩ = some (.int .i64 k0) ∧ W'.cell? ⟨b, off + 1, none⟩ = some (.int .i64 n0) ∧ W'.cell? ⟨b, off + 2, none⟩ = some (.string s0) ∧ W'.cell? ⟨b, off + 3, none⟩ = some (.slice a0 l0 c0)) ∧ (W'.cell? ⟨b, off + 4, none⟩ = some (.int .i64 k1) ∧ W'.cell? ⟨b, off + 5, none⟩ = some (.int .i64 n1) ∧ W'.cell? ⟨b, off + 6, none⟩ = some (.string s1) ∧ W'.cell? ⟨b, off + 7, none⟩ = some (.slice a1 l1 c1))) := fun W' kk => by
    have q : ∀ o, W'.cell? ⟨b, o, none⟩ = w.cell? ⟨b, o, none⟩ := fun o => kk.cell (p := ⟨b, o, none⟩) hbl
    exact ⟨⟨(q _).trans x0, (q _).trans x1, (q _).trans x2, (q _).trans x3⟩, ⟨(q _).trans z0, (q _).trans z1, (q _).trans z2, (q _).trans z3⟩⟩
  clear x0 x1 x2 x3 z0 z1 z2 z3 hd0 hd1 hL0 hL1 hL hLL hlen hy hz hb0 hlc0 hlc1
  subst hl
  go_enter Tryz.func45, Tryz.ntmps45
  go_upto_region 1 with fail
  generalize w.alloc (.cells #[.int .i64 0, .int .i64 0, .string ⟨#[]⟩, .slice none 0 0] 24) = W at HB HY HZ ⊢
  have HS : Hid (∀ W', Below W.heap.size W W' → (W'.cell? ⟨b, off, none⟩ = some (.int .i64 k0) ∧ W'.cell? ⟨b, off + 1, none⟩ = some (.int .i64 n0) ∧ W'.cell? ⟨b, off + 2, none⟩ = some (.string s0) ∧ W'.cell? ⟨b, off + 3, none⟩ = some (.slice a0 l0 c0)) ∧ (W'.cell? ⟨b, off + 4, none⟩ = some (.int .i64 k1) ∧ W'.cell? ⟨b, off + 5, none⟩ = some (.int .i64 n1) ∧ W'.cell? ⟨b, off + 6, none⟩ = some (.string s1) ∧ W'.cell? ⟨b, off + 7, none⟩ = some (.slice a1 l1 c1))) := fun W' kk => HS0.out W' (below2 HB.out kk)
  have D0 : Below W.heap.size W W.drew := (Below.refl _ _).drew
  obtain ⟨⟨x0, x1, x2, x3⟩, ⟨z0, z1, z2, z3⟩⟩ := HS.out W (Below.refl _ _)
  have hbW : b < W.heap.size := by rw [HZ.out]; omega
  have HRB : Hid (∀ u, Below W.heap.size W u → u.heap[w.heap.size]? = some (.cells #[.int .i64 0, .int .i64 0, .string ⟨#[]⟩, .slice none 0 0] 24 (0, 0))) := fun u k => (k.block w.heap.size (by rw [HZ.out]; omega)).trans HY.out
  have HST : Hid (∀ u, Below W.heap.size W u → ∀ v0 v1 v2 v3 : Value, (((((u.setCell ⟨w.heap.size, 0, none⟩ v0).setCell ⟨w.heap.size, 1, none⟩ v1).setCell ⟨w.heap.size, 2, none⟩ v2).setCell ⟨w.heap.size, 3, none⟩ v3).cell? ⟨b, off, none⟩ = some (.int .i64 k0) ∧ ((((u.setCell ⟨w.heap.size, 0, none⟩ v0).setCell ⟨w.heap.size, 1, none⟩ v1).setCell ⟨w.heap.size, 2, none⟩ v2).setCell ⟨w.heap.size, 3, none⟩ v3).cell? ⟨b, off + 1, none⟩ = some (.int .i64 n0) ∧ ((((u.setCell ⟨w.heap.size, 0, none⟩ v0).setCell ⟨w.heap.size, 1, none⟩ v1).setCell ⟨w.heap.size, 2, none⟩ v2).setCell ⟨w.heap.size, 3, none⟩ v3).cell? ⟨b, off + 2, none⟩ = some (.string s0) ∧ ((((u.setCell ⟨w.heap.size, 0, none⟩ v0).setCell ⟨w.heap.size, 1, none⟩ v1).setCell ⟨w.heap.size, 2, none⟩ v2).setCell ⟨w.heap.size, 3, none⟩ v3).cell? ⟨b, off + 3, none⟩ = some (.slice a0 l0 c0)) ∧ (((((u.setCell ⟨w.heap.size, 0, none⟩ v0).setCell ⟨w.heap.size, 1, none⟩ v1).setCell ⟨w.heap.size, 2, none⟩ v2).setCell ⟨w.heap.size, 3, none⟩ v3).cell? ⟨b, off + 4, none⟩ = some (.int .i64 k1) ∧ ((((u.setCell ⟨w.heap.size, 0, none⟩ v0).setCell ⟨w.heap.size, 1, none⟩ v1).setCell ⟨w.heap.size, 2, none⟩ v2).setCell ⟨w.heap.size, 3, none⟩ v3).cell? ⟨b, off + 5, none⟩ = some (.int .i64 n1) ∧ ((((u.setCell ⟨w.heap.size, 0, none⟩ v0).setCell ⟨w.heap.size, 1, none⟩ v1).setCell ⟨w.heap.size, 2, none⟩ v2).setCell ⟨w.heap.size, 3, none⟩ v3).cell? ⟨b, off + 6, none⟩ = some (.string s1) ∧ ((((u.setCell ⟨w.heap.size, 0, none⟩ v0).setCell ⟨w.heap.size, 1, none⟩ v1).setCell ⟨w.heap.size, 2, none⟩ v2).setCell ⟨w.heap.size, 3, none⟩ v3).cell? ⟨b, off + 7, none⟩ = some (.slice a1 l1 c1))) := fun u kk v0 v1 v2 v3 => HS0.out _ ((((((below2 HB.out kk).setCell (p := ⟨w.heap.size, 0, none⟩) (Nat.le_refl _) _).setCell (p := ⟨w.heap.size, 1, none⟩) (Nat.le_refl _) _).setCell (p := ⟨w.heap.size, 2, none⟩) (Nat.le_refl _) _).setCell (p := ⟨w.heap.size, 3, none⟩) (Nat.le_refl _) _))
  go_region_held3 (fun W' => (W'.cell? ⟨b, off, none⟩ = some (.int .i64 k0) ∧ W'.cell? ⟨b, off + 1, none⟩ = some (.int .i64 n0) ∧ W'.cell? ⟨b, off + 2, none⟩ = some (.string s0) ∧ W'.cell? ⟨b, off + 3, none⟩ = some (.slice a0 l0 c0)) ∧ (W'.cell? ⟨b, off + 4, none⟩ = some (.int .i64 k1) ∧ W'.cell? ⟨b, off + 5, none⟩ = some (.int .i64 n1) ∧ W'.cell? ⟨b, off + 6, none⟩ = some (.string s1) ∧ W'.cell? ⟨b, off + 7, none⟩ = some (.slice a1 l1 c1)))
    (first
      | with_reducible exact HS.out _ k2
      | with_reducible exact HS.out _ k1
      | with_reducible exact HS.out _ D0
      | with_reducible exact HST.out _ k2 _ _ _ _
      | with_reducible exact HST.out _ k1 _ _ _ _
      | exact ⟨⟨x0, x1, x2, x3⟩, ⟨z0, z1, z2, z3⟩⟩
      | go_keep)
    (first
      | (go_at_call 46; go_fit (HC.out W.drew (below2 HB.out D0)); rintro e u1 ⟨rfl, h1⟩; have k1 : Below W.heap.size W u1 := D0.trans h1; have hb1 := HRB.out u1 k1; have r0 := cell_of hb1 0; have r1 := cell_of hb1 1; have r2 := cell_of hb1 2; have r3 := cell_of hb1 3; have f0 := free_of hb1 0; have f1 := free_of hb1 1; have f2 := free_of hb1 2; have f3 := free_of hb1 3; simp at r0 r1 r2 r3; have hsz1 : w.heap.size < u1.heap.size := lt_block' hb1))
  all_goals
    go_wp2_with fail
    have eP : ∀ X : World, (((X.setCell ⟨w.heap.size, 0, none⟩ (.int .i64 q1)).setCell ⟨w.heap.size, 1, none⟩ (.int .i64 q2)).setCell ⟨w.heap.size, 2, none⟩ (.string ⟨#[]⟩)).setCell ⟨w.heap.size, 3, none⟩ (.slice none 0 0) = putL X (w.heap.size) 0 [.int .i64 q1, .int .i64 q2, .string ⟨#[]⟩, .slice none 0 0] := fun _ => rfl
    rw [eP]
    have E := box4 (HRB.out u1 k1) rfl (.int .i64 q1) (.int .i64 q2) (.string ⟨#[]⟩) (.slice none 0 0)
    have hbb : Below w.heap.size w (putL u1 (w.heap.size) 0 [.int .i64 q1, .int .i64 q2, .string ⟨#[]⟩, .slice none 0 0]) := (below2 HB.out k1).trans ((putL_bel (w.heap.size) _ _ u1).mono (Nat.le_refl _))
    have hoth : ∀ j, j ≠ w.heap.size → (putL u1 (w.heap.size) 0 [.int .i64 q1, .int .i64 q2, .string ⟨#[]⟩, .slice none 0 0]).heap[j]? = u1.heap[j]? := fun j hj => putL_other _ _ _ _ j hj
    have hsz : (putL u1 (w.heap.size) 0 [.int .i64 q1, .int .i64 q2, .string ⟨#[]⟩, .slice none 0 0]).heap.size = u1.heap.size := putL_size _ _ _ _
    generalize putL u1 (w.heap.size) 0 [.int .i64 q1, .int .i64 q2, .string ⟨#[]⟩, .slice none 0 0] = Y at E hbb hoth hsz ⊢
    have t0 := cell_of E 0
    have t1 := cell_of E 1
    have t2 := cell_of E 2
    have t3 := cell_of E 3
    simp at t0 t1 t2 t3
    exact bodyPost_ret (v := .agg #[.int .i64 q1, .int .i64 q2, .string ⟨#[]⟩, .slice none 0 0]) (by simp [results, Tryz.results45, go_sem, t0, t1, t2, t3]) rfl ⟨VEnd.flat _ _ _ (by decide), hbb⟩

set_option maxHeartbeats 4000000 in
set_option maxRecDepth 100000 in
theorem less2_any (A : Nat → Prop) (L : List T) (a : Option Addr) (l c : Nat) (w : World) (hL : LieA A w L a l) (hl : l = 2) (hwt : ∀ t ∈ L, wtT t ≤ 1099511627000) : Calls Tryz.prog 47 #[.slice a l c] w fun e w' => VEnd A w w' (on2 lessF L) e ∧ Below w.heap.size w w' := by
  have hlen := hL.len.1
  obtain ⟨b, off, k0, n0, s0, L0, a0, l0, c0, ha, hAb, hbl, hd0, x0, x1, x2, x3, hlc0, hs0, hL0⟩ := hL.at (i := 0) (by omega)
  obtain ⟨b', off', k1, n1, s1, L1, a1, l1, c1, ha', -, -, hd1, z0, z1, z2, z3, hlc1, hs1, hL1⟩ := hL.at (i := 1) (by omega)
  subst ha
  injection ha' with ha'
  injection ha' with e1 e2
  subst e1 e2
  rw [Nat.zero_mul, Nat.add_zero] at x0 x1 x2 x3
  rw [Nat.one_mul] at z0 z1 z2 z3
  have hLL : L = .node k0 n0 s0 L0 :: .node k1 n1 s1 L1 :: L.drop 2 := by
    have e0 : L = .node k0 n0 s0 L0 :: L.drop 1 := by simpa using hd0
    rw [hd1] at e0
    exact e0
  have hw0 := hwt (.node k0 n0 s0 L0) (by rw [hLL]; simp)
  obtain ⟨q1, hq1⟩ : ∃ z, z = (lessK (.node k0 n0 s0 L0) (.node k1 n1 s1 L1)).1 := ⟨_, rfl⟩
  obtain ⟨q2, hq2⟩ : ∃ z, z = (lessK (.node k0 n0 s0 L0) (.node k1 n1 s1 L1)).2 := ⟨_, rfl⟩
  have HC : Hid (∀ W, Below w.heap.size w W → Calls Tryz.prog 48 #[vC k0 n0 s0 a0 l0 c0, vC k1 n1 s1 a1 l1 c1] W fun e w' => e = .returned (vC q1 q2 ⟨#[]⟩ none 0 0) ∧ Below W.heap.size W w') := fun W kk => by
    have := less_any k0 n0 s0 a0 l0 c0 k1 n1 s1 a1 l1 c1 L0 L1 W (LieA.lies _ _ _ (hL0.below kk)) (LieA.lies _ _ _ (hL1.below kk)) hlc0 hlc1 (by unfold wtT at hw0; omega)
    rw [← hq1, ← hq2] at this
    exact this
  have e1 : on2 lessF L = .node (lessK (.node k0 n0 s0 L0) (.node k1 n1 s1 L1)).1 (lessK (.node k0 n0 s0 L0) (.node k1 n1 s1 L1)).2 ⟨#[]⟩ [] := by rw [hLL]; rfl
  rw [e1, ← hq1, ← hq2]
  clear e1 hq1 hq2 hw0 hwt
  have hy := alloc_new w (.cells #[.int .i64 0, .int .i64 0, .string ⟨#[]⟩, .slice none 0 0] 24)
  have hz : (w.alloc (.cells #[.int .i64 0, .int .i64 0, .string ⟨#[]⟩, .slice none 0 0] 24)).heap.size = w.heap.size + 1 := by simp
  have hb0 : Below w.heap.size w (w.alloc (.cells #[.int .i64 0, .int .i64 0, .string ⟨#[]⟩, .slice none 0 0] 24)) := (Below.refl _ _).alloc (Nat.le_refl _) _
  have HY := toHid hy
  have HZ := toHid hz
  have HB := toHid hb0
  have HS0 : Hid (∀ W', Below w.heap.size w W' → (W'.cell? ⟨b, off, none⟩ = some (.int .i64 k0) ∧ W'.cell? ⟨b, off + 1, none⟩ = some (.int .i64 n0) ∧ W'.cell? ⟨b, off + 2, none⟩ = some (.string s0) ∧ W'.cell? ⟨b, off + 3, none⟩ = some (.slice a0 l0 c0)) ∧ (W'.cell? ⟨b, off + 4, none⟩ = some (.int .i64 k1) ∧ W'.cell? ⟨b, off + 5, none⟩ = some (.int .i64 n1) ∧ W'.cell? ⟨b, off + 6, none⟩ = some (.string s1) ∧ W'.cell? ⟨b, off + 7, none⟩ = some (.slice a1 l1 c1))) := fun W' kk => by
    have q : ∀ o, W'.cell? ⟨b, o, none⟩ = w.cell? ⟨b, o, none⟩ := fun o => kk.cell (p := ⟨b, o, none⟩) hbl
    exact ⟨⟨(q _).trans x0, (q _).trans x1, (q _).trans x2, (q _).trans x3⟩, ⟨(q _).trans z0, (q _).trans z1, (q _).trans z2, (q _).trans z3⟩⟩
  clear x0 x1 x2 x3 z0 z1 z2 z3 hd0 hd1 hL0 hL1 hL hLL hlen hy hz hb0 hlc0 hlc1
  subst hl
  go_enter Tryz.func47, Tryz.ntmps47
  go_upto_region 1 with fail
  generalize w.alloc (.cells #[.int .i64 0, .int .i64 0, .string ⟨#[]⟩, .slice none 0 0] 24) = W at HB HY HZ ⊢
  have HS : Hid (∀ W', Below W.heap.size W W' → (W'.cell? ⟨b, off, none⟩ = some (.int .i64 k0) ∧ W'.cell? ⟨b, off + 1, none⟩ = some (.int .i64 n0) ∧ W'.cell? ⟨b, off + 2, none⟩ = some (.string s0) ∧ W'.cell? ⟨b, off + 3, none⟩ = some (.slice a0 l0 c0)) ∧ (W'.cell? ⟨b, off + 4, none⟩ = some (.int .i64 k1) ∧ W'.cell? ⟨b, off + 5, none⟩ = some (.int .i64 n1) ∧ W'.cell? ⟨b, off + 6, none⟩ = some (.string s1) ∧ W'.cell? ⟨b, off + 7, none⟩ = some (.slice a1 l1 c1))) := fun W' kk => HS0.out W' (below2 HB.out kk)
  have D0 : Below W.heap.size W W.drew := (Below.refl _ _).drew
  obtain ⟨⟨x0, x1, x2, x3⟩, ⟨z0, z1, z2, z3⟩⟩ := HS.out W (Below.refl _ _)
  have hbW : b < W.heap.size := by rw [HZ.out]; omega
  have HRB : Hid (∀ u, Below W.heap.size W u → u.heap[w.heap.size]? = some (.cells #[.int .i64 0, .int .i64 0, .string ⟨#[]⟩, .slice none 0 0] 24 (0, 0))) := fun u k => (k.block w.heap.size (by rw [HZ.out]; omega)).trans HY.out
  have HST : Hid (∀ u, Below W.heap.size W u → ∀ v0 v1 v2 v3 : Value, (((((u.setCell ⟨w.heap.size, 0, none⟩ v0).setCell ⟨w.heap.size, 1, none⟩ v1).setCell ⟨w.heap.size, 2, none⟩ v2).setCell ⟨w.heap.size, 3, none⟩ v3).cell? ⟨b, off, none⟩ = some (.int .i64 k0) ∧ ((((u.setCell ⟨w.heap.size, 0, none⟩ v0).setCell ⟨w.heap.size, 1, none⟩ v1).setCell ⟨w.heap.size, 2, none⟩ v2).setCell ⟨w.heap.size, 3, none⟩ v3).cell? ⟨b, off + 1, none⟩ = some (.int .i64 n0) ∧ ((((u.setCell ⟨w.heap.size, 0, none⟩ v0).setCell ⟨w.heap.size, 1, none⟩ v1).setCell ⟨w.heap.size, 2, none⟩ v2).setCell ⟨w.heap.size, 3, none⟩ v3).cell? ⟨b, off + 2, none⟩ = some (.string s0) ∧ ((((u.setCell ⟨w.heap.size, 0, none⟩ v0).setCell ⟨w.heap.size, 1, none⟩ v1).setCell ⟨w.heap.size, 2, none⟩ v2).setCell ⟨w.heap.size, 3, none⟩ v3).cell? ⟨b, off + 3, none⟩ = some (.slice a0 l0 c0)) ∧ (((((u.setCell ⟨w.heap.size, 0, none⟩ v0).setCell ⟨w.heap.size, 1, none⟩ v1).setCell ⟨w.heap.size, 2, none⟩ v2).setCell ⟨w.heap.size, 3, none⟩ v3).cell? ⟨b, off + 4, none⟩ = some (.int .i64 k1) ∧ ((((u.setCell ⟨w.heap.size, 0, none⟩ v0).setCell ⟨w.heap.size, 1, none⟩ v1).setCell ⟨w.heap.size, 2, none⟩ v2).setCell ⟨w.heap.size, 3, none⟩ v3).cell? ⟨b, off + 5, none⟩ = some (.int .i64 n1) ∧ ((((u.setCell ⟨w.heap.size, 0, none⟩ v0).setCell ⟨w.heap.size, 1, none⟩ v1).setCell ⟨w.heap.size, 2, none⟩ v2).setCell ⟨w.heap.size, 3, none⟩ v3).cell? ⟨b, off + 6, none⟩ = some (.string s1) ∧ ((((u.setCell ⟨w.heap.size, 0, none⟩ v0).setCell ⟨w.heap.size, 1, none⟩ v1).setCell ⟨w.heap.size, 2, none⟩ v2).setCell ⟨w.heap.size, 3, none⟩ v3).cell? ⟨b, off + 7, none⟩ = some (.slice a1 l1 c1))) := fun u kk v0 v1 v2 v3 => HS0.out _ ((((((below2 HB.out kk).setCell (p := ⟨w.heap.size, 0, none⟩) (Nat.le_refl _) _).setCell (p := ⟨w.heap.size, 1, none⟩) (Nat.le_refl _) _).setCell (p := ⟨w.heap.size, 2, none⟩) (Nat.le_refl _) _).setCell (p := ⟨w.heap.size, 3, none⟩) (Nat.le_refl _) _))
  go_region_held3 (fun W' => (W'.cell? ⟨b, off, none⟩ = some (.int .i64 k0) ∧ W'.cell? ⟨b, off + 1, none⟩ = some (.int .i64 n0) ∧ W'.cell? ⟨b, off + 2, none⟩ = some (.string s0) ∧ W'.cell? ⟨b, off + 3, none⟩ = some (.slice a0 l0 c0)) ∧ (W'.cell? ⟨b, off + 4, none⟩ = some (.int .i64 k1) ∧ W'.cell? ⟨b, off + 5, none⟩ = some (.int .i64 n1) ∧ W'.cell? ⟨b, off + 6, none⟩ = some (.string s1) ∧ W'.cell? ⟨b, off + 7, none⟩ = some (.slice a1 l1 c1)))
    (first
      | with_reducible exact HS.out _ k2
      | with_reducible exact HS.out _ k1
      | with_reducible exact HS.out _ D0
      | with_reducible exact HST.out _ k2 _ _ _ _
      | with_reducible exact HST.out _ k1 _ _ _ _
      | exact ⟨⟨x0, x1, x2, x3⟩, ⟨z0, z1, z2, z3⟩⟩
      | go_keep)
    (first
      | (go_at_call 48; go_fit (HC.out W.drew (below2 HB.out D0)); rintro e u1 ⟨rfl, h1⟩; have k1 : Below W.heap.size W u1 := D0.trans h1; have hb1 := HRB.out u1 k1; have r0 := cell_of hb1 0; have r1 := cell_of hb1 1; have r2 := cell_of hb1 2; have r3 := cell_of hb1 3; have f0 := free_of hb1 0; have f1 := free_of hb1 1; have f2 := free_of hb1 2; have f3 := free_of hb1 3; simp at r0 r1 r2 r3; have hsz1 : w.heap.size < u1.heap.size := lt_block' hb1))
  all_goals
    go_wp2_with fail
    have eP : ∀ X : World, (((X.setCell ⟨w.heap.size, 0, none⟩ (.int .i64 q1)).setCell ⟨w.heap.size, 1, none⟩ (.int .i64 q2)).setCell ⟨w.heap.size, 2, none⟩ (.string ⟨#[]⟩)).setCell ⟨w.heap.size, 3, none⟩ (.slice none 0 0) = putL X (w.heap.size) 0 [.int .i64 q1, .int .i64 q2, .string ⟨#[]⟩, .slice none 0 0] := fun _ => rfl
    rw [eP]
    have E := box4 (HRB.out u1 k1) rfl (.int .i64 q1) (.int .i64 q2) (.string ⟨#[]⟩) (.slice none 0 0)
    have hbb : Below w.heap.size w (putL u1 (w.heap.size) 0 [.int .i64 q1, .int .i64 q2, .string ⟨#[]⟩, .slice none 0 0]) := (below2 HB.out k1).trans ((putL_bel (w.heap.size) _ _ u1).mono (Nat.le_refl _))
    have hoth : ∀ j, j ≠ w.heap.size → (putL u1 (w.heap.size) 0 [.int .i64 q1, .int .i64 q2, .string ⟨#[]⟩, .slice none 0 0]).heap[j]? = u1.heap[j]? := fun j hj => putL_other _ _ _ _ j hj
    have hsz : (putL u1 (w.heap.size) 0 [.int .i64 q1, .int .i64 q2, .string ⟨#[]⟩, .slice none 0 0]).heap.size = u1.heap.size := putL_size _ _ _ _
    generalize putL u1 (w.heap.size) 0 [.int .i64 q1, .int .i64 q2, .string ⟨#[]⟩, .slice none 0 0] = Y at E hbb hoth hsz ⊢
    have t0 := cell_of E 0
    have t1 := cell_of E 1
    have t2 := cell_of E 2
    have t3 := cell_of E 3
    simp at t0 t1 t2 t3
    exact bodyPost_ret (v := .agg #[.int .i64 q1, .int .i64 q2, .string ⟨#[]⟩, .slice none 0 0]) (by simp [results, Tryz.results47, go_sem, t0, t1, t2, t3]) rfl ⟨VEnd.flat _ _ _ (by decide), hbb⟩

set_option maxHeartbeats 4000000 in
set_option maxRecDepth 100000 in
theorem least2_any (A : Nat → Prop) (L : List T) (a : Option Addr) (l c : Nat) (w : World) (hL : LieA A w L a l) (hl : l = 2) (hwt : ∀ t ∈ L, wtT t ≤ 1099511627000) : Calls Tryz.prog 49 #[.slice a l c] w fun e w' => VEnd A w w' (on2 (fun x y => turnF (lessF y x)) L) e ∧ Below w.heap.size w w' := by
  have hlen := hL.len.1
  obtain ⟨b, off, k0, n0, s0, L0, a0, l0, c0, ha, hAb, hbl, hd0, x0, x1, x2, x3, hlc0, hs0, hL0⟩ := hL.at (i := 0) (by omega)
  obtain ⟨b', off', k1, n1, s1, L1, a1, l1, c1, ha', -, -, hd1, z0, z1, z2, z3, hlc1, hs1, hL1⟩ := hL.at (i := 1) (by omega)
  subst ha
  injection ha' with ha'
  injection ha' with e1 e2
  subst e1 e2
  rw [Nat.zero_mul, Nat.add_zero] at x0 x1 x2 x3
  rw [Nat.one_mul] at z0 z1 z2 z3
  have hLL : L = .node k0 n0 s0 L0 :: .node k1 n1 s1 L1 :: L.drop 2 := by
    have e0 : L = .node k0 n0 s0 L0 :: L.drop 1 := by simpa using hd0
    rw [hd1] at e0
    exact e0
  have hw0 := hwt (.node k1 n1 s1 L1) (by rw [hLL]; simp)
  obtain ⟨q1, hq1⟩ : ∃ z, z = (lessK (.node k1 n1 s1 L1) (.node k0 n0 s0 L0)).1 := ⟨_, rfl⟩
  obtain ⟨q2, hq2⟩ : ∃ z, z = (lessK (.node k1 n1 s1 L1) (.node k0 n0 s0 L0)).2 := ⟨_, rfl⟩
  have HC : Hid (∀ W, Below w.heap.size w W → Calls Tryz.prog 48 #[vC k1 n1 s1 a1 l1 c1, vC k0 n0 s0 a0 l0 c0] W fun e w' => e = .returned (vC q1 q2 ⟨#[]⟩ none 0 0) ∧ Below W.heap.size W w') := fun W kk => by
    have := less_any k1 n1 s1 a1 l1 c1 k0 n0 s0 a0 l0 c0 L1 L0 W (LieA.lies _ _ _ (hL1.below kk)) (LieA.lies _ _ _ (hL0.below kk)) hlc1 hlc0 (by unfold wtT at hw0; omega)
    rw [← hq1, ← hq2] at this
    exact this
  have e1 : on2 (fun x y => turnF (lessF y x)) L = .node (turnK q1 q2).1 (turnK q1 q2).2 ⟨#[]⟩ [] := by
    rw [hq1, hq2, hLL]
    exact turnF_eq _ _ ⟨#[]⟩ []
  obtain ⟨q3, hq3⟩ : ∃ z, z = (turnK q1 q2).1 := ⟨_, rfl⟩
  obtain ⟨q4, hq4⟩ : ∃ z, z = (turnK q1 q2).2 := ⟨_, rfl⟩
  rw [e1, ← hq3, ← hq4]
  have HT : Hid (∀ W, Calls Tryz.prog 50 #[vC q1 q2 ⟨#[]⟩ none 0 0] W fun e w' => e = .returned (vC q3 q4 ⟨#[]⟩ none 0 0) ∧ Below W.heap.size W w') := fun W => by rw [hq3, hq4]; exact turned_any q1 q2 _ none 0 0 W
  clear e1 hq1 hq2 hq3 hq4 hw0 hwt
  have hy := alloc_new w (.cells #[.int .i64 0, .int .i64 0, .string ⟨#[]⟩, .slice none 0 0] 24)
  have hz : (w.alloc (.cells #[.int .i64 0, .int .i64 0, .string ⟨#[]⟩, .slice none 0 0] 24)).heap.size = w.heap.size + 1 := by simp
  have hb0 : Below w.heap.size w (w.alloc (.cells #[.int .i64 0, .int .i64 0, .string ⟨#[]⟩, .slice none 0 0] 24)) := (Below.refl _ _).alloc (Nat.le_refl _) _
  have HY := toHid hy
  have HZ := toHid hz
  have HB := toHid hb0
  have HS0 : Hid (∀ W', Below w.heap.size w W' → (W'.cell? ⟨b, off, none⟩ = some (.int .i64 k0) ∧ W'.cell? ⟨b, off + 1, none⟩ = some (.int .i64 n0) ∧ W'.cell? ⟨b, off + 2, none⟩ = some (.string s0) ∧ W'.cell? ⟨b, off + 3, none⟩ = some (.slice a0 l0 c0)) ∧ (W'.cell? ⟨b, off + 4, none⟩ = some (.int .i64 k1) ∧ W'.cell? ⟨b, off + 5, none⟩ = some (.int .i64 n1) ∧ W'.cell? ⟨b, off + 6, none⟩ = some (.string s1) ∧ W'.cell? ⟨b, off + 7, none⟩ = some (.slice a1 l1 c1))) := fun W' kk => by
    have q : ∀ o, W'.cell? ⟨b, o, none⟩ = w.cell? ⟨b, o, none⟩ := fun o => kk.cell (p := ⟨b, o, none⟩) hbl
    exact ⟨⟨(q _).trans x0, (q _).trans x1, (q _).trans x2, (q _).trans x3⟩, ⟨(q _).trans z0, (q _).trans z1, (q _).trans z2, (q _).trans z3⟩⟩
  clear x0 x1 x2 x3 z0 z1 z2 z3 hd0 hd1 hL0 hL1 hL hLL hlen hy hz hb0 hlc0 hlc1
  subst hl
  go_enter Tryz.func49, Tryz.ntmps49
  go_upto_region 1 with fail
  generalize w.alloc (.cells #[.int .i64 0, .int .i64 0, .string ⟨#[]⟩, .slice none 0 0] 24) = W at HB HY HZ ⊢
  have HS : Hid (∀ W', Below W.heap.size W W' → (W'.cell? ⟨b, off, none⟩ = some (.int .i64 k0) ∧ W'.cell? ⟨b, off + 1, none⟩ = some (.int .i64 n0) ∧ W'.cell? ⟨b, off + 2, none⟩ = some (.string s0) ∧ W'.cell? ⟨b, off + 3, none⟩ = some (.slice a0 l0 c0)) ∧ (W'.cell? ⟨b, off + 4, none⟩ = some (.int .i64 k1) ∧ W'.cell? ⟨b, off + 5, none⟩ = some (.int .i64 n1) ∧ W'.cell? ⟨b, off + 6, none⟩ = some (.string s1) ∧ W'.cell? ⟨b, off + 7, none⟩ = some (.slice a1 l1 c1))) := fun W' kk => HS0.out W' (below2 HB.out kk)
  have D0 : Below W.heap.size W W.drew := (Below.refl _ _).drew
  obtain ⟨⟨x0, x1, x2, x3⟩, ⟨z0, z1, z2, z3⟩⟩ := HS.out W (Below.refl _ _)
  have hbW : b < W.heap.size := by rw [HZ.out]; omega
  have HRB : Hid (∀ u, Below W.heap.size W u → u.heap[w.heap.size]? = some (.cells #[.int .i64 0, .int .i64 0, .string ⟨#[]⟩, .slice none 0 0] 24 (0, 0))) := fun u k => (k.block w.heap.size (by rw [HZ.out]; omega)).trans HY.out
  have HST : Hid (∀ u, Below W.heap.size W u → ∀ v0 v1 v2 v3 : Value, (((((u.setCell ⟨w.heap.size, 0, none⟩ v0).setCell ⟨w.heap.size, 1, none⟩ v1).setCell ⟨w.heap.size, 2, none⟩ v2).setCell ⟨w.heap.size, 3, none⟩ v3).cell? ⟨b, off, none⟩ = some (.int .i64 k0) ∧ ((((u.setCell ⟨w.heap.size, 0, none⟩ v0).setCell ⟨w.heap.size, 1, none⟩ v1).setCell ⟨w.heap.size, 2, none⟩ v2).setCell ⟨w.heap.size, 3, none⟩ v3).cell? ⟨b, off + 1, none⟩ = some (.int .i64 n0) ∧ ((((u.setCell ⟨w.heap.size, 0, none⟩ v0).setCell ⟨w.heap.size, 1, none⟩ v1).setCell ⟨w.heap.size, 2, none⟩ v2).setCell ⟨w.heap.size, 3, none⟩ v3).cell? ⟨b, off + 2, none⟩ = some (.string s0) ∧ ((((u.setCell ⟨w.heap.size, 0, none⟩ v0).setCell ⟨w.heap.size, 1, none⟩ v1).setCell ⟨w.heap.size, 2, none⟩ v2).setCell ⟨w.heap.size, 3, none⟩ v3).cell? ⟨b, off + 3, none⟩ = some (.slice a0 l0 c0)) ∧ (((((u.setCell ⟨w.heap.size, 0, none⟩ v0).setCell ⟨w.heap.size, 1, none⟩ v1).setCell ⟨w.heap.size, 2, none⟩ v2).setCell ⟨w.heap.size, 3, none⟩ v3).cell? ⟨b, off + 4, none⟩ = some (.int .i64 k1) ∧ ((((u.setCell ⟨w.heap.size, 0, none⟩ v0).setCell ⟨w.heap.size, 1, none⟩ v1).setCell ⟨w.heap.size, 2, none⟩ v2).setCell ⟨w.heap.size, 3, none⟩ v3).cell? ⟨b, off + 5, none⟩ = some (.int .i64 n1) ∧ ((((u.setCell ⟨w.heap.size, 0, none⟩ v0).setCell ⟨w.heap.size, 1, none⟩ v1).setCell ⟨w.heap.size, 2, none⟩ v2).setCell ⟨w.heap.size, 3, none⟩ v3).cell? ⟨b, off + 6, none⟩ = some (.string s1) ∧ ((((u.setCell ⟨w.heap.size, 0, none⟩ v0).setCell ⟨w.heap.size, 1, none⟩ v1).setCell ⟨w.heap.size, 2, none⟩ v2).setCell ⟨w.heap.size, 3, none⟩ v3).cell? ⟨b, off + 7, none⟩ = some (.slice a1 l1 c1))) := fun u kk v0 v1 v2 v3 => HS0.out _ ((((((below2 HB.out kk).setCell (p := ⟨w.heap.size, 0, none⟩) (Nat.le_refl _) _).setCell (p := ⟨w.heap.size, 1, none⟩) (Nat.le_refl _) _).setCell (p := ⟨w.heap.size, 2, none⟩) (Nat.le_refl _) _).setCell (p := ⟨w.heap.size, 3, none⟩) (Nat.le_refl _) _))
  go_region_held3 (fun W' => (W'.cell? ⟨b, off, none⟩ = some (.int .i64 k0) ∧ W'.cell? ⟨b, off + 1, none⟩ = some (.int .i64 n0) ∧ W'.cell? ⟨b, off + 2, none⟩ = some (.string s0) ∧ W'.cell? ⟨b, off + 3, none⟩ = some (.slice a0 l0 c0)) ∧ (W'.cell? ⟨b, off + 4, none⟩ = some (.int .i64 k1) ∧ W'.cell? ⟨b, off + 5, none⟩ = some (.int .i64 n1) ∧ W'.cell? ⟨b, off + 6, none⟩ = some (.string s1) ∧ W'.cell? ⟨b, off + 7, none⟩ = some (.slice a1 l1 c1)))
    (first
      | with_reducible exact HS.out _ k2
      | with_reducible exact HS.out _ k1
      | with_reducible exact HS.out _ D0
      | with_reducible exact HST.out _ k2 _ _ _ _
      | with_reducible exact HST.out _ k1 _ _ _ _
      | exact ⟨⟨x0, x1, x2, x3⟩, ⟨z0, z1, z2, z3⟩⟩
      | go_keep)
    (first
      | (go_at_call 50; go_fit (HT.out u1); rintro e u2 ⟨rfl, h2⟩; have k2 : Below W.heap.size W u2 := k1.trans (h2.mono k1.size); have hb1 := HRB.out u2 k2; have r0 := cell_of hb1 0; have r1 := cell_of hb1 1; have r2 := cell_of hb1 2; have r3 := cell_of hb1 3; have f0 := free_of hb1 0; have f1 := free_of hb1 1; have f2 := free_of hb1 2; have f3 := free_of hb1 3; simp at r0 r1 r2 r3; have hsz1 : w.heap.size < u2.heap.size := lt_block' hb1)
      | (go_at_call 48; go_fit (HC.out W.drew (below2 HB.out D0)); rintro e u1 ⟨rfl, h1⟩; have k1 : Below W.heap.size W u1 := D0.trans h1))
  all_goals
    go_wp2_with fail
    have eP : ∀ X : World, (((X.setCell ⟨w.heap.size, 0, none⟩ (.int .i64 q3)).setCell ⟨w.heap.size, 1, none⟩ (.int .i64 q4)).setCell ⟨w.heap.size, 2, none⟩ (.string ⟨#[]⟩)).setCell ⟨w.heap.size, 3, none⟩ (.slice none 0 0) = putL X (w.heap.size) 0 [.int .i64 q3, .int .i64 q4, .string ⟨#[]⟩, .slice none 0 0] := fun _ => rfl
    rw [eP]
    have E := box4 (HRB.out u2 k2) rfl (.int .i64 q3) (.int .i64 q4) (.string ⟨#[]⟩) (.slice none 0 0)
    have hbb : Below w.heap.size w (putL u2 (w.heap.size) 0 [.int .i64 q3, .int .i64 q4, .string ⟨#[]⟩, .slice none 0 0]) := (below2 HB.out k2).trans ((putL_bel (w.heap.size) _ _ u2).mono (Nat.le_refl _))
    have hoth : ∀ j, j ≠ w.heap.size → (putL u2 (w.heap.size) 0 [.int .i64 q3, .int .i64 q4, .string ⟨#[]⟩, .slice none 0 0]).heap[j]? = u2.heap[j]? := fun j hj => putL_other _ _ _ _ j hj
    have hsz : (putL u2 (w.heap.size) 0 [.int .i64 q3, .int .i64 q4, .string ⟨#[]⟩, .slice none 0 0]).heap.size = u2.heap.size := putL_size _ _ _ _
    generalize putL u2 (w.heap.size) 0 [.int .i64 q3, .int .i64 q4, .string ⟨#[]⟩, .slice none 0 0] = Y at E hbb hoth hsz ⊢
    have t0 := cell_of E 0
    have t1 := cell_of E 1
    have t2 := cell_of E 2
    have t3 := cell_of E 3
    simp at t0 t1 t2 t3
    exact bodyPost_ret (v := .agg #[.int .i64 q3, .int .i64 q4, .string ⟨#[]⟩, .slice none 0 0]) (by simp [results, Tryz.results49, go_sem, t0, t1, t2, t3]) rfl ⟨VEnd.flat _ _ _ (by decide), hbb⟩
end Go.Proofs.YtbfhapmnnckkaaaGreatDoor
