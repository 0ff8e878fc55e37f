/-
  What is proved here: what the calls not, null and id answer of a row of values.
-/
import Derived.Test.YtfjlpjemccllaaaDoorQTAI
namespace Go.Proofs.YtfjlpjemccllaaaDoor
open Go.RowKit
set_option linter.unusedVariables false

def hdT : List T → T
  | [] => tNull
  | t :: _ => t

set_option maxHeartbeats 4000000 in
set_option maxRecDepth 100000 in
theorem not_any (A : Nat → Prop) (L : List T) (a : Option Addr) (l c : Nat) (w : World) (hL : LieA A w L a l) (hl : l = 1) : Calls Tryd.prog 34 #[.slice a l c] w fun e w' => VEnd A w w' (turnF (hdT L)) e ∧ Below w.heap.size w w' := by
  obtain ⟨b, off, k, n, s, Lt, a1, l1, c1, rfl, hAb, hbl, hd, x0, x1, x2, x3, hlc, hss, hLt⟩ := hL.at (i := 0) (by omega)
  rw [Nat.zero_mul, Nat.add_zero] at x0 x1 x2 x3
  have hlen := hL.len.1
  have hL1 : L = .node k n s Lt :: L.drop 1 := by simpa using hd
  have e1 : turnF (hdT L) = .node (turnK k n).1 (turnK k n).2 ⟨#[]⟩ [] := by rw [hL1]; exact turnF_eq k n s Lt
  obtain ⟨z1, hz1⟩ : ∃ z, z = (turnK k n).1 := ⟨_, rfl⟩
  obtain ⟨z2, hz2⟩ : ∃ z, z = (turnK k n).2 := ⟨_, rfl⟩
  rw [e1, ← hz1, ← hz2]
  have HC : Hid (∀ W, Calls Tryd.prog 33 #[vC k n s a1 l1 c1] W fun e w' => e = .returned (vC z1 z2 ⟨#[]⟩ none 0 0) ∧ Below W.heap.size W w') := fun W => by rw [hz1, hz2]; exact turned_any k n s a1 l1 c1 W
  have hy := alloc_new w (.cells #[.int .i64 0, .int .i64 0, .string ⟨#[]⟩, .slice none 0 0] 30)
  have hz : (w.alloc (.cells #[.int .i64 0, .int .i64 0, .string ⟨#[]⟩, .slice none 0 0] 30)).heap.size = w.heap.size + 1 := by simp
  have hb0 : Below w.heap.size w (w.alloc (.cells #[.int .i64 0, .int .i64 0, .string ⟨#[]⟩, .slice none 0 0] 30)) := (Below.refl _ _).alloc (Nat.le_refl _) _
  have hq : ∀ o, (w.alloc (.cells #[.int .i64 0, .int .i64 0, .string ⟨#[]⟩, .slice none 0 0] 30)).cell? ⟨b, o, none⟩ = w.cell? ⟨b, o, none⟩ := fun o => hb0.cell (p := ⟨b, o, none⟩) hbl
  have y0 : (w.alloc (.cells #[.int .i64 0, .int .i64 0, .string ⟨#[]⟩, .slice none 0 0] 30)).cell? ⟨b, off, none⟩ = _ := (hq _).trans x0
  have y1 : (w.alloc (.cells #[.int .i64 0, .int .i64 0, .string ⟨#[]⟩, .slice none 0 0] 30)).cell? ⟨b, off + 1, none⟩ = _ := (hq _).trans x1
  have y2 : (w.alloc (.cells #[.int .i64 0, .int .i64 0, .string ⟨#[]⟩, .slice none 0 0] 30)).cell? ⟨b, off + 2, none⟩ = _ := (hq _).trans x2
  have y3 : (w.alloc (.cells #[.int .i64 0, .int .i64 0, .string ⟨#[]⟩, .slice none 0 0] 30)).cell? ⟨b, off + 3, none⟩ = _ := (hq _).trans x3
  have hbl2 : b < (w.alloc (.cells #[.int .i64 0, .int .i64 0, .string ⟨#[]⟩, .slice none 0 0] 30)).heap.size := by rw [hz]; omega
  have HY := toHid hy
  have HZ := toHid hz
  have HB := toHid hb0
  clear x0 x1 x2 x3 hq hL1 hd hLt hL e1 hz1 hz2 hlen hy hz hb0
  subst hl
  go_enter Tryd.func34, Tryd.ntmps34
  go_wp2_with fail
  refine (HC.out _).mono ?_
  generalize w.alloc (.cells #[.int .i64 0, .int .i64 0, .string ⟨#[]⟩, .slice none 0 0] 30) = W at HB HY HZ y0 y1 y2 y3 hbl2 ⊢
  rintro e w1 ⟨rfl, k1⟩
  have hb1 := (k1.block w.heap.size (by rw [HZ.out]; omega)).trans HY.out
  have h0 := cell_of hb1 0
  have h1 := cell_of hb1 1
  have h2 := cell_of hb1 2
  have h3 := cell_of hb1 3
  have fh0 := free_of hb1 0
  have fh1 := free_of hb1 1
  have fh2 := free_of hb1 2
  have fh3 := free_of hb1 3
  simp at h0 h1 h2 h3
  have hs1 : w.heap.size < w1.heap.size := by have := k1.size; rw [HZ.out] at this; omega
  have HW1 := toHid (below2 HB.out k1)
  have HB1 := toHid hb1
  clear k1 hb1 y0 y1 y2 y3
  go_wp2_with fail
  have eP : ∀ X : World, (((X.setCell ⟨w.heap.size, 0, none⟩ (.int .i64 z1)).setCell ⟨w.heap.size, 1, none⟩ (.int .i64 z2)).setCell ⟨w.heap.size, 2, none⟩ (.string ⟨#[]⟩)).setCell ⟨w.heap.size, 3, none⟩ (.slice none 0 0) = putL X (w.heap.size) 0 [.int .i64 z1, .int .i64 z2, .string ⟨#[]⟩, .slice none 0 0] := fun _ => rfl
  rw [eP]
  have E := box4 HB1.out rfl (.int .i64 z1) (.int .i64 z2) (.string ⟨#[]⟩) (.slice none 0 0)
  have hbb : Below w.heap.size w (putL w1 (w.heap.size) 0 [.int .i64 z1, .int .i64 z2, .string ⟨#[]⟩, .slice none 0 0]) := HW1.out.trans ((putL_bel (w.heap.size) _ _ w1).mono (by omega))
  have hoth : ∀ j, j ≠ w.heap.size → (putL w1 (w.heap.size) 0 [.int .i64 z1, .int .i64 z2, .string ⟨#[]⟩, .slice none 0 0]).heap[j]? = w1.heap[j]? := fun j hj => putL_other _ _ _ _ j hj
  have hsz : (putL w1 (w.heap.size) 0 [.int .i64 z1, .int .i64 z2, .string ⟨#[]⟩, .slice none 0 0]).heap.size = w1.heap.size := putL_size _ _ _ _
  generalize putL w1 (w.heap.size) 0 [.int .i64 z1, .int .i64 z2, .string ⟨#[]⟩, .slice none 0 0] = Y at E hbb hoth hsz ⊢
  have t0 := cell_of E 0
  have t1 := cell_of E 1
  have t2 := cell_of E 2
  have t3 := cell_of E 3
  simp at t0 t1 t2 t3
  exact bodyPost_ret (v := .agg #[.int .i64 z1, .int .i64 z2, .string ⟨#[]⟩, .slice none 0 0]) (by simp [results, Tryd.results34, go_sem, t0, t1, t2, t3]) rfl ⟨VEnd.flat _ _ _ (by decide), hbb⟩

/-- Is it null? -/
def nullF : T → T
  | .node k _ _ _ => tBool (k == 0)

set_option maxHeartbeats 4000000 in
set_option maxRecDepth 100000 in
theorem null_any (A : Nat → Prop) (L : List T) (a : Option Addr) (l c : Nat) (w : World) (hL : LieA A w L a l) (hl : l = 1) : Calls Tryd.prog 37 #[.slice a l c] w fun e w' => VEnd A w w' (nullF (hdT L)) e ∧ Below w.heap.size w w' := by
  obtain ⟨b, off, k, n, s, Lt, a1, l1, c1, rfl, hAb, hbl, hd, x0, x1, x2, x3, hlc, hss, hLt⟩ := hL.at (i := 0) (by omega)
  rw [Nat.zero_mul, Nat.add_zero] at x0 x1 x2 x3
  have hlen := hL.len.1
  have hL1 : L = .node k n s Lt :: L.drop 1 := by simpa using hd
  have e1 : nullF (hdT L) = tBool (k == 0) := by rw [hL1]; rfl
  rw [e1]
  have hy := alloc_new w (.cells #[.int .i64 0, .int .i64 0, .string ⟨#[]⟩, .slice none 0 0] 30)
  have hz : (w.alloc (.cells #[.int .i64 0, .int .i64 0, .string ⟨#[]⟩, .slice none 0 0] 30)).heap.size = w.heap.size + 1 := by simp
  have hb0 : Below w.heap.size w (w.alloc (.cells #[.int .i64 0, .int .i64 0, .string ⟨#[]⟩, .slice none 0 0] 30)) := (Below.refl _ _).alloc (Nat.le_refl _) _
  have hq : ∀ o, (w.alloc (.cells #[.int .i64 0, .int .i64 0, .string ⟨#[]⟩, .slice none 0 0] 30)).cell? ⟨b, o, none⟩ = w.cell? ⟨b, o, none⟩ := fun o => hb0.cell (p := ⟨b, o, none⟩) hbl
  have y0 : (w.alloc (.cells #[.int .i64 0, .int .i64 0, .string ⟨#[]⟩, .slice none 0 0] 30)).cell? ⟨b, off, none⟩ = _ := (hq _).trans x0
  have y1 : (w.alloc (.cells #[.int .i64 0, .int .i64 0, .string ⟨#[]⟩, .slice none 0 0] 30)).cell? ⟨b, off + 1, none⟩ = _ := (hq _).trans x1
  have y2 : (w.alloc (.cells #[.int .i64 0, .int .i64 0, .string ⟨#[]⟩, .slice none 0 0] 30)).cell? ⟨b, off + 2, none⟩ = _ := (hq _).trans x2
  have y3 : (w.alloc (.cells #[.int .i64 0, .int .i64 0, .string ⟨#[]⟩, .slice none 0 0] 30)).cell? ⟨b, off + 3, none⟩ = _ := (hq _).trans x3
  have hbl2 : b < (w.alloc (.cells #[.int .i64 0, .int .i64 0, .string ⟨#[]⟩, .slice none 0 0] 30)).heap.size := by rw [hz]; omega
  have HY := toHid hy
  have HZ := toHid hz
  have HB := toHid hb0
  clear x0 x1 x2 x3 hq hL1 hd hLt hL e1 hlen hy hz hb0
  subst hl
  by_cases hk : k = 0
  · have hk' : (k == 0) = true := by simp [hk]
    rw [hk']
    show Calls _ _ _ _ fun e w_ => VEnd A w w_ (.node 1 1 ⟨#[]⟩ []) e ∧ Below w.heap.size w w_
    go_enter Tryd.func37, Tryd.ntmps37
    go_wp2_with fail
    refine (truth_t _).mono ?_
    generalize w.alloc (.cells #[.int .i64 0, .int .i64 0, .string ⟨#[]⟩, .slice none 0 0] 30) = W at HB HY HZ y0 y1 y2 y3 hbl2 ⊢
    rintro e w1 ⟨rfl, k1⟩
    have hb1 := (k1.block w.heap.size (by rw [HZ.out]; omega)).trans HY.out
    have h0 := cell_of hb1 0
    have h1 := cell_of hb1 1
    have h2 := cell_of hb1 2
    have h3 := cell_of hb1 3
    have fh0 := free_of hb1 0
    have fh1 := free_of hb1 1
    have fh2 := free_of hb1 2
    have fh3 := free_of hb1 3
    simp at h0 h1 h2 h3
    have hs1 : w.heap.size < w1.heap.size := by have := k1.size; rw [HZ.out] at this; omega
    have HW1 := toHid (below2 HB.out k1)
    have HB1 := toHid hb1
    clear k1 hb1 y0 y1 y2 y3
    go_wp2_with fail
    have eP : ∀ X : World, (((X.setCell ⟨w.heap.size, 0, none⟩ (.int .i64 1)).setCell ⟨w.heap.size, 1, none⟩ (.int .i64 1)).setCell ⟨w.heap.size, 2, none⟩ (.string ⟨#[]⟩)).setCell ⟨w.heap.size, 3, none⟩ (.slice none 0 0) = putL X (w.heap.size) 0 [.int .i64 1, .int .i64 1, .string ⟨#[]⟩, .slice none 0 0] := fun _ => rfl
    rw [eP]
    have E := box4 HB1.out rfl (.int .i64 1) (.int .i64 1) (.string ⟨#[]⟩) (.slice none 0 0)
    have hbb : Below w.heap.size w (putL w1 (w.heap.size) 0 [.int .i64 1, .int .i64 1, .string ⟨#[]⟩, .slice none 0 0]) := HW1.out.trans ((putL_bel (w.heap.size) _ _ w1).mono (by omega))
    have hoth : ∀ j, j ≠ w.heap.size → (putL w1 (w.heap.size) 0 [.int .i64 1, .int .i64 1, .string ⟨#[]⟩, .slice none 0 0]).heap[j]? = w1.heap[j]? := fun j hj => putL_other _ _ _ _ j hj
    have hsz : (putL w1 (w.heap.size) 0 [.int .i64 1, .int .i64 1, .string ⟨#[]⟩, .slice none 0 0]).heap.size = w1.heap.size := putL_size _ _ _ _
    generalize putL w1 (w.heap.size) 0 [.int .i64 1, .int .i64 1, .string ⟨#[]⟩, .slice none 0 0] = Y at E hbb hoth hsz ⊢
    have t0 := cell_of E 0
    have t1 := cell_of E 1
    have t2 := cell_of E 2
    have t3 := cell_of E 3
    simp at t0 t1 t2 t3
    exact bodyPost_ret (v := .agg #[.int .i64 1, .int .i64 1, .string ⟨#[]⟩, .slice none 0 0]) (by simp [results, Tryd.results37, go_sem, t0, t1, t2, t3]) rfl ⟨VEnd.flat _ _ _ (by decide), hbb⟩
  · have hk' : (k == 0) = false := by simp [hk]
    rw [hk']
    show Calls _ _ _ _ fun e w_ => VEnd A w w_ (.node 1 0 ⟨#[]⟩ []) e ∧ Below w.heap.size w w_
    go_enter Tryd.func37, Tryd.ntmps37
    go_wp2_with fail
    refine (truth_f _).mono ?_
    generalize w.alloc (.cells #[.int .i64 0, .int .i64 0, .string ⟨#[]⟩, .slice none 0 0] 30) = W at HB HY HZ y0 y1 y2 y3 hbl2 ⊢
    rintro e w1 ⟨rfl, k1⟩
    have hb1 := (k1.block w.heap.size (by rw [HZ.out]; omega)).trans HY.out
    have h0 := cell_of hb1 0
    have h1 := cell_of hb1 1
    have h2 := cell_of hb1 2
    have h3 := cell_of hb1 3
    have fh0 := free_of hb1 0
    have fh1 := free_of hb1 1
    have fh2 := free_of hb1 2
    have fh3 := free_of hb1 3
    simp at h0 h1 h2 h3
    have hs1 : w.heap.size < w1.heap.size := by have := k1.size; rw [HZ.out] at this; omega
    have HW1 := toHid (below2 HB.out k1)
    have HB1 := toHid hb1
    clear k1 hb1 y0 y1 y2 y3
    go_wp2_with fail
    have eP : ∀ X : World, (((X.setCell ⟨w.heap.size, 0, none⟩ (.int .i64 1)).setCell ⟨w.heap.size, 1, none⟩ (.int .i64 0)).setCell ⟨w.heap.size, 2, none⟩ (.string ⟨#[]⟩)).setCell ⟨w.heap.size, 3, none⟩ (.slice none 0 0) = putL X (w.heap.size) 0 [.int .i64 1, .int .i64 0, .string ⟨#[]⟩, .slice none 0 0] := fun _ => rfl
    rw [eP]
    have E := box4 HB1.out rfl (.int .i64 1) (.int .i64 0) (.string ⟨#[]⟩) (.slice none 0 0)
    have hbb : Below w.heap.size w (putL w1 (w.heap.size) 0 [.int .i64 1, .int .i64 0, .string ⟨#[]⟩, .slice none 0 0]) := HW1.out.trans ((putL_bel (w.heap.size) _ _ w1).mono (by omega))
    have hoth : ∀ j, j ≠ w.heap.size → (putL w1 (w.heap.size) 0 [.int .i64 1, .int .i64 0, .string ⟨#[]⟩, .slice none 0 0]).heap[j]? = w1.heap[j]? := fun j hj => putL_other _ _ _ _ j hj
    have hsz : (putL w1 (w.heap.size) 0 [.int .i64 1, .int .i64 0, .string ⟨#[]⟩, .slice none 0 0]).heap.size = w1.heap.size := putL_size _ _ _ _
    generalize putL w1 (w.heap.size) 0 [.int .i64 1, .int .i64 0, .string ⟨#[]⟩, .slice none 0 0] = Y at E hbb hoth hsz ⊢
    have t0 := cell_of E 0
    have t1 := cell_of E 1
    have t2 := cell_of E 2
    have t3 := cell_of E 3
    simp at t0 t1 t2 t3
    exact bodyPost_ret (v := .agg #[.int .i64 1, .int .i64 0, .string ⟨#[]⟩, .slice none 0 0]) (by simp [results, Tryd.results37, go_sem, t0, t1, t2, t3]) rfl ⟨VEnd.flat _ _ _ (by decide), hbb⟩

set_option maxHeartbeats 4000000 in
set_option maxRecDepth 100000 in
theorem id_any (A : Nat → Prop) (L : List T) (a : Option Addr) (l c : Nat) (w : World) (hL : LieA A w L a l) (hl : l = 1) : Calls Tryd.prog 43 #[.slice a l c] w fun e w' => VEnd A w w' (hdT L) e ∧ Below w.heap.size w w' := by
  obtain ⟨b, off, k, n, s, Lt, a1, l1, c1, rfl, hAb, hbl, hd, x0, x1, x2, x3, hlc, hss, hLt⟩ := hL.at (i := 0) (by omega)
  rw [Nat.zero_mul, Nat.add_zero] at x0 x1 x2 x3
  have hlen := hL.len.1
  have hL1 : L = .node k n s Lt :: L.drop 1 := by simpa using hd
  have e1 : hdT L = .node k n s Lt := by rw [hL1]; rfl
  rw [e1]
  have hy := alloc_new w (.cells #[.int .i64 0, .int .i64 0, .string ⟨#[]⟩, .slice none 0 0] 30)
  have hz : (w.alloc (.cells #[.int .i64 0, .int .i64 0, .string ⟨#[]⟩, .slice none 0 0] 30)).heap.size = w.heap.size + 1 := by simp
  have hb0 : Below w.heap.size w (w.alloc (.cells #[.int .i64 0, .int .i64 0, .string ⟨#[]⟩, .slice none 0 0] 30)) := (Below.refl _ _).alloc (Nat.le_refl _) _
  have hq : ∀ o, (w.alloc (.cells #[.int .i64 0, .int .i64 0, .string ⟨#[]⟩, .slice none 0 0] 30)).cell? ⟨b, o, none⟩ = w.cell? ⟨b, o, none⟩ := fun o => hb0.cell (p := ⟨b, o, none⟩) hbl
  have y0 : (w.alloc (.cells #[.int .i64 0, .int .i64 0, .string ⟨#[]⟩, .slice none 0 0] 30)).cell? ⟨b, off, none⟩ = _ := (hq _).trans x0
  have y1 : (w.alloc (.cells #[.int .i64 0, .int .i64 0, .string ⟨#[]⟩, .slice none 0 0] 30)).cell? ⟨b, off + 1, none⟩ = _ := (hq _).trans x1
  have y2 : (w.alloc (.cells #[.int .i64 0, .int .i64 0, .string ⟨#[]⟩, .slice none 0 0] 30)).cell? ⟨b, off + 2, none⟩ = _ := (hq _).trans x2
  have y3 : (w.alloc (.cells #[.int .i64 0, .int .i64 0, .string ⟨#[]⟩, .slice none 0 0] 30)).cell? ⟨b, off + 3, none⟩ = _ := (hq _).trans x3
  have hbl2 : b < (w.alloc (.cells #[.int .i64 0, .int .i64 0, .string ⟨#[]⟩, .slice none 0 0] 30)).heap.size := by rw [hz]; omega
  have HY := toHid hy
  have HZ := toHid hz
  have HB := toHid hb0
  have HLT := toHid hLt
  have HSS := toHid hss
  have HLC := toHid hlc
  have HAB := toHid hAb
  have h0 := cell_of hy 0
  have h1 := cell_of hy 1
  have h2 := cell_of hy 2
  have h3 := cell_of hy 3
  have fh0 := free_of hy 0
  have fh1 := free_of hy 1
  have fh2 := free_of hy 2
  have fh3 := free_of hy 3
  simp at h0 h1 h2 h3
  clear x0 x1 x2 x3 hq hL1 hd hLt hL e1 hlen hy hz hb0 hlc
  subst hl
  go_enter Tryd.func43, Tryd.ntmps43
  go_wp2_with fail
  have hbb : Below w.heap.size w (w.alloc (.cells #[.int .i64 k, .int .i64 n, .string s, .slice a1 l1 c1] 30)) := (Below.refl _ _).alloc (Nat.le_refl _) _
  exact bodyPost_ret (v := vC k n s a1 l1 c1) (by simp [results, Tryd.results43, go_sem]) rfl ⟨⟨k, n, s, a1, l1, c1, Lt, rfl, rfl, HLC.out, HSS.out, LieA.kept hbb.size (fun i hi hl => ⟨.inl hi, hbb.block i hl⟩) _ _ _ HLT.out⟩, hbb⟩
end Go.Proofs.YtfjlpjemccllaaaDoor
