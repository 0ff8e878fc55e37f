/-
  What is proved here: espalierref.ReadValue of any text that isn't too long: as the plain reading and the plain check tell.
-/
import Derived.Test.YtdbodcfodlbgnaaDoorVpRef
import Derived.Test.YtdbodcfodlbgnaaDoorVpChk
namespace Go.Proofs.YtdbodcfodlbgnaaDoor
open Go.RowKit
set_option linter.unusedVariables false

set_option maxHeartbeats 4000000 in
set_option maxRecDepth 100000 in
theorem read_bad (text : ByteArray) (w : World) (a : Nat) (hr : ∀ W, Below w.heap.size w W → Calls Tryd.prog 15 #[.string text, .int .i64 0, .int .i64 1] W fun e w' => (∃ (k n : Int) (s : ByteArray) (sa : Option Addr) (sl sc : Nat), e = .returned (.tuple #[.agg #[.int .i64 k, .int .i64 n, .string s, .slice sa sl sc], .int .i64 0, .int .i64 a])) ∧ Below W.heap.size W w') :
    Calls Tryd.prog 7 #[.string text] w fun e w' => e = .returned (.tuple #[.agg #[.int .i64 0, .int .i64 0, .string ⟨#[]⟩, .slice none 0 0], .int .i64 a, .int .i64 1]) ∧ Below w.heap.size w w' := by
  have ha0 : (0 : Int) ≤ (a : Int) := by omega
  have ha1 : ¬ (a : Int) < 0 := by omega
  have hz0 : (w.alloc (.cells #[.int .i64 0, .int .i64 0, .string ⟨#[]⟩, .slice none 0 0] 24)).heap.size = w.heap.size + 1 := by simp
  have hb0 : Below w.heap.size w (w.alloc (.cells #[.int .i64 0, .int .i64 0, .string ⟨#[]⟩, .slice none 0 0] 24)) := (Below.refl _ _).alloc (Nat.le_refl _) _
  have hx0 := alloc_new w (.cells #[.int .i64 0, .int .i64 0, .string ⟨#[]⟩, .slice none 0 0] 24)
  have HR := toHid (hr _ hb0)
  clear hr
  go_enter Tryd.func7, Tryd.ntmps7
  go_wp2_with fail
  refine HR.out.mono ?_
  generalize w.alloc (.cells #[.int .i64 0, .int .i64 0, .string ⟨#[]⟩, .slice none 0 0] 24) = W0 at hb0 hx0 hz0 ⊢
  rintro e u1 ⟨⟨k, n, s, sa, sl, sc, rfl⟩, k1⟩
  have hk := k1.size
  have hbA : (u1.alloc (.cells #[.int .i64 k, .int .i64 n, .string s, .slice sa sl sc] 24)).heap[w.heap.size]? = some (.cells #[.int .i64 0, .int .i64 0, .string ⟨#[]⟩, .slice none 0 0] 24 (0, 0)) := (Below.heap_alloc _ _ _ (by omega)).trans ((k1.block _ (by omega)).trans hx0)
  have hbB : Below w.heap.size w (u1.alloc (.cells #[.int .i64 k, .int .i64 n, .string s, .slice sa sl sc] 24)) := (below2 hb0 k1).alloc (by omega) _
  clear HR hx0 k1
  go_upto_region 2 with fail
  generalize u1.alloc (.cells #[.int .i64 k, .int .i64 n, .string s, .slice sa sl sc] 24) = U at hbA hbB ⊢
  have hUl : w.heap.size < U.heap.size := (Array.getElem?_eq_some_iff.1 hbA).1
  have x0 := cell_of hbA 0
  have x1 := cell_of hbA 1
  have x2 := cell_of hbA 2
  have x3 := cell_of hbA 3
  have y0 := free_of hbA 0
  have y1 := free_of hbA 1
  have y2 := free_of hbA 2
  have y3 := free_of hbA 3
  simp at x0 x1 x2 x3
  have zq := put4_here hbA (.int .i64 0) (.int .i64 0) (.string ⟨#[]⟩) (.slice none 0 0)
  have HZB := toHid (hbB.trans (put4_below U w.heap.size (.int .i64 0) (.int .i64 0) (.string ⟨#[]⟩) (.slice none 0 0)))
  have HZ := toHid zq
  have HZO := toHid (put4_other U w.heap.size (.int .i64 0) (.int .i64 0) (.string ⟨#[]⟩) (.slice none 0 0))
  have HZS := toHid (put4_below U w.heap.size (.int .i64 0) (.int .i64 0) (.string ⟨#[]⟩) (.slice none 0 0)).size
  clear zq
  go_wp2_with fail
  have eP : ((((U.setCell ⟨w.heap.size, 0, none⟩ (.int .i64 0)).setCell ⟨w.heap.size, 1, none⟩ (.int .i64 0)).setCell ⟨w.heap.size, 2, none⟩ (.string ⟨#[]⟩)).setCell ⟨w.heap.size, 3, none⟩ (.slice none 0 0)) = put4 U w.heap.size (.int .i64 0) (.int .i64 0) (.string ⟨#[]⟩) (.slice none 0 0) := rfl
  rw [eP]
  clear eP
  generalize put4 U w.heap.size (.int .i64 0) (.int .i64 0) (.string ⟨#[]⟩) (.slice none 0 0) = Z at HZB HZ HZO HZS ⊢
  have t0 := cell_of HZ.out 0
  have t1 := cell_of HZ.out 1
  have t2 := cell_of HZ.out 2
  have t3 := cell_of HZ.out 3
  simp at t0 t1 t2 t3
  refine bodyPost_ret (v := .tuple #[.agg #[.int .i64 0, .int .i64 0, .string ⟨#[]⟩, .slice none 0 0], .int .i64 (a : Int), .int .i64 1]) (by simp [results, Tryd.results7, go_sem, t0, t1, t2, t3]) rfl ⟨rfl, HZB.out⟩

set_option maxHeartbeats 4000000 in
set_option maxRecDepth 100000 in
theorem read_left (text : ByteArray) (w : World) (t : T) (q : Nat) (hq : q < text.size) (hr : ∀ W, Below w.heap.size w W → Calls Tryd.prog 15 #[.string text, .int .i64 0, .int .i64 1] W fun e w' => (∃ x : Got, x.tree = t ∧ e = .returned (.tuple #[.agg #[.int .i64 x.k, .int .i64 x.n, .string x.s, .slice x.a x.l x.c], .int .i64 q, .int .i64 (-1)]) ∧ x.ok (fun i => W.heap.size ≤ i) w') ∧ Below W.heap.size W w') :
    Calls Tryd.prog 7 #[.string text] w fun e w' => e = .returned (.tuple #[.agg #[.int .i64 0, .int .i64 0, .string ⟨#[]⟩, .slice none 0 0], .int .i64 q, .int .i64 1]) ∧ Below w.heap.size w w' := by
  have hq0 : (q : Int) < (text.size : Int) := by omega
  have hq1 : (0 : Int) ≤ (q : Int) := by omega
  have hz0 : (w.alloc (.cells #[.int .i64 0, .int .i64 0, .string ⟨#[]⟩, .slice none 0 0] 24)).heap.size = w.heap.size + 1 := by simp
  have hb0 : Below w.heap.size w (w.alloc (.cells #[.int .i64 0, .int .i64 0, .string ⟨#[]⟩, .slice none 0 0] 24)) := (Below.refl _ _).alloc (Nat.le_refl _) _
  have hx0 := alloc_new w (.cells #[.int .i64 0, .int .i64 0, .string ⟨#[]⟩, .slice none 0 0] 24)
  have HR := toHid (hr _ hb0)
  clear hr
  go_enter Tryd.func7, Tryd.ntmps7
  go_wp2_with fail
  refine HR.out.mono ?_
  generalize w.alloc (.cells #[.int .i64 0, .int .i64 0, .string ⟨#[]⟩, .slice none 0 0] 24) = W0 at hb0 hx0 hz0 ⊢
  rintro e u1 ⟨⟨x, hxt, rfl, hxo⟩, k1⟩
  have hk := k1.size
  have hbA : (u1.alloc (.cells #[.int .i64 x.k, .int .i64 x.n, .string x.s, .slice x.a x.l x.c] 24)).heap[w.heap.size]? = some (.cells #[.int .i64 0, .int .i64 0, .string ⟨#[]⟩, .slice none 0 0] 24 (0, 0)) := (Below.heap_alloc _ _ _ (by omega)).trans ((k1.block _ (by omega)).trans hx0)
  have hbB : Below w.heap.size w (u1.alloc (.cells #[.int .i64 x.k, .int .i64 x.n, .string x.s, .slice x.a x.l x.c] 24)) := (below2 hb0 k1).alloc (by omega) _
  have hxA := alloc_new u1 (.cells #[.int .i64 x.k, .int .i64 x.n, .string x.s, .slice x.a x.l x.c] 24)
  have HXO : Hid (x.ok (fun i => w.heap.size + 1 ≤ i) (u1.alloc (.cells #[.int .i64 x.k, .int .i64 x.n, .string x.s, .slice x.a x.l x.c] 24))) := hxo.kept (by simp) (fun i hi hi2 => ⟨by omega, Below.heap_alloc _ _ _ hi2⟩)
  have hzA : (u1.alloc (.cells #[.int .i64 x.k, .int .i64 x.n, .string x.s, .slice x.a x.l x.c] 24)).heap.size = u1.heap.size + 1 := by simp
  clear HR hx0 k1 hxo
  go_upto_region 2 with fail
  generalize u1.alloc (.cells #[.int .i64 x.k, .int .i64 x.n, .string x.s, .slice x.a x.l x.c] 24) = U at hbA hbB hxA HXO hzA ⊢
  have hUl : w.heap.size < U.heap.size := (Array.getElem?_eq_some_iff.1 hbA).1
  have hUx : u1.heap.size < U.heap.size := by omega
  have hne : u1.heap.size ≠ w.heap.size := by omega
  clear hzA
  have x0 := cell_of hbA 0
  have x1 := cell_of hbA 1
  have x2 := cell_of hbA 2
  have x3 := cell_of hbA 3
  have y0 := free_of hbA 0
  have y1 := free_of hbA 1
  have y2 := free_of hbA 2
  have y3 := free_of hbA 3
  simp at x0 x1 x2 x3
  have zq := put4_here hbA (.int .i64 0) (.int .i64 0) (.string ⟨#[]⟩) (.slice none 0 0)
  have HZB := toHid (hbB.trans (put4_below U w.heap.size (.int .i64 0) (.int .i64 0) (.string ⟨#[]⟩) (.slice none 0 0)))
  have HZ := toHid zq
  have HZO := toHid (put4_other U w.heap.size (.int .i64 0) (.int .i64 0) (.string ⟨#[]⟩) (.slice none 0 0))
  have HZS := toHid (put4_below U w.heap.size (.int .i64 0) (.int .i64 0) (.string ⟨#[]⟩) (.slice none 0 0)).size
  clear zq
  go_wp2_with fail
  have eP : ((((U.setCell ⟨w.heap.size, 0, none⟩ (.int .i64 0)).setCell ⟨w.heap.size, 1, none⟩ (.int .i64 0)).setCell ⟨w.heap.size, 2, none⟩ (.string ⟨#[]⟩)).setCell ⟨w.heap.size, 3, none⟩ (.slice none 0 0)) = put4 U w.heap.size (.int .i64 0) (.int .i64 0) (.string ⟨#[]⟩) (.slice none 0 0) := rfl
  rw [eP]
  clear eP
  generalize put4 U w.heap.size (.int .i64 0) (.int .i64 0) (.string ⟨#[]⟩) (.slice none 0 0) = Z at HZB HZ HZO HZS ⊢
  have t0 := cell_of HZ.out 0
  have t1 := cell_of HZ.out 1
  have t2 := cell_of HZ.out 2
  have t3 := cell_of HZ.out 3
  simp at t0 t1 t2 t3
  refine bodyPost_ret (v := .tuple #[.agg #[.int .i64 0, .int .i64 0, .string ⟨#[]⟩, .slice none 0 0], .int .i64 (q : Int), .int .i64 1]) (by simp [results, Tryd.results7, go_sem, t0, t1, t2, t3]) rfl ⟨rfl, HZB.out⟩

set_option maxHeartbeats 4000000 in
set_option maxRecDepth 100000 in
theorem read_told (text : ByteArray) (w : World) (B : Nat) (hB : B ≤ w.heap.size) (hT : Tabs B w) (t : T) (q : Nat) (hq : q = text.size) (hin : InT t) (er : Int) (hck : chk 6 t = er) (her : er ≠ 0) (hr : ∀ W, Below w.heap.size w W → Calls Tryd.prog 15 #[.string text, .int .i64 0, .int .i64 1] W fun e w' => (∃ x : Got, x.tree = t ∧ e = .returned (.tuple #[.agg #[.int .i64 x.k, .int .i64 x.n, .string x.s, .slice x.a x.l x.c], .int .i64 q, .int .i64 (-1)]) ∧ x.ok (fun i => W.heap.size ≤ i) w') ∧ Below W.heap.size W w') :
    Calls Tryd.prog 7 #[.string text] w fun e w' => e = .returned (.tuple #[.agg #[.int .i64 0, .int .i64 0, .string ⟨#[]⟩, .slice none 0 0], .int .i64 0, .int .i64 er]) ∧ Below w.heap.size w w' := by
  have hq0 : ¬ (q : Int) < (text.size : Int) := by omega
  have HIN := toHid hin
  have HCK := toHid hck
  have her1 : (er == 0) = false := by simpa using her
  have her2 : (er != 0) = true := by simp only [bne, her1, Bool.not_false]
  clear hin hck her
  have hz0 : (w.alloc (.cells #[.int .i64 0, .int .i64 0, .string ⟨#[]⟩, .slice none 0 0] 24)).heap.size = w.heap.size + 1 := by simp
  have hb0 : Below w.heap.size w (w.alloc (.cells #[.int .i64 0, .int .i64 0, .string ⟨#[]⟩, .slice none 0 0] 24)) := (Below.refl _ _).alloc (Nat.le_refl _) _
  have hx0 := alloc_new w (.cells #[.int .i64 0, .int .i64 0, .string ⟨#[]⟩, .slice none 0 0] 24)
  have HR := toHid (hr _ hb0)
  clear hr
  go_enter Tryd.func7, Tryd.ntmps7
  go_wp2_with fail
  refine HR.out.mono ?_
  generalize w.alloc (.cells #[.int .i64 0, .int .i64 0, .string ⟨#[]⟩, .slice none 0 0] 24) = W0 at hb0 hx0 hz0 ⊢
  rintro e u1 ⟨⟨x, hxt, rfl, hxo⟩, k1⟩
  have hk := k1.size
  have hbA : (u1.alloc (.cells #[.int .i64 x.k, .int .i64 x.n, .string x.s, .slice x.a x.l x.c] 24)).heap[w.heap.size]? = some (.cells #[.int .i64 0, .int .i64 0, .string ⟨#[]⟩, .slice none 0 0] 24 (0, 0)) := (Below.heap_alloc _ _ _ (by omega)).trans ((k1.block _ (by omega)).trans hx0)
  have hbB : Below w.heap.size w (u1.alloc (.cells #[.int .i64 x.k, .int .i64 x.n, .string x.s, .slice x.a x.l x.c] 24)) := (below2 hb0 k1).alloc (by omega) _
  have hxA := alloc_new u1 (.cells #[.int .i64 x.k, .int .i64 x.n, .string x.s, .slice x.a x.l x.c] 24)
  have HXO : Hid (x.ok (fun i => w.heap.size + 1 ≤ i) (u1.alloc (.cells #[.int .i64 x.k, .int .i64 x.n, .string x.s, .slice x.a x.l x.c] 24))) := hxo.kept (by simp) (fun i hi hi2 => ⟨by omega, Below.heap_alloc _ _ _ hi2⟩)
  have hzA : (u1.alloc (.cells #[.int .i64 x.k, .int .i64 x.n, .string x.s, .slice x.a x.l x.c] 24)).heap.size = u1.heap.size + 1 := by simp
  clear HR hx0 k1 hxo
  go_upto_region 2 with fail
  generalize u1.alloc (.cells #[.int .i64 x.k, .int .i64 x.n, .string x.s, .slice x.a x.l x.c] 24) = U at hbA hbB hxA HXO hzA ⊢
  have hUl : w.heap.size < U.heap.size := (Array.getElem?_eq_some_iff.1 hbA).1
  have hUx : u1.heap.size < U.heap.size := by omega
  have hne : u1.heap.size ≠ w.heap.size := by omega
  clear hzA
  have a0 := cell_of hxA 0
  have a1 := cell_of hxA 1
  have a2 := cell_of hxA 2
  have a3 := cell_of hxA 3
  simp at a0 a1 a2 a3
  have hxin : InT (.node x.k x.n x.s x.L) := by have := HIN.out; rw [← hxt] at this; exact this
  have HBC := toHid ((bc_all B U (by have := hbB.size; omega) (hT.below (hbB.mono hB)) 6 0 rfl x.k x.n x.s x.a x.l x.c x.L HXO.out.1 hxin (HXO.out.2.2.lies _ _ _)) U (Below.refl _ _)).2
  have hct : chk 6 (.node x.k x.n x.s x.L) = er := by have := HCK.out; rw [← hxt] at this; exact this
  rw [hct] at HBC
  go_wp2_with fail
  refine HBC.out.mono ?_
  rintro e u2 ⟨rfl, k2⟩
  have hbA2 := (k2.block w.heap.size hUl).trans hbA
  have hxA2 := (k2.block u1.heap.size hUx).trans hxA
  have hbB2 := below2 hbB k2
  have hk2 := k2.size
  have HXO2 : Hid (x.ok (fun i => w.heap.size + 1 ≤ i) u2) := HXO.out.kept k2.size (fun i hi hi2 => ⟨hi, k2.block i hi2⟩)
  have hUl2 : w.heap.size < u2.heap.size := by omega
  have hUx2 : u1.heap.size < u2.heap.size := by omega
  clear hbA hxA hbB k2 a0 a1 a2 a3 HBC HXO
  have hbA := hbA2
  have hbB := hbB2
  have a0 := cell_of hxA2 0
  have a1 := cell_of hxA2 1
  have a2 := cell_of hxA2 2
  have a3 := cell_of hxA2 3
  simp at a0 a1 a2 a3
  clear hbA2 hbB2 hxA2
  have x0 := cell_of hbA 0
  have x1 := cell_of hbA 1
  have x2 := cell_of hbA 2
  have x3 := cell_of hbA 3
  have y0 := free_of hbA 0
  have y1 := free_of hbA 1
  have y2 := free_of hbA 2
  have y3 := free_of hbA 3
  simp at x0 x1 x2 x3
  have zq := put4_here hbA (.int .i64 0) (.int .i64 0) (.string ⟨#[]⟩) (.slice none 0 0)
  have HZB := toHid (hbB.trans (put4_below u2 w.heap.size (.int .i64 0) (.int .i64 0) (.string ⟨#[]⟩) (.slice none 0 0)))
  have HZ := toHid zq
  have HZO := toHid (put4_other u2 w.heap.size (.int .i64 0) (.int .i64 0) (.string ⟨#[]⟩) (.slice none 0 0))
  have HZS := toHid (put4_below u2 w.heap.size (.int .i64 0) (.int .i64 0) (.string ⟨#[]⟩) (.slice none 0 0)).size
  clear zq
  go_wp2_with fail
  have eP : ((((u2.setCell ⟨w.heap.size, 0, none⟩ (.int .i64 0)).setCell ⟨w.heap.size, 1, none⟩ (.int .i64 0)).setCell ⟨w.heap.size, 2, none⟩ (.string ⟨#[]⟩)).setCell ⟨w.heap.size, 3, none⟩ (.slice none 0 0)) = put4 u2 w.heap.size (.int .i64 0) (.int .i64 0) (.string ⟨#[]⟩) (.slice none 0 0) := rfl
  rw [eP]
  clear eP
  generalize put4 u2 w.heap.size (.int .i64 0) (.int .i64 0) (.string ⟨#[]⟩) (.slice none 0 0) = Z at HZB HZ HZO HZS ⊢
  have t0 := cell_of HZ.out 0
  have t1 := cell_of HZ.out 1
  have t2 := cell_of HZ.out 2
  have t3 := cell_of HZ.out 3
  simp at t0 t1 t2 t3
  refine bodyPost_ret (v := .tuple #[.agg #[.int .i64 0, .int .i64 0, .string ⟨#[]⟩, .slice none 0 0], .int .i64 0, .int .i64 er]) (by simp [results, Tryd.results7, go_sem, t0, t1, t2, t3]) rfl ⟨rfl, HZB.out⟩

set_option maxHeartbeats 4000000 in
set_option maxRecDepth 100000 in
theorem read_good (text : ByteArray) (w : World) (B : Nat) (hB : B ≤ w.heap.size) (hT : Tabs B w) (t : T) (q : Nat) (hq : q = text.size) (hin : InT t) (hck : chk 6 t = 0) (hr : ∀ W, Below w.heap.size w W → Calls Tryd.prog 15 #[.string text, .int .i64 0, .int .i64 1] W fun e w' => (∃ x : Got, x.tree = t ∧ e = .returned (.tuple #[.agg #[.int .i64 x.k, .int .i64 x.n, .string x.s, .slice x.a x.l x.c], .int .i64 q, .int .i64 (-1)]) ∧ x.ok (fun i => W.heap.size ≤ i) w') ∧ Below W.heap.size W w') :
    Calls Tryd.prog 7 #[.string text] w fun e w' => ∃ x : Got, x.tree = t ∧ e = .returned (.tuple #[.agg #[.int .i64 x.k, .int .i64 x.n, .string x.s, .slice x.a x.l x.c], .int .i64 0, .int .i64 0]) ∧ x.ok (fun i => w.heap.size ≤ i) w' ∧ Below w.heap.size w w' := by
  have hq0 : ¬ (q : Int) < (text.size : Int) := by omega
  have HIN := toHid hin
  have HCK := toHid hck
  clear hin hck
  have hz0 : (w.alloc (.cells #[.int .i64 0, .int .i64 0, .string ⟨#[]⟩, .slice none 0 0] 24)).heap.size = w.heap.size + 1 := by simp
  have hb0 : Below w.heap.size w (w.alloc (.cells #[.int .i64 0, .int .i64 0, .string ⟨#[]⟩, .slice none 0 0] 24)) := (Below.refl _ _).alloc (Nat.le_refl _) _
  have hx0 := alloc_new w (.cells #[.int .i64 0, .int .i64 0, .string ⟨#[]⟩, .slice none 0 0] 24)
  have HR := toHid (hr _ hb0)
  clear hr
  go_enter Tryd.func7, Tryd.ntmps7
  go_wp2_with fail
  refine HR.out.mono ?_
  generalize w.alloc (.cells #[.int .i64 0, .int .i64 0, .string ⟨#[]⟩, .slice none 0 0] 24) = W0 at hb0 hx0 hz0 ⊢
  rintro e u1 ⟨⟨x, hxt, rfl, hxo⟩, k1⟩
  have hk := k1.size
  have hbA : (u1.alloc (.cells #[.int .i64 x.k, .int .i64 x.n, .string x.s, .slice x.a x.l x.c] 24)).heap[w.heap.size]? = some (.cells #[.int .i64 0, .int .i64 0, .string ⟨#[]⟩, .slice none 0 0] 24 (0, 0)) := (Below.heap_alloc _ _ _ (by omega)).trans ((k1.block _ (by omega)).trans hx0)
  have hbB : Below w.heap.size w (u1.alloc (.cells #[.int .i64 x.k, .int .i64 x.n, .string x.s, .slice x.a x.l x.c] 24)) := (below2 hb0 k1).alloc (by omega) _
  have hxA := alloc_new u1 (.cells #[.int .i64 x.k, .int .i64 x.n, .string x.s, .slice x.a x.l x.c] 24)
  have HXO : Hid (x.ok (fun i => w.heap.size + 1 ≤ i) (u1.alloc (.cells #[.int .i64 x.k, .int .i64 x.n, .string x.s, .slice x.a x.l x.c] 24))) := hxo.kept (by simp) (fun i hi hi2 => ⟨by omega, Below.heap_alloc _ _ _ hi2⟩)
  have hzA : (u1.alloc (.cells #[.int .i64 x.k, .int .i64 x.n, .string x.s, .slice x.a x.l x.c] 24)).heap.size = u1.heap.size + 1 := by simp
  clear HR hx0 k1 hxo
  go_upto_region 2 with fail
  generalize u1.alloc (.cells #[.int .i64 x.k, .int .i64 x.n, .string x.s, .slice x.a x.l x.c] 24) = U at hbA hbB hxA HXO hzA ⊢
  have hUl : w.heap.size < U.heap.size := (Array.getElem?_eq_some_iff.1 hbA).1
  have hUx : u1.heap.size < U.heap.size := by omega
  have hne : u1.heap.size ≠ w.heap.size := by omega
  clear hzA
  have a0 := cell_of hxA 0
  have a1 := cell_of hxA 1
  have a2 := cell_of hxA 2
  have a3 := cell_of hxA 3
  simp at a0 a1 a2 a3
  have hxin : InT (.node x.k x.n x.s x.L) := by have := HIN.out; rw [← hxt] at this; exact this
  have HBC := toHid ((bc_all B U (by have := hbB.size; omega) (hT.below (hbB.mono hB)) 6 0 rfl x.k x.n x.s x.a x.l x.c x.L HXO.out.1 hxin (HXO.out.2.2.lies _ _ _)) U (Below.refl _ _)).2
  have hct : chk 6 (.node x.k x.n x.s x.L) = 0 := by have := HCK.out; rw [← hxt] at this; exact this
  rw [hct] at HBC
  go_wp2_with fail
  refine HBC.out.mono ?_
  rintro e u2 ⟨rfl, k2⟩
  have hbA2 := (k2.block w.heap.size hUl).trans hbA
  have hxA2 := (k2.block u1.heap.size hUx).trans hxA
  have hbB2 := below2 hbB k2
  have hk2 := k2.size
  have HXO2 : Hid (x.ok (fun i => w.heap.size + 1 ≤ i) u2) := HXO.out.kept k2.size (fun i hi hi2 => ⟨hi, k2.block i hi2⟩)
  have hUl2 : w.heap.size < u2.heap.size := by omega
  have hUx2 : u1.heap.size < u2.heap.size := by omega
  clear hbA hxA hbB k2 a0 a1 a2 a3 HBC HXO
  have hbA := hbA2
  have hbB := hbB2
  have a0 := cell_of hxA2 0
  have a1 := cell_of hxA2 1
  have a2 := cell_of hxA2 2
  have a3 := cell_of hxA2 3
  simp at a0 a1 a2 a3
  clear hbA2 hbB2 hxA2
  have x0 := cell_of hbA 0
  have x1 := cell_of hbA 1
  have x2 := cell_of hbA 2
  have x3 := cell_of hbA 3
  have y0 := free_of hbA 0
  have y1 := free_of hbA 1
  have y2 := free_of hbA 2
  have y3 := free_of hbA 3
  simp at x0 x1 x2 x3
  have zq := put4_here hbA (.int .i64 x.k) (.int .i64 x.n) (.string x.s) (.slice x.a x.l x.c)
  have HZB := toHid (hbB.trans (put4_below u2 w.heap.size (.int .i64 x.k) (.int .i64 x.n) (.string x.s) (.slice x.a x.l x.c)))
  have HZ := toHid zq
  have HZO := toHid (put4_other u2 w.heap.size (.int .i64 x.k) (.int .i64 x.n) (.string x.s) (.slice x.a x.l x.c))
  have HZS := toHid (put4_below u2 w.heap.size (.int .i64 x.k) (.int .i64 x.n) (.string x.s) (.slice x.a x.l x.c)).size
  clear zq
  go_wp2_with fail
  have eP : ((((u2.setCell ⟨w.heap.size, 0, none⟩ (.int .i64 x.k)).setCell ⟨w.heap.size, 1, none⟩ (.int .i64 x.n)).setCell ⟨w.heap.size, 2, none⟩ (.string x.s)).setCell ⟨w.heap.size, 3, none⟩ (.slice x.a x.l x.c)) = put4 u2 w.heap.size (.int .i64 x.k) (.int .i64 x.n) (.string x.s) (.slice x.a x.l x.c) := rfl
  rw [eP]
  clear eP
  generalize put4 u2 w.heap.size (.int .i64 x.k) (.int .i64 x.n) (.string x.s) (.slice x.a x.l x.c) = Z at HZB HZ HZO HZS ⊢
  have t0 := cell_of HZ.out 0
  have t1 := cell_of HZ.out 1
  have t2 := cell_of HZ.out 2
  have t3 := cell_of HZ.out 3
  simp at t0 t1 t2 t3
  refine bodyPost_ret (v := .tuple #[.agg #[.int .i64 x.k, .int .i64 x.n, .string x.s, .slice x.a x.l x.c], .int .i64 0, .int .i64 0]) (by simp [results, Tryd.results7, go_sem, t0, t1, t2, t3]) rfl ⟨x, hxt, rfl, ?_, HZB.out⟩
  exact HXO2.out.kept HZS.out (fun i hi hi2 => ⟨by omega, HZO.out i (by omega) hi2⟩)

/-- What ReadValue answers. -/
def ReEnd (text : ByteArray) (w w' : World) (e : Ending) : Prop :=
  match readF text with
  | .error a => e = .returned (.tuple #[.agg #[.int .i64 0, .int .i64 0, .string ⟨#[]⟩, .slice none 0 0], .int .i64 a, .int .i64 1])
  | .ok t => if chk 6 t = 0 then (∃ x : Got, x.tree = t ∧ e = .returned (.tuple #[.agg #[.int .i64 x.k, .int .i64 x.n, .string x.s, .slice x.a x.l x.c], .int .i64 0, .int .i64 0]) ∧ x.ok (fun i => w.heap.size ≤ i) w') else e = .returned (.tuple #[.agg #[.int .i64 0, .int .i64 0, .string ⟨#[]⟩, .slice none 0 0], .int .i64 0, .int .i64 (chk 6 t)])

theorem read_all (B : Nat) (text : ByteArray) (w : World) (hB : B ≤ w.heap.size) (ht : text.size ≤ 4000) (hT : Tabs B w) (hval : ∀ t q, valF 40 text 0 = .ok (t, q) → InT t) :
    Calls Tryd.prog 7 #[.string text] w fun e w' => ReEnd text w w' e ∧ Below w.heap.size w w' := by
  have hrv : ∀ W, Below w.heap.size w W → Calls Tryd.prog 15 #[.string text, .int .i64 0, .int .i64 1] W fun e w' => RvEnd (valF 40 text 0) W w' e ∧ Below W.heap.size W w' := fun W hW => rv_any ht 40 0 W (Nat.le_refl _) (Nat.zero_le _) (by have := hW.size; omega) (hT.below (hW.mono hB))
  cases hx : valF 40 text 0 with
  | error a =>
    rw [hx] at hrv
    have e0 : readF text = .error a := by unfold readF; rw [hx]
    refine (read_bad text w a hrv).mono ?_
    rintro e w' ⟨rfl, hb⟩
    exact ⟨by unfold ReEnd; rw [e0], hb⟩
  | ok tq =>
    obtain ⟨t, q⟩ := tq
    rw [hx] at hrv
    by_cases hq : q < text.size
    · have e0 : readF text = .error q := by unfold readF; rw [hx]; exact if_pos hq
      refine (read_left text w t q hq hrv).mono ?_
      rintro e w' ⟨rfl, hb⟩
      exact ⟨by unfold ReEnd; rw [e0], hb⟩
    · have hqs : q = text.size := by have := (valF_le 40 0 t q (Nat.zero_le _) hx).2; omega
      have e0 : readF text = .ok t := by unfold readF; rw [hx]; exact if_neg hq
      have hin := hval t q hx
      by_cases hc : chk 6 t = 0
      · refine (read_good text w B hB hT t q hqs hin hc hrv).mono ?_
        rintro e w' ⟨x, h3, h4, h5, hb⟩
        refine ⟨?_, hb⟩
        unfold ReEnd
        rw [e0]
        exact (if_pos hc).mpr ⟨x, h3, h4, h5⟩
      · refine (read_told text w B hB hT t q hqs hin _ rfl hc hrv).mono ?_
        rintro e w' ⟨rfl, hb⟩
        refine ⟨?_, hb⟩
        unfold ReEnd
        rw [e0]
        exact (if_neg hc).mpr rfl
end Go.Proofs.YtdbodcfodlbgnaaDoor
