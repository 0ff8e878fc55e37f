/-
  What is proved here: value.readAll of a text at which the reader gives up, or reads less than all: it tells the place, and the error.
-/
import Derived.Test.YtdbodcfodlbgnaaDoorVpCatch
namespace Go.Proofs.YtdbodcfodlbgnaaDoor
open Go.RowKit
set_option linter.unusedVariables false

set_option maxHeartbeats 2000000 in
set_option maxRecDepth 100000 in
theorem readAll_gave (B : Nat) (text : ByteArray) (a : Nat) (w : World) (hB : B ≤ w.heap.size) (ht : text.size ≤ 4000) (hT : Tabs B w) (hP : Pow10 B w) (hV : ErrV B w) (hr : ReadBad text 0 0 a) :
    Calls Tryd.prog 9 #[.string text] w fun e w' => e = .returned (.tuple #[.agg #[.int .i64 0, .int .i64 0, .string ⟨#[]⟩, .slice none 0 0], .int .i64 a, .int .i64 1]) ∧ Below w.heap.size w w' := by
  have hmf : ∀ (fn : Fn) (first cap : Array Value) (w : World), (Instr.makeFunc fn first cap).run Tryd.prog w = .ok (.func fn first cap) w := fun _ _ _ _ => rfl
  have HC := toHid hr
  clear hr
  go_enter_defers Tryd.func9, Tryd.ntmps9
  go_wp2_with fail
  have eW : (((w.alloc (.cells #[.int .i64 0, .int .i64 0, .string ⟨#[]⟩, .slice none 0 0] 24)).alloc (.cells #[.int .i64 0] 3)).alloc (.cells #[.int .i64 0] 25)).alloc (.cells #[.string text, .int .i64 0] 47) = readWorld w text := rfl
  rw [eW]
  clear eW
  obtain ⟨k0, k1, k2, k3, k4, k5⟩ := readWorld_facts w text
  generalize readWorld w text = W at k0 k1 k2 k3 k4 k5 ⊢
  refine (HC.out B _ W k2 (by omega) (hT.below (k1.mono hB)) (hP.below (k1.mono hB)) (hV.below (k1.mono hB))).mono ?_
  rintro e w1 ⟨rfl, hm⟩
  have hs1 := hm.size
  have b0 : w1.heap[w.heap.size]? = some (.cells #[.int .i64 0, .int .i64 0, .string ⟨#[]⟩, .slice none 0 0] 24 (0, 0)) := by rw [hm.block _ (by omega) (by omega)]; exact k3
  have b1 : w1.heap[w.heap.size + 1]? = some (.cells #[.int .i64 0] 3 (0, 0)) := by rw [hm.block _ (by omega) (by omega)]; exact k4
  have b2 : w1.heap[w.heap.size + 1 + 1]? = some (.cells #[.int .i64 0] 25 (0, 0)) := by rw [hm.block _ (by omega) (by omega)]; exact k5
  have B0 := toHid b0
  have B1 := toHid b1
  have B2 := toHid b2
  have BW : Hid (Below w.heap.size w w1) := k1.trans ⟨hm.os, hm.tape, hm.output, hm.size, fun k hk => hm.block k (by omega) (by omega)⟩
  clear b0 b1 b2 k2 k3 k4 k5 HC
  go_wp2_with fail
  refine leaves_cons (f := 18) (args := #[.pointer (some ⟨w.heap.size, 0, none⟩), .pointer (some ⟨w.heap.size + 1, 0, none⟩), .pointer (some ⟨w.heap.size + 1 + 1, 0, none⟩)]) (by simp) (by simp [go_sem]) ?_
  refine (caught_misfit w.heap.size a _ _ _ _ _ _ _ B0.out B1.out B2.out).mono ?_
  rintro e u' w'' ⟨rfl, rfl, hcg⟩
  have t0 := cell_of hcg.2.1 0
  have t1 := cell_of hcg.2.1 1
  have t2 := cell_of hcg.2.1 2
  have t3 := cell_of hcg.2.1 3
  have ta := cell_of hcg.2.2.1 0
  have te := cell_of hcg.2.2.2 0
  simp at t0 t1 t2 t3 ta te
  have HB : Hid (Below w.heap.size w w'') := BW.out.trans hcg.1
  clear hcg
  simp [Leaves, settle, results, Tryd.results9, go_sem, t0, t1, t2, t3, ta, te]
  exact HB.out

set_option maxHeartbeats 2000000 in
set_option maxRecDepth 100000 in
theorem readAll_left (B : Nat) (text : ByteArray) (t : T) (a : Nat) (w : World) (hB : B ≤ w.heap.size) (ht : text.size ≤ 4000) (hT : Tabs B w) (hP : Pow10 B w) (hV : ErrV B w) (hr : ReadOk text 0 0 t a) (ha : a < text.size) :
    Calls Tryd.prog 9 #[.string text] w fun e w' => e = .returned (.tuple #[.agg #[.int .i64 0, .int .i64 0, .string ⟨#[]⟩, .slice none 0 0], .int .i64 a, .int .i64 1]) ∧ Below w.heap.size w w' := by
  have hmf : ∀ (fn : Fn) (first cap : Array Value) (w : World), (Instr.makeFunc fn first cap).run Tryd.prog w = .ok (.func fn first cap) w := fun _ _ _ _ => rfl
  have HC := toHid hr
  clear hr
  go_enter_defers Tryd.func9, Tryd.ntmps9
  go_wp2_with fail
  have eW : (((w.alloc (.cells #[.int .i64 0, .int .i64 0, .string ⟨#[]⟩, .slice none 0 0] 24)).alloc (.cells #[.int .i64 0] 3)).alloc (.cells #[.int .i64 0] 25)).alloc (.cells #[.string text, .int .i64 0] 47) = readWorld w text := rfl
  rw [eW]
  clear eW
  obtain ⟨k0, k1, k2, k3, k4, k5⟩ := readWorld_facts w text
  generalize readWorld w text = W at k0 k1 k2 k3 k4 k5 ⊢
  refine (HC.out B _ W k2 (by omega) (hT.below (k1.mono hB)) (hP.below (k1.mono hB))).mono ?_
  rintro e w1 ⟨x, hxt, rfl, hxo, hm⟩
  have hs1 := hm.size
  have b0 : w1.heap[w.heap.size]? = some (.cells #[.int .i64 0, .int .i64 0, .string ⟨#[]⟩, .slice none 0 0] 24 (0, 0)) := by rw [hm.block _ (by omega) (by omega)]; exact k3
  have b1 : w1.heap[w.heap.size + 1]? = some (.cells #[.int .i64 0] 3 (0, 0)) := by rw [hm.block _ (by omega) (by omega)]; exact k4
  have b2 : w1.heap[w.heap.size + 1 + 1]? = some (.cells #[.int .i64 0] 25 (0, 0)) := by rw [hm.block _ (by omega) (by omega)]; exact k5
  have x0 := cell_of b0 0
  have x1 := cell_of b0 1
  have x2 := cell_of b0 2
  have x3 := cell_of b0 3
  have y0 := free_of b0 0
  have y1 := free_of b0 1
  have y2 := free_of b0 2
  have y3 := free_of b0 3
  have xr := hm.here.place
  simp at x0 x1 x2 x3
  have haz : (a : Int) < text.size := by omega
  have q1 := put4_here b0 (.int .i64 x.k) (.int .i64 x.n) (.string x.s) (.slice x.a x.l x.c)
  have e1 := put4_below w1 w.heap.size (.int .i64 x.k) (.int .i64 x.n) (.string x.s) (.slice x.a x.l x.c)
  have c1 := (put4_other w1 w.heap.size (.int .i64 x.k) (.int .i64 x.n) (.string x.s) (.slice x.a x.l x.c) (w.heap.size + 1) (by omega) (by omega)).trans b1
  have c2 := (put4_other w1 w.heap.size (.int .i64 x.k) (.int .i64 x.n) (.string x.s) (.slice x.a x.l x.c) (w.heap.size + 1 + 1) (by omega) (by omega)).trans b2
  have B0 := toHid q1
  have B1 := toHid c1
  have B2 := toHid c2
  have BW0 : Below w.heap.size w w1 := k1.trans ⟨hm.os, hm.tape, hm.output, hm.size, fun k hk => hm.block k (by omega) (by omega)⟩
  have BW := toHid (BW0.trans e1)
  clear b0 b1 b2 k2 k3 k4 k5 HC q1 e1 c1 c2 BW0 hxo
  go_wp2_with fail
  refine leaves_cons (f := 18) (args := #[.pointer (some ⟨w.heap.size, 0, none⟩), .pointer (some ⟨w.heap.size + 1, 0, none⟩), .pointer (some ⟨w.heap.size + 1 + 1, 0, none⟩)]) (by simp) (by simp [go_sem]) ?_
  refine (caught_misfit w.heap.size a _ _ _ _ _ _ _ B0.out B1.out B2.out).mono ?_
  rintro e u' w'' ⟨rfl, rfl, hcg⟩
  have t0 := cell_of hcg.2.1 0
  have t1 := cell_of hcg.2.1 1
  have t2 := cell_of hcg.2.1 2
  have t3 := cell_of hcg.2.1 3
  have ta := cell_of hcg.2.2.1 0
  have te := cell_of hcg.2.2.2 0
  simp at t0 t1 t2 t3 ta te
  have HB : Hid (Below w.heap.size w w'') := BW.out.trans hcg.1
  clear hcg
  simp [Leaves, settle, results, Tryd.results9, go_sem, t0, t1, t2, t3, ta, te]
  exact HB.out

end Go.Proofs.YtdbodcfodlbgnaaDoor
