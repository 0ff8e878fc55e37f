/-
  What is proved here: value.Parse of any text: it answers as the plain reading and the plain check tell.
-/
import Derived.Test.YtdbodcfodlbgnaaDoorVpRead
import Derived.Test.YtdbodcfodlbgnaaDoorVpChk
namespace Go.Proofs.YtdbodcfodlbgnaaDoor
open Go.RowKit
set_option linter.unusedVariables false

set_option maxHeartbeats 2000000 in
set_option maxRecDepth 100000 in
theorem parse_good (B : Nat) (text : ByteArray) (t : T) (w : World) (hB : B ≤ w.heap.size) (ht : text.size ≤ 4000) (hT : Tabs B w) (hP : Pow10 B w) (hr : ReadOk text 0 0 t text.size) (hin : InT t) (hck : chk 6 t = 0) :
    Calls Tryd.prog 4 #[.string text] w fun e w' => ∃ x : Got, x.tree = t ∧ e = .returned (.tuple #[.agg #[.int .i64 x.k, .int .i64 x.n, .string x.s, .slice x.a x.l x.c], .int .i64 0, .int .i64 0]) ∧ x.ok (fun i => w.heap.size ≤ i) w' ∧ Below w.heap.size w w' := by
  have HR : Hid (∀ W, B ≤ W.heap.size → Tabs B W → Pow10 B W → Calls Tryd.prog 9 #[.string text] W fun e w' => ∃ x : Got, x.tree = t ∧ e = .returned (.tuple #[.agg #[.int .i64 x.k, .int .i64 x.n, .string x.s, .slice x.a x.l x.c], .int .i64 0, .int .i64 0]) ∧ x.ok (fun i => W.heap.size ≤ i) w' ∧ Below W.heap.size W w') := fun W h1 h2 h3 => readAll_tree B text t W h1 ht h2 h3 hr
  have HIN := toHid hin
  have HCK := toHid hck
  clear hr hin hck
  have hb0 : Below w.heap.size w (w.alloc (.cells #[.int .i64 0, .int .i64 0, .string ⟨#[]⟩, .slice none 0 0] 24)) := (Below.refl _ _).alloc (Nat.le_refl _) _
  have hx0 := alloc_new w (.cells #[.int .i64 0, .int .i64 0, .string ⟨#[]⟩, .slice none 0 0] 24)
  have hz0 : (w.alloc (.cells #[.int .i64 0, .int .i64 0, .string ⟨#[]⟩, .slice none 0 0] 24)).heap.size = w.heap.size + 1 := by simp
  have hbig : ¬ (4000 : Int) < (text.size : Int) := by omega
  have H0 := toHid hx0
  clear hx0
  go_enter Tryd.func4, Tryd.ntmps4
  go_wp2_with fail
  refine (HR.out _ (by omega) (hT.below (hb0.mono hB)) (hP.below (hb0.mono hB))).mono ?_
  rintro e w1 ⟨x, hxt, rfl, hxo, hb1⟩
  rw [hz0] at hb1
  have hxo : x.ok (fun i => w.heap.size + 1 ≤ i) w1 := hxo.kept (Nat.le_refl _) (fun i hi hi2 => ⟨by rw [hz0] at hi; exact hi, rfl⟩)
  have hs1 := hb1.size
  rw [hz0] at hs1
  have b0 : w1.heap[w.heap.size]? = some (.cells #[.int .i64 0, .int .i64 0, .string ⟨#[]⟩, .slice none 0 0] 24 (0, 0)) := by rw [hb1.block _ (by omega)]; exact H0.out
  have hT1 : Tabs B w1 := (hT.below (hb0.mono hB)).below (hb1.mono (by omega))
  have hww : Below w.heap.size w w1 := hb0.trans (hb1.mono (by omega))
  have x0 := cell_of b0 0
  have x1 := cell_of b0 1
  have x2 := cell_of b0 2
  have x3 := cell_of b0 3
  have y0 := free_of b0 0
  have y1 := free_of b0 1
  have y2 := free_of b0 2
  have y3 := free_of b0 3
  simp at x0 x1 x2 x3
  have B0 := toHid b0
  clear b0 HR H0 hb0 hz0 hb1
  go_wp2_with fail
  have q1 := put4_here B0.out (.int .i64 x.k) (.int .i64 x.n) (.string x.s) (.slice x.a x.l x.c)
  have e1 := put4_below w1 w.heap.size (.int .i64 x.k) (.int .i64 x.n) (.string x.s) (.slice x.a x.l x.c)
  have z1 : (put4 w1 w.heap.size (.int .i64 x.k) (.int .i64 x.n) (.string x.s) (.slice x.a x.l x.c)).heap.size = w1.heap.size := by simp [put4, World.setCell]
  have o1 : x.ok (fun i => w.heap.size + 1 ≤ i) (put4 w1 w.heap.size (.int .i64 x.k) (.int .i64 x.n) (.string x.s) (.slice x.a x.l x.c)) := hxo.kept (by rw [z1]; exact Nat.le_refl _) (fun i hi hi2 => ⟨hi, put4_other _ _ _ _ _ _ i (by omega) hi2⟩)
  have eP : (((w1.setCell ⟨w.heap.size, 0, none⟩ (.int .i64 x.k)).setCell ⟨w.heap.size, 1, none⟩ (.int .i64 x.n)).setCell ⟨w.heap.size, 2, none⟩ (.string x.s)).setCell ⟨w.heap.size, 3, none⟩ (.slice x.a x.l x.c) = put4 w1 w.heap.size (.int .i64 x.k) (.int .i64 x.n) (.string x.s) (.slice x.a x.l x.c) := rfl
  rw [eP]
  clear eP
  generalize put4 w1 w.heap.size (.int .i64 x.k) (.int .i64 x.n) (.string x.s) (.slice x.a x.l x.c) = V at q1 e1 z1 o1 ⊢
  clear x0 x1 x2 x3 y0 y1 y2 y3 B0
  have hTV : Tabs B V := hT1.below (e1.mono hB)
  have hxin : InT (.node x.k x.n x.s x.L) := by have := HIN.out; rw [← hxt] at this; exact this
  have hbc := bc_all B V (by have := e1.size; omega) hTV 6 0 rfl x.k x.n x.s x.a x.l x.c x.L o1.1 hxin (o1.2.2.lies _ _ _)
  have hct : chk 6 (.node x.k x.n x.s x.L) = 0 := by have := HCK.out; rw [← hxt] at this; exact this
  rw [hct] at hbc
  refine (check_of x.k x.n x.s x.a x.l x.c 0 V fun w2 k2 => (hbc w2 k2).1).mono ?_
  rintro e w2 ⟨rfl, hb2⟩
  have b2 : w2.heap[w.heap.size]? = some (.cells #[.int .i64 x.k, .int .i64 x.n, .string x.s, .slice x.a x.l x.c] 24 (0, 0)) := by rw [hb2.block _ (by omega)]; exact q1
  have o2 : x.ok (fun i => w.heap.size + 1 ≤ i) w2 := o1.kept hb2.size (fun i hi hi2 => ⟨hi, hb2.block i hi2⟩)
  have x0 := cell_of b2 0
  have x1 := cell_of b2 1
  have x2 := cell_of b2 2
  have x3 := cell_of b2 3
  have y0 := free_of b2 0
  have y1 := free_of b2 1
  have y2 := free_of b2 2
  have y3 := free_of b2 3
  simp at x0 x1 x2 x3
  have B2 := toHid b2
  clear b2 q1 o1
  go_wp2_with fail
  have q3 := put4_here B2.out (.int .i64 x.k) (.int .i64 x.n) (.string x.s) (.slice x.a x.l x.c)
  have e3 := put4_below w2 w.heap.size (.int .i64 x.k) (.int .i64 x.n) (.string x.s) (.slice x.a x.l x.c)
  have o3 : x.ok (fun i => w.heap.size ≤ i) (put4 w2 w.heap.size (.int .i64 x.k) (.int .i64 x.n) (.string x.s) (.slice x.a x.l x.c)) := o2.kept e3.size (fun i hi hi2 => ⟨by omega, put4_other _ _ _ _ _ _ i (by omega) hi2⟩)
  have eP : (((w2.setCell ⟨w.heap.size, 0, none⟩ (.int .i64 x.k)).setCell ⟨w.heap.size, 1, none⟩ (.int .i64 x.n)).setCell ⟨w.heap.size, 2, none⟩ (.string x.s)).setCell ⟨w.heap.size, 3, none⟩ (.slice x.a x.l x.c) = put4 w2 w.heap.size (.int .i64 x.k) (.int .i64 x.n) (.string x.s) (.slice x.a x.l x.c) := rfl
  rw [eP]
  clear eP
  generalize put4 w2 w.heap.size (.int .i64 x.k) (.int .i64 x.n) (.string x.s) (.slice x.a x.l x.c) = Z at q3 e3 o3 ⊢
  have t0 := cell_of q3 0
  have t1 := cell_of q3 1
  have t2 := cell_of q3 2
  have t3 := cell_of q3 3
  simp at t0 t1 t2 t3
  refine bodyPost_ret (v := .tuple #[.agg #[.int .i64 x.k, .int .i64 x.n, .string x.s, .slice x.a x.l x.c], .int .i64 0, .int .i64 0]) (by simp [results, Tryd.results4, go_sem, t0, t1, t2, t3]) rfl ⟨x, hxt, rfl, o3, ?_⟩
  exact ((hww.trans e1).trans (hb2.mono (by omega))).trans e3

set_option maxHeartbeats 2000000 in
set_option maxRecDepth 100000 in
theorem parse_told (B : Nat) (text : ByteArray) (t : T) (w : World) (hB : B ≤ w.heap.size) (ht : text.size ≤ 4000) (hT : Tabs B w) (hP : Pow10 B w) (hr : ReadOk text 0 0 t text.size) (hin : InT t) (er : Int) (hck : chk 6 t = er) (her : er ≠ 0) :
    Calls Tryd.prog 4 #[.string text] w fun e w' => e = .returned (.tuple #[.agg #[.int .i64 0, .int .i64 0, .string ⟨#[]⟩, .slice none 0 0], .int .i64 0, .int .i64 er]) ∧ Below w.heap.size w w' := by
  have HR : Hid (∀ W, B ≤ W.heap.size → Tabs B W → Pow10 B W → Calls Tryd.prog 9 #[.string text] W fun e w' => ∃ x : Got, x.tree = t ∧ e = .returned (.tuple #[.agg #[.int .i64 x.k, .int .i64 x.n, .string x.s, .slice x.a x.l x.c], .int .i64 0, .int .i64 0]) ∧ x.ok (fun i => W.heap.size ≤ i) w' ∧ Below W.heap.size W w') := fun W h1 h2 h3 => readAll_tree B text t W h1 ht h2 h3 hr
  have HIN := toHid hin
  have HCK := toHid hck
  have her1 : (er == 0) = false := by simpa using her
  have her2 : (er != 0) = true := by simp only [bne, her1, Bool.not_false]
  clear hr hin hck her
  have hb0 : Below w.heap.size w (w.alloc (.cells #[.int .i64 0, .int .i64 0, .string ⟨#[]⟩, .slice none 0 0] 24)) := (Below.refl _ _).alloc (Nat.le_refl _) _
  have hx0 := alloc_new w (.cells #[.int .i64 0, .int .i64 0, .string ⟨#[]⟩, .slice none 0 0] 24)
  have hz0 : (w.alloc (.cells #[.int .i64 0, .int .i64 0, .string ⟨#[]⟩, .slice none 0 0] 24)).heap.size = w.heap.size + 1 := by simp
  have hbig : ¬ (4000 : Int) < (text.size : Int) := by omega
  have H0 := toHid hx0
  clear hx0
  go_enter Tryd.func4, Tryd.ntmps4
  go_wp2_with fail
  refine (HR.out _ (by omega) (hT.below (hb0.mono hB)) (hP.below (hb0.mono hB))).mono ?_
  rintro e w1 ⟨x, hxt, rfl, hxo, hb1⟩
  rw [hz0] at hb1
  have hxo : x.ok (fun i => w.heap.size + 1 ≤ i) w1 := hxo.kept (Nat.le_refl _) (fun i hi hi2 => ⟨by rw [hz0] at hi; exact hi, rfl⟩)
  have hs1 := hb1.size
  rw [hz0] at hs1
  have b0 : w1.heap[w.heap.size]? = some (.cells #[.int .i64 0, .int .i64 0, .string ⟨#[]⟩, .slice none 0 0] 24 (0, 0)) := by rw [hb1.block _ (by omega)]; exact H0.out
  have hT1 : Tabs B w1 := (hT.below (hb0.mono hB)).below (hb1.mono (by omega))
  have hww : Below w.heap.size w w1 := hb0.trans (hb1.mono (by omega))
  have x0 := cell_of b0 0
  have x1 := cell_of b0 1
  have x2 := cell_of b0 2
  have x3 := cell_of b0 3
  have y0 := free_of b0 0
  have y1 := free_of b0 1
  have y2 := free_of b0 2
  have y3 := free_of b0 3
  simp at x0 x1 x2 x3
  have B0 := toHid b0
  clear b0 HR H0 hb0 hz0 hb1
  go_wp2_with fail
  have q1 := put4_here B0.out (.int .i64 x.k) (.int .i64 x.n) (.string x.s) (.slice x.a x.l x.c)
  have e1 := put4_below w1 w.heap.size (.int .i64 x.k) (.int .i64 x.n) (.string x.s) (.slice x.a x.l x.c)
  have z1 : (put4 w1 w.heap.size (.int .i64 x.k) (.int .i64 x.n) (.string x.s) (.slice x.a x.l x.c)).heap.size = w1.heap.size := by simp [put4, World.setCell]
  have o1 : x.ok (fun i => w.heap.size + 1 ≤ i) (put4 w1 w.heap.size (.int .i64 x.k) (.int .i64 x.n) (.string x.s) (.slice x.a x.l x.c)) := hxo.kept (by rw [z1]; exact Nat.le_refl _) (fun i hi hi2 => ⟨hi, put4_other _ _ _ _ _ _ i (by omega) hi2⟩)
  have eP : (((w1.setCell ⟨w.heap.size, 0, none⟩ (.int .i64 x.k)).setCell ⟨w.heap.size, 1, none⟩ (.int .i64 x.n)).setCell ⟨w.heap.size, 2, none⟩ (.string x.s)).setCell ⟨w.heap.size, 3, none⟩ (.slice x.a x.l x.c) = put4 w1 w.heap.size (.int .i64 x.k) (.int .i64 x.n) (.string x.s) (.slice x.a x.l x.c) := rfl
  rw [eP]
  clear eP
  generalize put4 w1 w.heap.size (.int .i64 x.k) (.int .i64 x.n) (.string x.s) (.slice x.a x.l x.c) = V at q1 e1 z1 o1 ⊢
  clear x0 x1 x2 x3 y0 y1 y2 y3 B0
  have hTV : Tabs B V := hT1.below (e1.mono hB)
  have hxin : InT (.node x.k x.n x.s x.L) := by have := HIN.out; rw [← hxt] at this; exact this
  have hbc := bc_all B V (by have := e1.size; omega) hTV 6 0 rfl x.k x.n x.s x.a x.l x.c x.L o1.1 hxin (o1.2.2.lies _ _ _)
  have hct : chk 6 (.node x.k x.n x.s x.L) = er := by have := HCK.out; rw [← hxt] at this; exact this
  rw [hct] at hbc
  refine (check_of x.k x.n x.s x.a x.l x.c er V fun w2 k2 => (hbc w2 k2).1).mono ?_
  rintro e w2 ⟨rfl, hb2⟩
  have b2 : w2.heap[w.heap.size]? = some (.cells #[.int .i64 x.k, .int .i64 x.n, .string x.s, .slice x.a x.l x.c] 24 (0, 0)) := by rw [hb2.block _ (by omega)]; exact q1
  have x0 := cell_of b2 0
  have x1 := cell_of b2 1
  have x2 := cell_of b2 2
  have x3 := cell_of b2 3
  have y0 := free_of b2 0
  have y1 := free_of b2 1
  have y2 := free_of b2 2
  have y3 := free_of b2 3
  simp at x0 x1 x2 x3
  have B2 := toHid b2
  clear b2 q1 o1
  go_wp2_with fail
  have q3 := put4_here B2.out (.int .i64 0) (.int .i64 0) (.string ⟨#[]⟩) (.slice none 0 0)
  have e3 := put4_below w2 w.heap.size (.int .i64 0) (.int .i64 0) (.string ⟨#[]⟩) (.slice none 0 0)
  have eP : (((w2.setCell ⟨w.heap.size, 0, none⟩ (.int .i64 0)).setCell ⟨w.heap.size, 1, none⟩ (.int .i64 0)).setCell ⟨w.heap.size, 2, none⟩ (.string ⟨#[]⟩)).setCell ⟨w.heap.size, 3, none⟩ (.slice none 0 0) = put4 w2 w.heap.size (.int .i64 0) (.int .i64 0) (.string ⟨#[]⟩) (.slice none 0 0) := rfl
  rw [eP]
  clear eP
  generalize put4 w2 w.heap.size (.int .i64 0) (.int .i64 0) (.string ⟨#[]⟩) (.slice none 0 0) = Z at q3 e3 ⊢
  have t0 := cell_of q3 0
  have t1 := cell_of q3 1
  have t2 := cell_of q3 2
  have t3 := cell_of q3 3
  simp at t0 t1 t2 t3
  refine bodyPost_ret (v := .tuple #[.agg #[.int .i64 0, .int .i64 0, .string ⟨#[]⟩, .slice none 0 0], .int .i64 0, .int .i64 er]) (by simp [results, Tryd.results4, go_sem, t0, t1, t2, t3]) rfl ⟨rfl, ?_⟩
  exact ((hww.trans e1).trans (hb2.mono (by omega))).trans e3

set_option maxHeartbeats 2000000 in
set_option maxRecDepth 100000 in
theorem parse_gave (B : Nat) (text : ByteArray) (a : Nat) (w : World) (hB : B ≤ w.heap.size) (ht : text.size ≤ 4000) (hT : Tabs B w) (hP : Pow10 B w) (hV : ErrV B w)
    (hr : ∀ W, B ≤ W.heap.size → Tabs B W → Pow10 B W → ErrV B W → Calls Tryd.prog 9 #[.string text] W fun e w' => e = .returned (.tuple #[.agg #[.int .i64 0, .int .i64 0, .string ⟨#[]⟩, .slice none 0 0], .int .i64 a, .int .i64 1]) ∧ Below W.heap.size W w') :
    Calls Tryd.prog 4 #[.string text] w fun e w' => e = .returned (.tuple #[.agg #[.int .i64 0, .int .i64 0, .string ⟨#[]⟩, .slice none 0 0], .int .i64 a, .int .i64 1]) ∧ Below w.heap.size w w' := by
  have HR := toHid hr
  clear hr
  have hb0 : Below w.heap.size w (w.alloc (.cells #[.int .i64 0, .int .i64 0, .string ⟨#[]⟩, .slice none 0 0] 24)) := (Below.refl _ _).alloc (Nat.le_refl _) _
  have hx0 := alloc_new w (.cells #[.int .i64 0, .int .i64 0, .string ⟨#[]⟩, .slice none 0 0] 24)
  have hz0 : (w.alloc (.cells #[.int .i64 0, .int .i64 0, .string ⟨#[]⟩, .slice none 0 0] 24)).heap.size = w.heap.size + 1 := by simp
  have hbig : ¬ (4000 : Int) < (text.size : Int) := by omega
  have H0 := toHid hx0
  clear hx0
  go_enter Tryd.func4, Tryd.ntmps4
  go_wp2_with fail
  refine (HR.out _ (by omega) (hT.below (hb0.mono hB)) (hP.below (hb0.mono hB)) (hV.below (hb0.mono hB))).mono ?_
  rintro e w1 ⟨rfl, hb1⟩
  rw [hz0] at hb1
  have hs1 := hb1.size
  rw [hz0] at hs1
  have b0 : w1.heap[w.heap.size]? = some (.cells #[.int .i64 0, .int .i64 0, .string ⟨#[]⟩, .slice none 0 0] 24 (0, 0)) := by rw [hb1.block _ (by omega)]; exact H0.out
  have hww : Below w.heap.size w w1 := hb0.trans (hb1.mono (by omega))
  have x0 := cell_of b0 0
  have x1 := cell_of b0 1
  have x2 := cell_of b0 2
  have x3 := cell_of b0 3
  have y0 := free_of b0 0
  have y1 := free_of b0 1
  have y2 := free_of b0 2
  have y3 := free_of b0 3
  simp at x0 x1 x2 x3
  have q1 := put4_here b0 (.int .i64 0) (.int .i64 0) (.string ⟨#[]⟩) (.slice none 0 0)
  have e1 := put4_below w1 w.heap.size (.int .i64 0) (.int .i64 0) (.string ⟨#[]⟩) (.slice none 0 0)
  have q3 := put4_here q1 (.int .i64 0) (.int .i64 0) (.string ⟨#[]⟩) (.slice none 0 0)
  have e3 := put4_below (put4 w1 w.heap.size (.int .i64 0) (.int .i64 0) (.string ⟨#[]⟩) (.slice none 0 0)) w.heap.size (.int .i64 0) (.int .i64 0) (.string ⟨#[]⟩) (.slice none 0 0)
  have Q3 := toHid q3
  have E3 := toHid ((hww.trans e1).trans e3)
  clear b0 HR H0 hb0 hz0 hb1 q1 q3 e1 e3
  go_wp2_with fail
  change bodyPost Tryd.prog Tryd.f4 _ Exit.ret _ (put4 (put4 w1 w.heap.size (.int .i64 0) (.int .i64 0) (.string ⟨#[]⟩) (.slice none 0 0)) w.heap.size (.int .i64 0) (.int .i64 0) (.string ⟨#[]⟩) (.slice none 0 0))
  generalize put4 (put4 w1 w.heap.size (.int .i64 0) (.int .i64 0) (.string ⟨#[]⟩) (.slice none 0 0)) w.heap.size (.int .i64 0) (.int .i64 0) (.string ⟨#[]⟩) (.slice none 0 0) = Z at Q3 E3 ⊢
  have t0 := cell_of Q3.out 0
  have t1 := cell_of Q3.out 1
  have t2 := cell_of Q3.out 2
  have t3 := cell_of Q3.out 3
  simp at t0 t1 t2 t3
  exact bodyPost_ret (v := .tuple #[.agg #[.int .i64 0, .int .i64 0, .string ⟨#[]⟩, .slice none 0 0], .int .i64 a, .int .i64 1]) (by simp [results, Tryd.results4, go_sem, t0, t1, t2, t3]) rfl ⟨rfl, E3.out⟩

set_option maxHeartbeats 2000000 in
set_option maxRecDepth 100000 in
theorem parse_long (text : ByteArray) (w : World) (ht : 4000 < text.size) (hmx : text.size ≤ 9223372036854775807) :
    Calls Tryd.prog 4 #[.string text] w fun e w' => e = .returned (.tuple #[.agg #[.int .i64 0, .int .i64 0, .string ⟨#[]⟩, .slice none 0 0], .int .i64 0, .int .i64 2]) ∧ Below w.heap.size w w' := by
  have hb0 : Below w.heap.size w (w.alloc (.cells #[.int .i64 0, .int .i64 0, .string ⟨#[]⟩, .slice none 0 0] 24)) := (Below.refl _ _).alloc (Nat.le_refl _) _
  have b0 := alloc_new w (.cells #[.int .i64 0, .int .i64 0, .string ⟨#[]⟩, .slice none 0 0] 24)
  have hbig : (4000 : Int) < (text.size : Int) := by omega
  have Q3 := toHid b0
  have E3 := toHid hb0
  clear b0 hb0 ht
  go_enter Tryd.func4, Tryd.ntmps4
  go_wp2_with fail
  generalize w.alloc (.cells #[.int .i64 0, .int .i64 0, .string ⟨#[]⟩, .slice none 0 0] 24) = Z at Q3 E3 ⊢
  have t0 := cell_of Q3.out 0
  have t1 := cell_of Q3.out 1
  have t2 := cell_of Q3.out 2
  have t3 := cell_of Q3.out 3
  simp at t0 t1 t2 t3
  exact bodyPost_ret (v := .tuple #[.agg #[.int .i64 0, .int .i64 0, .string ⟨#[]⟩, .slice none 0 0], .int .i64 0, .int .i64 2]) (by simp [results, Tryd.results4, go_sem, t0, t1, t2, t3]) rfl ⟨rfl, E3.out⟩

theorem InL.snoc : ∀ (L : List T) {t : T}, InL L → InT t → InL (L ++ [t])
  | [], t, _, h => by
    show InL [t]
    unfold InL InL
    exact ⟨h, trivial⟩
  | u :: us, t, hL, h => by
    unfold InL at hL
    show InL (u :: (us ++ [t]))
    unfold InL
    exact ⟨hL.1, InL.snoc us hL.2 h⟩

theorem list_in {g : Nat → Except Nat (T × Nat)} {text : ByteArray} (hg : ∀ p t q, g p = .ok (t, q) → InT t) : ∀ (f p : Nat) (acc : List T) (t : T) (q : Nat), InL acc → listF g text f p acc = .ok (t, q) → InT t
  | 0, p, acc, t, q, ha, h => by unfold listF at h; cases h
  | f + 1, p, acc, t, q, ha, h => by
    unfold listF at h
    split at h
    · cases h
    · rename_i t1 q1 hv
      have h2 := hg _ _ _ hv
      have h3 : InL (acc ++ [t1]) := InL.snoc acc ha h2
      split at h
      · injection h with h; injection h with h5 h6
        subst h5
        unfold InT
        exact ⟨by omega, h3⟩
      split at h
      · exact list_in hg f (q1 + 1) _ _ _ h3 h
      · cases h

theorem val_in {text : ByteArray} : ∀ (d p : Nat) (t : T) (q : Nat), valF d text p = .ok (t, q) → InT t := by
  have flat : ∀ (k n : Int) (s : ByteArray), -9223372036854775808 ≤ n → n ≤ 9223372036854775807 → InT (.node k n s []) := fun k n s h1 h2 => by
    unfold InT InL
    exact ⟨⟨h1, h2⟩, trivial⟩
  have num : ∀ (p : Nat) (n : Int) (q : Nat), numP text p = .ok (n, q) → InT (.node 2 n ⟨#[]⟩ []) := fun p n q hx => by
    have := Lib.atoiAll_bounds (numP_ok hx).2.1
    exact flat _ _ _ this.1 this.2
  intro d
  induction d with
  | zero =>
    intro p t q h
    unfold valF at h
    split at h
    · injection h with h; injection h with h5 _; subst h5; exact flat _ _ _ (by omega) (by omega)
    split at h
    · injection h with h; injection h with h5 _; subst h5; exact flat _ _ _ (by omega) (by omega)
    split at h
    · injection h with h; injection h with h5 _; subst h5; exact flat _ _ _ (by omega) (by omega)
    split at h
    · split at h
      · cases h
      · injection h with h; injection h with h5 _; subst h5; exact flat _ _ _ (by omega) (by omega)
    split at h
    · cases h
    · split at h
      · cases h
      · rename_i n q1 hx
        injection h with h; injection h with h5 _; subst h5; exact num _ _ _ hx
  | succ d ih =>
    intro p t q h
    unfold valF at h
    split at h
    · injection h with h; injection h with h5 _; subst h5; exact flat _ _ _ (by omega) (by omega)
    split at h
    · injection h with h; injection h with h5 _; subst h5; exact flat _ _ _ (by omega) (by omega)
    split at h
    · injection h with h; injection h with h5 _; subst h5; exact flat _ _ _ (by omega) (by omega)
    split at h
    · split at h
      · cases h
      · injection h with h; injection h with h5 _; subst h5; exact flat _ _ _ (by omega) (by omega)
    split at h
    · dsimp only at h
      split at h
      · injection h with h; injection h with h5 _; subst h5; exact flat _ _ _ (by omega) (by omega)
      · exact list_in (fun p t q h => ih p t q h) _ _ _ _ _ (by unfold InL; trivial) h
    · split at h
      · cases h
      · rename_i n q1 hx
        injection h with h; injection h with h5 _; subst h5; exact num _ _ _ hx

/-- What value.Parse answers of a text that isn't too long. -/
def PaEnd (text : ByteArray) (w w' : World) (e : Ending) : Prop :=
  match readF text with
  | .error a => e = .returned (.tuple #[.agg #[.int .i64 0, .int .i64 0, .string ⟨#[]⟩, .slice none 0 0], .int .i64 a, .int .i64 1])
  | .ok t => if chk 6 t = 0 then (∃ x : Got, x.tree = t ∧ e = .returned (.tuple #[.agg #[.int .i64 x.k, .int .i64 x.n, .string x.s, .slice x.a x.l x.c], .int .i64 0, .int .i64 0]) ∧ x.ok (fun i => w.heap.size ≤ i) w') else e = .returned (.tuple #[.agg #[.int .i64 0, .int .i64 0, .string ⟨#[]⟩, .slice none 0 0], .int .i64 0, .int .i64 (chk 6 t)])

theorem parse_all (B : Nat) (text : ByteArray) (w : World) (hB : B ≤ w.heap.size) (ht : text.size ≤ 4000) (hT : Tabs B w) (hP : Pow10 B w) (hV : ErrV B w) :
    Calls Tryd.prog 4 #[.string text] w fun e w' => PaEnd text w w' e ∧ Below w.heap.size w w' := by
  obtain ⟨h1, h2⟩ := val_both ht 40 0 (Nat.le_refl _) (Nat.zero_le _)
  cases hx : valF 40 text 0 with
  | error a =>
    have e0 : readF text = .error a := by unfold readF; rw [hx]
    refine (parse_gave B text a w hB ht hT hP hV fun W g1 g2 g3 g4 => readAll_gave B text a W g1 ht g2 g3 g4 (h2 a hx)).mono ?_
    rintro e w' ⟨rfl, hb⟩
    exact ⟨by unfold PaEnd; rw [e0], hb⟩
  | ok tq =>
    obtain ⟨t, q⟩ := tq
    by_cases hq : q < text.size
    · have e0 : readF text = .error q := by unfold readF; rw [hx]; exact if_pos hq
      refine (parse_gave B text q w hB ht hT hP hV fun W g1 g2 g3 g4 => readAll_left B text t q W g1 ht g2 g3 g4 (h1 t q hx) hq).mono ?_
      rintro e w' ⟨rfl, hb⟩
      exact ⟨by unfold PaEnd; rw [e0], hb⟩
    · have hqs : q = text.size := by have := (valF_le 40 0 t q (Nat.zero_le _) hx).2; omega
      subst hqs
      have e0 : readF text = .ok t := by unfold readF; rw [hx]; exact if_neg hq
      have hin := val_in 40 0 t _ hx
      by_cases hc : chk 6 t = 0
      · refine (parse_good B text t w hB ht hT hP (h1 t _ hx) hin hc).mono ?_
        rintro e w' ⟨x, h3, h4, h5, hb⟩
        refine ⟨?_, hb⟩
        unfold PaEnd
        rw [e0]
        exact (if_pos hc).mpr ⟨x, h3, h4, h5⟩
      · refine (parse_told B text t w hB ht hT hP (h1 t _ hx) hin _ rfl hc).mono ?_
        rintro e w' ⟨rfl, hb⟩
        refine ⟨?_, hb⟩
        unfold PaEnd
        rw [e0]
        exact (if_neg hc).mpr rfl
end Go.Proofs.YtdbodcfodlbgnaaDoor
