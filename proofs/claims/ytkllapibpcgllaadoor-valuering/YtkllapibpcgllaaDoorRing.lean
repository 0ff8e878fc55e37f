/-
  What is proved here: the law ValueRing answers true, given what value.Reckon answers of the values that it makes; one theorem for each way through the law's last test.
-/
import Derived.Test.YtkllapibpcgllaaDoorReckon
namespace Go.Proofs.YtkllapibpcgllaaDoor
open Go.RowKit
set_option linter.unusedVariables false

/-- A value without text and list lies at a block. -/
def BoxAt (w : World) (b : Nat) (k n : Int) : Prop := b < w.heap.size ∧ w.heap[b]? = some (.cells #[.int .i64 k, .int .i64 n, .string ⟨#[]⟩, .slice none 0 0] 24 (0, 0))

theorem BoxAt.next {w w' : World} {b : Nat} {k n : Int} (h : BoxAt w b k n) (hb : Below w.heap.size w w') : BoxAt w' b k n :=
  ⟨Nat.lt_of_lt_of_le h.1 hb.size, by rw [hb.block b h.1]; exact h.2⟩

theorem BoxAt.alloc {w : World} {b : Nat} {k n : Int} (h : BoxAt w b k n) (o : Obj) : BoxAt (w.alloc o) b k n := h.next ((Below.refl _ _).alloc (Nat.le_refl _) _)

theorem BoxAt.new (w : World) (k n : Int) : BoxAt (w.alloc (.cells #[.int .i64 k, .int .i64 n, .string ⟨#[]⟩, .slice none 0 0] 24)) w.heap.size k n := ⟨by simp, alloc_new _ _⟩

theorem BoxAt.cells {w : World} {b : Nat} {k n : Int} (h : BoxAt w b k n) : w.cell? ⟨b, 0, none⟩ = some (.int .i64 k) ∧ w.cell? ⟨b, 1, none⟩ = some (.int .i64 n) ∧ w.cell? ⟨b, 2, none⟩ = some (.string ⟨#[]⟩) ∧ w.cell? ⟨b, 3, none⟩ = some (.slice none 0 0) :=
  ⟨cell_of h.2 0, cell_of h.2 1, cell_of h.2 2, cell_of h.2 3⟩

/-- A value is the same as itself. -/
theorem same_self (k n : Int) (w : World) : Calls Tryd.prog 13 #[.agg #[.int .i64 k, .int .i64 n, .string ⟨#[]⟩, .slice none 0 0], .agg #[.int .i64 k, .int .i64 n, .string ⟨#[]⟩, .slice none 0 0]] w fun e w' => e = .returned (.bool true) ∧ Below w.heap.size w w' :=
  same_of k n ⟨#[]⟩ none 0 0 k n ⟨#[]⟩ none 0 0 0 w (fun w' _ => order_empty k n ⟨#[]⟩ none none 0 0 0 0 0 w' (by omega) (by omega) (.inl rfl) (fun _ => rfl) (fun h => absurd h (Nat.lt_irrefl _)) (fun h => absurd h (Nat.lt_irrefl _)))

set_option maxHeartbeats 8000000 in
set_option maxRecDepth 100000 in
theorem ring_0 (a b c kp np ep kl nl el km nm em kn nn en ks ns es : Int) (w : World) (h1 : ∀ W, Calls Tryd.prog 21 #[.string ⟨#[43]⟩, .agg #[.int .i64 2, .int .i64 a, .string ⟨#[]⟩, .slice none 0 0], .agg #[.int .i64 2, .int .i64 b, .string ⟨#[]⟩, .slice none 0 0]] W fun e w' => e = .returned (.tuple #[.agg #[.int .i64 kp, .int .i64 np, .string ⟨#[]⟩, .slice none 0 0], .int .i64 ep]) ∧ Below W.heap.size W w') (h2 : ∀ W, Calls Tryd.prog 21 #[.string ⟨#[43]⟩, .agg #[.int .i64 2, .int .i64 b, .string ⟨#[]⟩, .slice none 0 0], .agg #[.int .i64 2, .int .i64 a, .string ⟨#[]⟩, .slice none 0 0]] W fun e w' => e = .returned (.tuple #[.agg #[.int .i64 kp, .int .i64 np, .string ⟨#[]⟩, .slice none 0 0], .int .i64 ep]) ∧ Below W.heap.size W w') (hv : ∀ W, Below w.heap.size w W → Calls Tryd.prog 8 #[] W fun e w' => e = .returned (.bool true) ∧ Below W.heap.size W w') (h3 : ∀ W, Calls Tryd.prog 21 #[.string ⟨#[42]⟩, .agg #[.int .i64 kp, .int .i64 np, .string ⟨#[]⟩, .slice none 0 0], .agg #[.int .i64 2, .int .i64 c, .string ⟨#[]⟩, .slice none 0 0]] W fun e w' => e = .returned (.tuple #[.agg #[.int .i64 kl, .int .i64 nl, .string ⟨#[]⟩, .slice none 0 0], .int .i64 el]) ∧ Below W.heap.size W w') (h4 : ∀ W, Calls Tryd.prog 21 #[.string ⟨#[42]⟩, .agg #[.int .i64 2, .int .i64 a, .string ⟨#[]⟩, .slice none 0 0], .agg #[.int .i64 2, .int .i64 c, .string ⟨#[]⟩, .slice none 0 0]] W fun e w' => e = .returned (.tuple #[.agg #[.int .i64 km, .int .i64 nm, .string ⟨#[]⟩, .slice none 0 0], .int .i64 em]) ∧ Below W.heap.size W w') (h5 : ∀ W, Calls Tryd.prog 21 #[.string ⟨#[42]⟩, .agg #[.int .i64 2, .int .i64 b, .string ⟨#[]⟩, .slice none 0 0], .agg #[.int .i64 2, .int .i64 c, .string ⟨#[]⟩, .slice none 0 0]] W fun e w' => e = .returned (.tuple #[.agg #[.int .i64 kn, .int .i64 nn, .string ⟨#[]⟩, .slice none 0 0], .int .i64 en]) ∧ Below W.heap.size W w') (h6 : ∀ W, Calls Tryd.prog 21 #[.string ⟨#[43]⟩, .agg #[.int .i64 km, .int .i64 nm, .string ⟨#[]⟩, .slice none 0 0], .agg #[.int .i64 kn, .int .i64 nn, .string ⟨#[]⟩, .slice none 0 0]] W fun e w' => e = .returned (.tuple #[.agg #[.int .i64 ks, .int .i64 ns, .string ⟨#[]⟩, .slice none 0 0], .int .i64 es]) ∧ Below W.heap.size W w') (t0 : (kp == 0) = true)  :
    Calls Tryd.prog 7 #[.int .i64 a, .int .i64 b, .int .i64 c] w fun e w' => e = .returned (.bool true) ∧ Below w.heap.size w w' := by
  have Hh1 := toHid h1
  have Hh2 := toHid h2
  have Hh3 := toHid h3
  have Hh4 := toHid h4
  have Hh5 := toHid h5
  have Hh6 := toHid h6
  have Hhv := toHid hv
  clear h1 h2 h3 h4 h5 h6 hv
  go_enter Tryd.func7, Tryd.ntmps7
  go_wp2_with fail
  refine (num_any _ _).mono ?_
  rintro e w1 ⟨rfl, b1⟩
  go_wp2_with fail
  refine (num_any _ _).mono ?_
  rintro e w2 ⟨rfl, b2⟩
  go_wp2_with fail
  refine (num_any _ _).mono ?_
  rintro e w3 ⟨rfl, b3⟩
  have k3 : Below w.heap.size w w3 := (b1.trans (b2.mono b1.size)).trans (b3.mono (Nat.le_trans b1.size b2.size))
  clear b1 b2 b3
  have q7 : BoxAt (((w3.alloc (.cells #[.int .i64 2, .int .i64 a, .string ⟨#[]⟩, .slice none 0 0] 24)).alloc (.cells #[.int .i64 2, .int .i64 b, .string ⟨#[]⟩, .slice none 0 0] 24)).alloc (.cells #[.int .i64 2, .int .i64 c, .string ⟨#[]⟩, .slice none 0 0] 24)) w3.heap.size 2 a := ((BoxAt.new w3 2 a).alloc _).alloc _
  have q8 : BoxAt (((w3.alloc (.cells #[.int .i64 2, .int .i64 a, .string ⟨#[]⟩, .slice none 0 0] 24)).alloc (.cells #[.int .i64 2, .int .i64 b, .string ⟨#[]⟩, .slice none 0 0] 24)).alloc (.cells #[.int .i64 2, .int .i64 c, .string ⟨#[]⟩, .slice none 0 0] 24)) (w3.heap.size + 1) 2 b := by
    have := (BoxAt.new (w3.alloc (.cells #[.int .i64 2, .int .i64 a, .string ⟨#[]⟩, .slice none 0 0] 24)) 2 b).alloc (.cells #[.int .i64 2, .int .i64 c, .string ⟨#[]⟩, .slice none 0 0] 24)
    rw [show (w3.alloc (.cells #[.int .i64 2, .int .i64 a, .string ⟨#[]⟩, .slice none 0 0] 24)).heap.size = w3.heap.size + 1 from by simp] at this
    exact this
  have q9 : BoxAt (((w3.alloc (.cells #[.int .i64 2, .int .i64 a, .string ⟨#[]⟩, .slice none 0 0] 24)).alloc (.cells #[.int .i64 2, .int .i64 b, .string ⟨#[]⟩, .slice none 0 0] 24)).alloc (.cells #[.int .i64 2, .int .i64 c, .string ⟨#[]⟩, .slice none 0 0] 24)) (w3.heap.size + 1 + 1) 2 c := by
    have := BoxAt.new ((w3.alloc (.cells #[.int .i64 2, .int .i64 a, .string ⟨#[]⟩, .slice none 0 0] 24)).alloc (.cells #[.int .i64 2, .int .i64 b, .string ⟨#[]⟩, .slice none 0 0] 24)) 2 c
    rw [show ((w3.alloc (.cells #[.int .i64 2, .int .i64 a, .string ⟨#[]⟩, .slice none 0 0] 24)).alloc (.cells #[.int .i64 2, .int .i64 b, .string ⟨#[]⟩, .slice none 0 0] 24)).heap.size = w3.heap.size + 1 + 1 from by simp] at this
    exact this
  have j3 : Below w.heap.size w (((w3.alloc (.cells #[.int .i64 2, .int .i64 a, .string ⟨#[]⟩, .slice none 0 0] 24)).alloc (.cells #[.int .i64 2, .int .i64 b, .string ⟨#[]⟩, .slice none 0 0] 24)).alloc (.cells #[.int .i64 2, .int .i64 c, .string ⟨#[]⟩, .slice none 0 0] 24)) := ((k3.alloc k3.size _).alloc (by have := k3.size; simp; omega) _).alloc (by have := k3.size; simp; omega) _
  have z3 : w.heap.size ≤ (((w3.alloc (.cells #[.int .i64 2, .int .i64 a, .string ⟨#[]⟩, .slice none 0 0] 24)).alloc (.cells #[.int .i64 2, .int .i64 b, .string ⟨#[]⟩, .slice none 0 0] 24)).alloc (.cells #[.int .i64 2, .int .i64 c, .string ⟨#[]⟩, .slice none 0 0] 24)).heap.size := j3.size
  have Q7 := toHid q7
  have Q8 := toHid q8
  have Q9 := toHid q9
  have J3 := toHid j3
  have Z3 := toHid z3
  clear q7 q8 q9 j3 z3 k3
  go_wp2_with fail
  refine (Hh1.out _).mono ?_
  rintro e w4 ⟨rfl, b4⟩
  have j4 : Below w.heap.size w w4 := J3.out.trans (b4.mono Z3.out)
  have q7 := Q7.out.next b4
  have q8 := Q8.out.next b4
  have q9 := Q9.out.next b4
  clear b4 Q7 Q8 Q9
  obtain ⟨x70, x71, x72, x73⟩ := q7.cells
  have l7 := q7.1
  obtain ⟨x80, x81, x82, x83⟩ := q8.cells
  have l8 := q8.1
  have r7 := toHid (q7.alloc (.cells #[.int .i64 kp, .int .i64 np, .string ⟨#[]⟩, .slice none 0 0] 24))
  have r8 := toHid (q8.alloc (.cells #[.int .i64 kp, .int .i64 np, .string ⟨#[]⟩, .slice none 0 0] 24))
  have r9 := toHid (q9.alloc (.cells #[.int .i64 kp, .int .i64 np, .string ⟨#[]⟩, .slice none 0 0] 24))
  have r10 := toHid (BoxAt.new w4 kp np)
  have J4 := toHid (j4.alloc j4.size (.cells #[.int .i64 kp, .int .i64 np, .string ⟨#[]⟩, .slice none 0 0] 24))
  have Z4 := toHid J4.out.size
  clear q7 q8 q9 j4
  have Q7 := r7
  have Q8 := r8
  have Q9 := r9
  have Q10 := r10
  clear r7 r8 r9 r10 J3 Z3
  go_wp2_with fail
  clear x70 x71 x72 x73 l7 x80 x81 x82 x83 l8
  refine (Hh2.out _).mono ?_
  rintro e w5 ⟨rfl, b5⟩
  have j5 : Below w.heap.size w w5 := J4.out.trans (b5.mono Z4.out)
  have q7 := Q7.out.next b5
  have q8 := Q8.out.next b5
  have q9 := Q9.out.next b5
  have q10 := Q10.out.next b5
  clear b5 Q7 Q8 Q9 Q10
  have r7 := toHid (q7.alloc (.cells #[.int .i64 kp, .int .i64 np, .string ⟨#[]⟩, .slice none 0 0] 24))
  have r8 := toHid (q8.alloc (.cells #[.int .i64 kp, .int .i64 np, .string ⟨#[]⟩, .slice none 0 0] 24))
  have r9 := toHid (q9.alloc (.cells #[.int .i64 kp, .int .i64 np, .string ⟨#[]⟩, .slice none 0 0] 24))
  have r10 := toHid (q10.alloc (.cells #[.int .i64 kp, .int .i64 np, .string ⟨#[]⟩, .slice none 0 0] 24))
  have r12 := toHid (BoxAt.new w5 kp np)
  have J5 := toHid (j5.alloc j5.size (.cells #[.int .i64 kp, .int .i64 np, .string ⟨#[]⟩, .slice none 0 0] 24))
  have Z5 := toHid J5.out.size
  clear q7 q8 q9 q10 j5
  have Q7 := r7
  have Q8 := r8
  have Q9 := r9
  have Q10 := r10
  have Q12 := r12
  clear r7 r8 r9 r10 r12 J4 Z4
  go_wp2_with fail
  refine (Hhv.out _ J5.out).mono ?_
  rintro e w6 ⟨rfl, b6⟩
  have j6 : Below w.heap.size w w6 := J5.out.trans (b6.mono Z5.out)
  have q7 := Q7.out.next b6
  have q8 := Q8.out.next b6
  have q9 := Q9.out.next b6
  have q10 := Q10.out.next b6
  have q12 := Q12.out.next b6
  clear b6 Q7 Q8 Q9 Q10 Q12
  obtain ⟨x100, x101, x102, x103⟩ := q10.cells
  have l10 := q10.1
  obtain ⟨x120, x121, x122, x123⟩ := q12.cells
  have l12 := q12.1
  have r7 := toHid q7
  have r8 := toHid q8
  have r9 := toHid q9
  have r10 := toHid q10
  have r12 := toHid q12
  have J6 := toHid j6
  have Z6 := toHid j6.size
  clear q7 q8 q9 q10 q12 j6
  have Q7 := r7
  have Q8 := r8
  have Q9 := r9
  have Q10 := r10
  have Q12 := r12
  clear r7 r8 r9 r10 r12 J5 Z5
  go_wp2_with fail
  clear x100 x101 x102 x103 l10 x120 x121 x122 x123 l12
  refine (same_self _ _ _).mono ?_
  rintro e w7 ⟨rfl, b7⟩
  have j7 : Below w.heap.size w w7 := J6.out.trans (b7.mono Z6.out)
  have q7 := Q7.out.next b7
  have q8 := Q8.out.next b7
  have q9 := Q9.out.next b7
  have q10 := Q10.out.next b7
  have q12 := Q12.out.next b7
  clear b7 Q7 Q8 Q9 Q10 Q12
  obtain ⟨x100, x101, x102, x103⟩ := q10.cells
  have l10 := q10.1
  obtain ⟨x90, x91, x92, x93⟩ := q9.cells
  have l9 := q9.1
  have r7 := toHid q7
  have r8 := toHid q8
  have r9 := toHid q9
  have r10 := toHid q10
  have r12 := toHid q12
  have J7 := toHid j7
  have Z7 := toHid j7.size
  clear q7 q8 q9 q10 q12 j7
  have Q7 := r7
  have Q8 := r8
  have Q9 := r9
  have Q10 := r10
  have Q12 := r12
  clear r7 r8 r9 r10 r12 J6 Z6
  go_wp2_with fail
  clear x100 x101 x102 x103 l10 x90 x91 x92 x93 l9
  refine (Hh3.out _).mono ?_
  rintro e w8 ⟨rfl, b8⟩
  have j8 : Below w.heap.size w w8 := J7.out.trans (b8.mono Z7.out)
  have q7 := Q7.out.next b8
  have q8 := Q8.out.next b8
  have q9 := Q9.out.next b8
  have q10 := Q10.out.next b8
  have q12 := Q12.out.next b8
  clear b8 Q7 Q8 Q9 Q10 Q12
  obtain ⟨x70, x71, x72, x73⟩ := q7.cells
  have l7 := q7.1
  obtain ⟨x90, x91, x92, x93⟩ := q9.cells
  have l9 := q9.1
  have r7 := toHid (q7.alloc (.cells #[.int .i64 kl, .int .i64 nl, .string ⟨#[]⟩, .slice none 0 0] 24))
  have r8 := toHid (q8.alloc (.cells #[.int .i64 kl, .int .i64 nl, .string ⟨#[]⟩, .slice none 0 0] 24))
  have r9 := toHid (q9.alloc (.cells #[.int .i64 kl, .int .i64 nl, .string ⟨#[]⟩, .slice none 0 0] 24))
  have r10 := toHid (q10.alloc (.cells #[.int .i64 kl, .int .i64 nl, .string ⟨#[]⟩, .slice none 0 0] 24))
  have r12 := toHid (q12.alloc (.cells #[.int .i64 kl, .int .i64 nl, .string ⟨#[]⟩, .slice none 0 0] 24))
  have r14 := toHid (BoxAt.new w8 kl nl)
  have J8 := toHid (j8.alloc j8.size (.cells #[.int .i64 kl, .int .i64 nl, .string ⟨#[]⟩, .slice none 0 0] 24))
  have Z8 := toHid J8.out.size
  clear q7 q8 q9 q10 q12 j8
  have Q7 := r7
  have Q8 := r8
  have Q9 := r9
  have Q10 := r10
  have Q12 := r12
  have Q14 := r14
  clear r7 r8 r9 r10 r12 r14 J7 Z7
  go_wp2_with fail
  clear x70 x71 x72 x73 l7 x90 x91 x92 x93 l9
  refine (Hh4.out _).mono ?_
  rintro e w9 ⟨rfl, b9⟩
  have j9 : Below w.heap.size w w9 := J8.out.trans (b9.mono Z8.out)
  have q7 := Q7.out.next b9
  have q8 := Q8.out.next b9
  have q9 := Q9.out.next b9
  have q10 := Q10.out.next b9
  have q12 := Q12.out.next b9
  have q14 := Q14.out.next b9
  clear b9 Q7 Q8 Q9 Q10 Q12 Q14
  obtain ⟨x80, x81, x82, x83⟩ := q8.cells
  have l8 := q8.1
  obtain ⟨x90, x91, x92, x93⟩ := q9.cells
  have l9 := q9.1
  have r7 := toHid (q7.alloc (.cells #[.int .i64 km, .int .i64 nm, .string ⟨#[]⟩, .slice none 0 0] 24))
  have r8 := toHid (q8.alloc (.cells #[.int .i64 km, .int .i64 nm, .string ⟨#[]⟩, .slice none 0 0] 24))
  have r9 := toHid (q9.alloc (.cells #[.int .i64 km, .int .i64 nm, .string ⟨#[]⟩, .slice none 0 0] 24))
  have r10 := toHid (q10.alloc (.cells #[.int .i64 km, .int .i64 nm, .string ⟨#[]⟩, .slice none 0 0] 24))
  have r12 := toHid (q12.alloc (.cells #[.int .i64 km, .int .i64 nm, .string ⟨#[]⟩, .slice none 0 0] 24))
  have r14 := toHid (q14.alloc (.cells #[.int .i64 km, .int .i64 nm, .string ⟨#[]⟩, .slice none 0 0] 24))
  have r15 := toHid (BoxAt.new w9 km nm)
  have J9 := toHid (j9.alloc j9.size (.cells #[.int .i64 km, .int .i64 nm, .string ⟨#[]⟩, .slice none 0 0] 24))
  have Z9 := toHid J9.out.size
  clear q7 q8 q9 q10 q12 q14 j9
  have Q7 := r7
  have Q8 := r8
  have Q9 := r9
  have Q10 := r10
  have Q12 := r12
  have Q14 := r14
  have Q15 := r15
  clear r7 r8 r9 r10 r12 r14 r15 J8 Z8
  go_wp2_with fail
  clear x80 x81 x82 x83 l8 x90 x91 x92 x93 l9
  refine (Hh5.out _).mono ?_
  rintro e w10 ⟨rfl, b10⟩
  have j10 : Below w.heap.size w w10 := J9.out.trans (b10.mono Z9.out)
  have q7 := Q7.out.next b10
  have q8 := Q8.out.next b10
  have q9 := Q9.out.next b10
  have q10 := Q10.out.next b10
  have q12 := Q12.out.next b10
  have q14 := Q14.out.next b10
  have q15 := Q15.out.next b10
  clear b10 Q7 Q8 Q9 Q10 Q12 Q14 Q15
  obtain ⟨x150, x151, x152, x153⟩ := q15.cells
  have l15 := q15.1
  have r7 := toHid (q7.alloc (.cells #[.int .i64 kn, .int .i64 nn, .string ⟨#[]⟩, .slice none 0 0] 24))
  have r8 := toHid (q8.alloc (.cells #[.int .i64 kn, .int .i64 nn, .string ⟨#[]⟩, .slice none 0 0] 24))
  have r9 := toHid (q9.alloc (.cells #[.int .i64 kn, .int .i64 nn, .string ⟨#[]⟩, .slice none 0 0] 24))
  have r10 := toHid (q10.alloc (.cells #[.int .i64 kn, .int .i64 nn, .string ⟨#[]⟩, .slice none 0 0] 24))
  have r12 := toHid (q12.alloc (.cells #[.int .i64 kn, .int .i64 nn, .string ⟨#[]⟩, .slice none 0 0] 24))
  have r14 := toHid (q14.alloc (.cells #[.int .i64 kn, .int .i64 nn, .string ⟨#[]⟩, .slice none 0 0] 24))
  have r15 := toHid (q15.alloc (.cells #[.int .i64 kn, .int .i64 nn, .string ⟨#[]⟩, .slice none 0 0] 24))
  have r16 := toHid (BoxAt.new w10 kn nn)
  have J10 := toHid (j10.alloc j10.size (.cells #[.int .i64 kn, .int .i64 nn, .string ⟨#[]⟩, .slice none 0 0] 24))
  have Z10 := toHid J10.out.size
  clear q7 q8 q9 q10 q12 q14 q15 j10
  have Q7 := r7
  have Q8 := r8
  have Q9 := r9
  have Q10 := r10
  have Q12 := r12
  have Q14 := r14
  have Q15 := r15
  have Q16 := r16
  clear r7 r8 r9 r10 r12 r14 r15 r16 J9 Z9
  go_wp2_with fail
  clear x150 x151 x152 x153 l15
  refine (Hh6.out _).mono ?_
  rintro e w11 ⟨rfl, b11⟩
  have j11 : Below w.heap.size w w11 := J10.out.trans (b11.mono Z10.out)
  have q7 := Q7.out.next b11
  have q8 := Q8.out.next b11
  have q9 := Q9.out.next b11
  have q10 := Q10.out.next b11
  have q12 := Q12.out.next b11
  have q14 := Q14.out.next b11
  have q15 := Q15.out.next b11
  have q16 := Q16.out.next b11
  clear b11 Q7 Q8 Q9 Q10 Q12 Q14 Q15 Q16
  obtain ⟨x100, x101, x102, x103⟩ := q10.cells
  have l10 := q10.1
  have r7 := toHid (q7.alloc (.cells #[.int .i64 ks, .int .i64 ns, .string ⟨#[]⟩, .slice none 0 0] 24))
  have r8 := toHid (q8.alloc (.cells #[.int .i64 ks, .int .i64 ns, .string ⟨#[]⟩, .slice none 0 0] 24))
  have r9 := toHid (q9.alloc (.cells #[.int .i64 ks, .int .i64 ns, .string ⟨#[]⟩, .slice none 0 0] 24))
  have r10 := toHid (q10.alloc (.cells #[.int .i64 ks, .int .i64 ns, .string ⟨#[]⟩, .slice none 0 0] 24))
  have r12 := toHid (q12.alloc (.cells #[.int .i64 ks, .int .i64 ns, .string ⟨#[]⟩, .slice none 0 0] 24))
  have r14 := toHid (q14.alloc (.cells #[.int .i64 ks, .int .i64 ns, .string ⟨#[]⟩, .slice none 0 0] 24))
  have r15 := toHid (q15.alloc (.cells #[.int .i64 ks, .int .i64 ns, .string ⟨#[]⟩, .slice none 0 0] 24))
  have r16 := toHid (q16.alloc (.cells #[.int .i64 ks, .int .i64 ns, .string ⟨#[]⟩, .slice none 0 0] 24))
  have r18 := toHid (BoxAt.new w11 ks ns)
  have J11 := toHid (j11.alloc j11.size (.cells #[.int .i64 ks, .int .i64 ns, .string ⟨#[]⟩, .slice none 0 0] 24))
  have Z11 := toHid J11.out.size
  clear q7 q8 q9 q10 q12 q14 q15 q16 j11
  have Q7 := r7
  have Q8 := r8
  have Q9 := r9
  have Q10 := r10
  have Q12 := r12
  have Q14 := r14
  have Q15 := r15
  have Q16 := r16
  have Q18 := r18
  clear r7 r8 r9 r10 r12 r14 r15 r16 r18 J10 Z10
  go_wp2_with fail
  go_ret
  exact ⟨rfl, J11.out⟩

set_option maxHeartbeats 8000000 in
set_option maxRecDepth 100000 in
theorem ring_1 (a b c kp np ep kl nl el km nm em kn nn en ks ns es : Int) (w : World) (h1 : ∀ W, Calls Tryd.prog 21 #[.string ⟨#[43]⟩, .agg #[.int .i64 2, .int .i64 a, .string ⟨#[]⟩, .slice none 0 0], .agg #[.int .i64 2, .int .i64 b, .string ⟨#[]⟩, .slice none 0 0]] W fun e w' => e = .returned (.tuple #[.agg #[.int .i64 kp, .int .i64 np, .string ⟨#[]⟩, .slice none 0 0], .int .i64 ep]) ∧ Below W.heap.size W w') (h2 : ∀ W, Calls Tryd.prog 21 #[.string ⟨#[43]⟩, .agg #[.int .i64 2, .int .i64 b, .string ⟨#[]⟩, .slice none 0 0], .agg #[.int .i64 2, .int .i64 a, .string ⟨#[]⟩, .slice none 0 0]] W fun e w' => e = .returned (.tuple #[.agg #[.int .i64 kp, .int .i64 np, .string ⟨#[]⟩, .slice none 0 0], .int .i64 ep]) ∧ Below W.heap.size W w') (hv : ∀ W, Below w.heap.size w W → Calls Tryd.prog 8 #[] W fun e w' => e = .returned (.bool true) ∧ Below W.heap.size W w') (h3 : ∀ W, Calls Tryd.prog 21 #[.string ⟨#[42]⟩, .agg #[.int .i64 kp, .int .i64 np, .string ⟨#[]⟩, .slice none 0 0], .agg #[.int .i64 2, .int .i64 c, .string ⟨#[]⟩, .slice none 0 0]] W fun e w' => e = .returned (.tuple #[.agg #[.int .i64 kl, .int .i64 nl, .string ⟨#[]⟩, .slice none 0 0], .int .i64 el]) ∧ Below W.heap.size W w') (h4 : ∀ W, Calls Tryd.prog 21 #[.string ⟨#[42]⟩, .agg #[.int .i64 2, .int .i64 a, .string ⟨#[]⟩, .slice none 0 0], .agg #[.int .i64 2, .int .i64 c, .string ⟨#[]⟩, .slice none 0 0]] W fun e w' => e = .returned (.tuple #[.agg #[.int .i64 km, .int .i64 nm, .string ⟨#[]⟩, .slice none 0 0], .int .i64 em]) ∧ Below W.heap.size W w') (h5 : ∀ W, Calls Tryd.prog 21 #[.string ⟨#[42]⟩, .agg #[.int .i64 2, .int .i64 b, .string ⟨#[]⟩, .slice none 0 0], .agg #[.int .i64 2, .int .i64 c, .string ⟨#[]⟩, .slice none 0 0]] W fun e w' => e = .returned (.tuple #[.agg #[.int .i64 kn, .int .i64 nn, .string ⟨#[]⟩, .slice none 0 0], .int .i64 en]) ∧ Below W.heap.size W w') (h6 : ∀ W, Calls Tryd.prog 21 #[.string ⟨#[43]⟩, .agg #[.int .i64 km, .int .i64 nm, .string ⟨#[]⟩, .slice none 0 0], .agg #[.int .i64 kn, .int .i64 nn, .string ⟨#[]⟩, .slice none 0 0]] W fun e w' => e = .returned (.tuple #[.agg #[.int .i64 ks, .int .i64 ns, .string ⟨#[]⟩, .slice none 0 0], .int .i64 es]) ∧ Below W.heap.size W w') (t0 : (kp == 0) = false) (t1 : (el != 0) = true)  :
    Calls Tryd.prog 7 #[.int .i64 a, .int .i64 b, .int .i64 c] w fun e w' => e = .returned (.bool true) ∧ Below w.heap.size w w' := by
  have Hh1 := toHid h1
  have Hh2 := toHid h2
  have Hh3 := toHid h3
  have Hh4 := toHid h4
  have Hh5 := toHid h5
  have Hh6 := toHid h6
  have Hhv := toHid hv
  clear h1 h2 h3 h4 h5 h6 hv
  go_enter Tryd.func7, Tryd.ntmps7
  go_wp2_with fail
  refine (num_any _ _).mono ?_
  rintro e w1 ⟨rfl, b1⟩
  go_wp2_with fail
  refine (num_any _ _).mono ?_
  rintro e w2 ⟨rfl, b2⟩
  go_wp2_with fail
  refine (num_any _ _).mono ?_
  rintro e w3 ⟨rfl, b3⟩
  have k3 : Below w.heap.size w w3 := (b1.trans (b2.mono b1.size)).trans (b3.mono (Nat.le_trans b1.size b2.size))
  clear b1 b2 b3
  have q7 : BoxAt (((w3.alloc (.cells #[.int .i64 2, .int .i64 a, .string ⟨#[]⟩, .slice none 0 0] 24)).alloc (.cells #[.int .i64 2, .int .i64 b, .string ⟨#[]⟩, .slice none 0 0] 24)).alloc (.cells #[.int .i64 2, .int .i64 c, .string ⟨#[]⟩, .slice none 0 0] 24)) w3.heap.size 2 a := ((BoxAt.new w3 2 a).alloc _).alloc _
  have q8 : BoxAt (((w3.alloc (.cells #[.int .i64 2, .int .i64 a, .string ⟨#[]⟩, .slice none 0 0] 24)).alloc (.cells #[.int .i64 2, .int .i64 b, .string ⟨#[]⟩, .slice none 0 0] 24)).alloc (.cells #[.int .i64 2, .int .i64 c, .string ⟨#[]⟩, .slice none 0 0] 24)) (w3.heap.size + 1) 2 b := by
    have := (BoxAt.new (w3.alloc (.cells #[.int .i64 2, .int .i64 a, .string ⟨#[]⟩, .slice none 0 0] 24)) 2 b).alloc (.cells #[.int .i64 2, .int .i64 c, .string ⟨#[]⟩, .slice none 0 0] 24)
    rw [show (w3.alloc (.cells #[.int .i64 2, .int .i64 a, .string ⟨#[]⟩, .slice none 0 0] 24)).heap.size = w3.heap.size + 1 from by simp] at this
    exact this
  have q9 : BoxAt (((w3.alloc (.cells #[.int .i64 2, .int .i64 a, .string ⟨#[]⟩, .slice none 0 0] 24)).alloc (.cells #[.int .i64 2, .int .i64 b, .string ⟨#[]⟩, .slice none 0 0] 24)).alloc (.cells #[.int .i64 2, .int .i64 c, .string ⟨#[]⟩, .slice none 0 0] 24)) (w3.heap.size + 1 + 1) 2 c := by
    have := BoxAt.new ((w3.alloc (.cells #[.int .i64 2, .int .i64 a, .string ⟨#[]⟩, .slice none 0 0] 24)).alloc (.cells #[.int .i64 2, .int .i64 b, .string ⟨#[]⟩, .slice none 0 0] 24)) 2 c
    rw [show ((w3.alloc (.cells #[.int .i64 2, .int .i64 a, .string ⟨#[]⟩, .slice none 0 0] 24)).alloc (.cells #[.int .i64 2, .int .i64 b, .string ⟨#[]⟩, .slice none 0 0] 24)).heap.size = w3.heap.size + 1 + 1 from by simp] at this
    exact this
  have j3 : Below w.heap.size w (((w3.alloc (.cells #[.int .i64 2, .int .i64 a, .string ⟨#[]⟩, .slice none 0 0] 24)).alloc (.cells #[.int .i64 2, .int .i64 b, .string ⟨#[]⟩, .slice none 0 0] 24)).alloc (.cells #[.int .i64 2, .int .i64 c, .string ⟨#[]⟩, .slice none 0 0] 24)) := ((k3.alloc k3.size _).alloc (by have := k3.size; simp; omega) _).alloc (by have := k3.size; simp; omega) _
  have z3 : w.heap.size ≤ (((w3.alloc (.cells #[.int .i64 2, .int .i64 a, .string ⟨#[]⟩, .slice none 0 0] 24)).alloc (.cells #[.int .i64 2, .int .i64 b, .string ⟨#[]⟩, .slice none 0 0] 24)).alloc (.cells #[.int .i64 2, .int .i64 c, .string ⟨#[]⟩, .slice none 0 0] 24)).heap.size := j3.size
  have Q7 := toHid q7
  have Q8 := toHid q8
  have Q9 := toHid q9
  have J3 := toHid j3
  have Z3 := toHid z3
  clear q7 q8 q9 j3 z3 k3
  go_wp2_with fail
  refine (Hh1.out _).mono ?_
  rintro e w4 ⟨rfl, b4⟩
  have j4 : Below w.heap.size w w4 := J3.out.trans (b4.mono Z3.out)
  have q7 := Q7.out.next b4
  have q8 := Q8.out.next b4
  have q9 := Q9.out.next b4
  clear b4 Q7 Q8 Q9
  obtain ⟨x70, x71, x72, x73⟩ := q7.cells
  have l7 := q7.1
  obtain ⟨x80, x81, x82, x83⟩ := q8.cells
  have l8 := q8.1
  have r7 := toHid (q7.alloc (.cells #[.int .i64 kp, .int .i64 np, .string ⟨#[]⟩, .slice none 0 0] 24))
  have r8 := toHid (q8.alloc (.cells #[.int .i64 kp, .int .i64 np, .string ⟨#[]⟩, .slice none 0 0] 24))
  have r9 := toHid (q9.alloc (.cells #[.int .i64 kp, .int .i64 np, .string ⟨#[]⟩, .slice none 0 0] 24))
  have r10 := toHid (BoxAt.new w4 kp np)
  have J4 := toHid (j4.alloc j4.size (.cells #[.int .i64 kp, .int .i64 np, .string ⟨#[]⟩, .slice none 0 0] 24))
  have Z4 := toHid J4.out.size
  clear q7 q8 q9 j4
  have Q7 := r7
  have Q8 := r8
  have Q9 := r9
  have Q10 := r10
  clear r7 r8 r9 r10 J3 Z3
  go_wp2_with fail
  clear x70 x71 x72 x73 l7 x80 x81 x82 x83 l8
  refine (Hh2.out _).mono ?_
  rintro e w5 ⟨rfl, b5⟩
  have j5 : Below w.heap.size w w5 := J4.out.trans (b5.mono Z4.out)
  have q7 := Q7.out.next b5
  have q8 := Q8.out.next b5
  have q9 := Q9.out.next b5
  have q10 := Q10.out.next b5
  clear b5 Q7 Q8 Q9 Q10
  have r7 := toHid (q7.alloc (.cells #[.int .i64 kp, .int .i64 np, .string ⟨#[]⟩, .slice none 0 0] 24))
  have r8 := toHid (q8.alloc (.cells #[.int .i64 kp, .int .i64 np, .string ⟨#[]⟩, .slice none 0 0] 24))
  have r9 := toHid (q9.alloc (.cells #[.int .i64 kp, .int .i64 np, .string ⟨#[]⟩, .slice none 0 0] 24))
  have r10 := toHid (q10.alloc (.cells #[.int .i64 kp, .int .i64 np, .string ⟨#[]⟩, .slice none 0 0] 24))
  have r12 := toHid (BoxAt.new w5 kp np)
  have J5 := toHid (j5.alloc j5.size (.cells #[.int .i64 kp, .int .i64 np, .string ⟨#[]⟩, .slice none 0 0] 24))
  have Z5 := toHid J5.out.size
  clear q7 q8 q9 q10 j5
  have Q7 := r7
  have Q8 := r8
  have Q9 := r9
  have Q10 := r10
  have Q12 := r12
  clear r7 r8 r9 r10 r12 J4 Z4
  go_wp2_with fail
  refine (Hhv.out _ J5.out).mono ?_
  rintro e w6 ⟨rfl, b6⟩
  have j6 : Below w.heap.size w w6 := J5.out.trans (b6.mono Z5.out)
  have q7 := Q7.out.next b6
  have q8 := Q8.out.next b6
  have q9 := Q9.out.next b6
  have q10 := Q10.out.next b6
  have q12 := Q12.out.next b6
  clear b6 Q7 Q8 Q9 Q10 Q12
  obtain ⟨x100, x101, x102, x103⟩ := q10.cells
  have l10 := q10.1
  obtain ⟨x120, x121, x122, x123⟩ := q12.cells
  have l12 := q12.1
  have r7 := toHid q7
  have r8 := toHid q8
  have r9 := toHid q9
  have r10 := toHid q10
  have r12 := toHid q12
  have J6 := toHid j6
  have Z6 := toHid j6.size
  clear q7 q8 q9 q10 q12 j6
  have Q7 := r7
  have Q8 := r8
  have Q9 := r9
  have Q10 := r10
  have Q12 := r12
  clear r7 r8 r9 r10 r12 J5 Z5
  go_wp2_with fail
  clear x100 x101 x102 x103 l10 x120 x121 x122 x123 l12
  refine (same_self _ _ _).mono ?_
  rintro e w7 ⟨rfl, b7⟩
  have j7 : Below w.heap.size w w7 := J6.out.trans (b7.mono Z6.out)
  have q7 := Q7.out.next b7
  have q8 := Q8.out.next b7
  have q9 := Q9.out.next b7
  have q10 := Q10.out.next b7
  have q12 := Q12.out.next b7
  clear b7 Q7 Q8 Q9 Q10 Q12
  obtain ⟨x100, x101, x102, x103⟩ := q10.cells
  have l10 := q10.1
  obtain ⟨x90, x91, x92, x93⟩ := q9.cells
  have l9 := q9.1
  have r7 := toHid q7
  have r8 := toHid q8
  have r9 := toHid q9
  have r10 := toHid q10
  have r12 := toHid q12
  have J7 := toHid j7
  have Z7 := toHid j7.size
  clear q7 q8 q9 q10 q12 j7
  have Q7 := r7
  have Q8 := r8
  have Q9 := r9
  have Q10 := r10
  have Q12 := r12
  clear r7 r8 r9 r10 r12 J6 Z6
  go_wp2_with fail
  clear x100 x101 x102 x103 l10 x90 x91 x92 x93 l9
  refine (Hh3.out _).mono ?_
  rintro e w8 ⟨rfl, b8⟩
  have j8 : Below w.heap.size w w8 := J7.out.trans (b8.mono Z7.out)
  have q7 := Q7.out.next b8
  have q8 := Q8.out.next b8
  have q9 := Q9.out.next b8
  have q10 := Q10.out.next b8
  have q12 := Q12.out.next b8
  clear b8 Q7 Q8 Q9 Q10 Q12
  obtain ⟨x70, x71, x72, x73⟩ := q7.cells
  have l7 := q7.1
  obtain ⟨x90, x91, x92, x93⟩ := q9.cells
  have l9 := q9.1
  have r7 := toHid (q7.alloc (.cells #[.int .i64 kl, .int .i64 nl, .string ⟨#[]⟩, .slice none 0 0] 24))
  have r8 := toHid (q8.alloc (.cells #[.int .i64 kl, .int .i64 nl, .string ⟨#[]⟩, .slice none 0 0] 24))
  have r9 := toHid (q9.alloc (.cells #[.int .i64 kl, .int .i64 nl, .string ⟨#[]⟩, .slice none 0 0] 24))
  have r10 := toHid (q10.alloc (.cells #[.int .i64 kl, .int .i64 nl, .string ⟨#[]⟩, .slice none 0 0] 24))
  have r12 := toHid (q12.alloc (.cells #[.int .i64 kl, .int .i64 nl, .string ⟨#[]⟩, .slice none 0 0] 24))
  have r14 := toHid (BoxAt.new w8 kl nl)
  have J8 := toHid (j8.alloc j8.size (.cells #[.int .i64 kl, .int .i64 nl, .string ⟨#[]⟩, .slice none 0 0] 24))
  have Z8 := toHid J8.out.size
  clear q7 q8 q9 q10 q12 j8
  have Q7 := r7
  have Q8 := r8
  have Q9 := r9
  have Q10 := r10
  have Q12 := r12
  have Q14 := r14
  clear r7 r8 r9 r10 r12 r14 J7 Z7
  go_wp2_with fail
  clear x70 x71 x72 x73 l7 x90 x91 x92 x93 l9
  refine (Hh4.out _).mono ?_
  rintro e w9 ⟨rfl, b9⟩
  have j9 : Below w.heap.size w w9 := J8.out.trans (b9.mono Z8.out)
  have q7 := Q7.out.next b9
  have q8 := Q8.out.next b9
  have q9 := Q9.out.next b9
  have q10 := Q10.out.next b9
  have q12 := Q12.out.next b9
  have q14 := Q14.out.next b9
  clear b9 Q7 Q8 Q9 Q10 Q12 Q14
  obtain ⟨x80, x81, x82, x83⟩ := q8.cells
  have l8 := q8.1
  obtain ⟨x90, x91, x92, x93⟩ := q9.cells
  have l9 := q9.1
  have r7 := toHid (q7.alloc (.cells #[.int .i64 km, .int .i64 nm, .string ⟨#[]⟩, .slice none 0 0] 24))
  have r8 := toHid (q8.alloc (.cells #[.int .i64 km, .int .i64 nm, .string ⟨#[]⟩, .slice none 0 0] 24))
  have r9 := toHid (q9.alloc (.cells #[.int .i64 km, .int .i64 nm, .string ⟨#[]⟩, .slice none 0 0] 24))
  have r10 := toHid (q10.alloc (.cells #[.int .i64 km, .int .i64 nm, .string ⟨#[]⟩, .slice none 0 0] 24))
  have r12 := toHid (q12.alloc (.cells #[.int .i64 km, .int .i64 nm, .string ⟨#[]⟩, .slice none 0 0] 24))
  have r14 := toHid (q14.alloc (.cells #[.int .i64 km, .int .i64 nm, .string ⟨#[]⟩, .slice none 0 0] 24))
  have r15 := toHid (BoxAt.new w9 km nm)
  have J9 := toHid (j9.alloc j9.size (.cells #[.int .i64 km, .int .i64 nm, .string ⟨#[]⟩, .slice none 0 0] 24))
  have Z9 := toHid J9.out.size
  clear q7 q8 q9 q10 q12 q14 j9
  have Q7 := r7
  have Q8 := r8
  have Q9 := r9
  have Q10 := r10
  have Q12 := r12
  have Q14 := r14
  have Q15 := r15
  clear r7 r8 r9 r10 r12 r14 r15 J8 Z8
  go_wp2_with fail
  clear x80 x81 x82 x83 l8 x90 x91 x92 x93 l9
  refine (Hh5.out _).mono ?_
  rintro e w10 ⟨rfl, b10⟩
  have j10 : Below w.heap.size w w10 := J9.out.trans (b10.mono Z9.out)
  have q7 := Q7.out.next b10
  have q8 := Q8.out.next b10
  have q9 := Q9.out.next b10
  have q10 := Q10.out.next b10
  have q12 := Q12.out.next b10
  have q14 := Q14.out.next b10
  have q15 := Q15.out.next b10
  clear b10 Q7 Q8 Q9 Q10 Q12 Q14 Q15
  obtain ⟨x150, x151, x152, x153⟩ := q15.cells
  have l15 := q15.1
  have r7 := toHid (q7.alloc (.cells #[.int .i64 kn, .int .i64 nn, .string ⟨#[]⟩, .slice none 0 0] 24))
  have r8 := toHid (q8.alloc (.cells #[.int .i64 kn, .int .i64 nn, .string ⟨#[]⟩, .slice none 0 0] 24))
  have r9 := toHid (q9.alloc (.cells #[.int .i64 kn, .int .i64 nn, .string ⟨#[]⟩, .slice none 0 0] 24))
  have r10 := toHid (q10.alloc (.cells #[.int .i64 kn, .int .i64 nn, .string ⟨#[]⟩, .slice none 0 0] 24))
  have r12 := toHid (q12.alloc (.cells #[.int .i64 kn, .int .i64 nn, .string ⟨#[]⟩, .slice none 0 0] 24))
  have r14 := toHid (q14.alloc (.cells #[.int .i64 kn, .int .i64 nn, .string ⟨#[]⟩, .slice none 0 0] 24))
  have r15 := toHid (q15.alloc (.cells #[.int .i64 kn, .int .i64 nn, .string ⟨#[]⟩, .slice none 0 0] 24))
  have r16 := toHid (BoxAt.new w10 kn nn)
  have J10 := toHid (j10.alloc j10.size (.cells #[.int .i64 kn, .int .i64 nn, .string ⟨#[]⟩, .slice none 0 0] 24))
  have Z10 := toHid J10.out.size
  clear q7 q8 q9 q10 q12 q14 q15 j10
  have Q7 := r7
  have Q8 := r8
  have Q9 := r9
  have Q10 := r10
  have Q12 := r12
  have Q14 := r14
  have Q15 := r15
  have Q16 := r16
  clear r7 r8 r9 r10 r12 r14 r15 r16 J9 Z9
  go_wp2_with fail
  clear x150 x151 x152 x153 l15
  refine (Hh6.out _).mono ?_
  rintro e w11 ⟨rfl, b11⟩
  have j11 : Below w.heap.size w w11 := J10.out.trans (b11.mono Z10.out)
  have q7 := Q7.out.next b11
  have q8 := Q8.out.next b11
  have q9 := Q9.out.next b11
  have q10 := Q10.out.next b11
  have q12 := Q12.out.next b11
  have q14 := Q14.out.next b11
  have q15 := Q15.out.next b11
  have q16 := Q16.out.next b11
  clear b11 Q7 Q8 Q9 Q10 Q12 Q14 Q15 Q16
  obtain ⟨x100, x101, x102, x103⟩ := q10.cells
  have l10 := q10.1
  have r7 := toHid (q7.alloc (.cells #[.int .i64 ks, .int .i64 ns, .string ⟨#[]⟩, .slice none 0 0] 24))
  have r8 := toHid (q8.alloc (.cells #[.int .i64 ks, .int .i64 ns, .string ⟨#[]⟩, .slice none 0 0] 24))
  have r9 := toHid (q9.alloc (.cells #[.int .i64 ks, .int .i64 ns, .string ⟨#[]⟩, .slice none 0 0] 24))
  have r10 := toHid (q10.alloc (.cells #[.int .i64 ks, .int .i64 ns, .string ⟨#[]⟩, .slice none 0 0] 24))
  have r12 := toHid (q12.alloc (.cells #[.int .i64 ks, .int .i64 ns, .string ⟨#[]⟩, .slice none 0 0] 24))
  have r14 := toHid (q14.alloc (.cells #[.int .i64 ks, .int .i64 ns, .string ⟨#[]⟩, .slice none 0 0] 24))
  have r15 := toHid (q15.alloc (.cells #[.int .i64 ks, .int .i64 ns, .string ⟨#[]⟩, .slice none 0 0] 24))
  have r16 := toHid (q16.alloc (.cells #[.int .i64 ks, .int .i64 ns, .string ⟨#[]⟩, .slice none 0 0] 24))
  have r18 := toHid (BoxAt.new w11 ks ns)
  have J11 := toHid (j11.alloc j11.size (.cells #[.int .i64 ks, .int .i64 ns, .string ⟨#[]⟩, .slice none 0 0] 24))
  have Z11 := toHid J11.out.size
  clear q7 q8 q9 q10 q12 q14 q15 q16 j11
  have Q7 := r7
  have Q8 := r8
  have Q9 := r9
  have Q10 := r10
  have Q12 := r12
  have Q14 := r14
  have Q15 := r15
  have Q16 := r16
  have Q18 := r18
  clear r7 r8 r9 r10 r12 r14 r15 r16 r18 J10 Z10
  go_wp2_with fail
  go_ret
  exact ⟨rfl, J11.out⟩

set_option maxHeartbeats 8000000 in
set_option maxRecDepth 100000 in
theorem ring_2 (a b c kp np ep kl nl el km nm em kn nn en ks ns es : Int) (w : World) (h1 : ∀ W, Calls Tryd.prog 21 #[.string ⟨#[43]⟩, .agg #[.int .i64 2, .int .i64 a, .string ⟨#[]⟩, .slice none 0 0], .agg #[.int .i64 2, .int .i64 b, .string ⟨#[]⟩, .slice none 0 0]] W fun e w' => e = .returned (.tuple #[.agg #[.int .i64 kp, .int .i64 np, .string ⟨#[]⟩, .slice none 0 0], .int .i64 ep]) ∧ Below W.heap.size W w') (h2 : ∀ W, Calls Tryd.prog 21 #[.string ⟨#[43]⟩, .agg #[.int .i64 2, .int .i64 b, .string ⟨#[]⟩, .slice none 0 0], .agg #[.int .i64 2, .int .i64 a, .string ⟨#[]⟩, .slice none 0 0]] W fun e w' => e = .returned (.tuple #[.agg #[.int .i64 kp, .int .i64 np, .string ⟨#[]⟩, .slice none 0 0], .int .i64 ep]) ∧ Below W.heap.size W w') (hv : ∀ W, Below w.heap.size w W → Calls Tryd.prog 8 #[] W fun e w' => e = .returned (.bool true) ∧ Below W.heap.size W w') (h3 : ∀ W, Calls Tryd.prog 21 #[.string ⟨#[42]⟩, .agg #[.int .i64 kp, .int .i64 np, .string ⟨#[]⟩, .slice none 0 0], .agg #[.int .i64 2, .int .i64 c, .string ⟨#[]⟩, .slice none 0 0]] W fun e w' => e = .returned (.tuple #[.agg #[.int .i64 kl, .int .i64 nl, .string ⟨#[]⟩, .slice none 0 0], .int .i64 el]) ∧ Below W.heap.size W w') (h4 : ∀ W, Calls Tryd.prog 21 #[.string ⟨#[42]⟩, .agg #[.int .i64 2, .int .i64 a, .string ⟨#[]⟩, .slice none 0 0], .agg #[.int .i64 2, .int .i64 c, .string ⟨#[]⟩, .slice none 0 0]] W fun e w' => e = .returned (.tuple #[.agg #[.int .i64 km, .int .i64 nm, .string ⟨#[]⟩, .slice none 0 0], .int .i64 em]) ∧ Below W.heap.size W w') (h5 : ∀ W, Calls Tryd.prog 21 #[.string ⟨#[42]⟩, .agg #[.int .i64 2, .int .i64 b, .string ⟨#[]⟩, .slice none 0 0], .agg #[.int .i64 2, .int .i64 c, .string ⟨#[]⟩, .slice none 0 0]] W fun e w' => e = .returned (.tuple #[.agg #[.int .i64 kn, .int .i64 nn, .string ⟨#[]⟩, .slice none 0 0], .int .i64 en]) ∧ Below W.heap.size W w') (h6 : ∀ W, Calls Tryd.prog 21 #[.string ⟨#[43]⟩, .agg #[.int .i64 km, .int .i64 nm, .string ⟨#[]⟩, .slice none 0 0], .agg #[.int .i64 kn, .int .i64 nn, .string ⟨#[]⟩, .slice none 0 0]] W fun e w' => e = .returned (.tuple #[.agg #[.int .i64 ks, .int .i64 ns, .string ⟨#[]⟩, .slice none 0 0], .int .i64 es]) ∧ Below W.heap.size W w') (t0 : (kp == 0) = false) (t1 : (el != 0) = false) (t2 : (em != 0) = true)  :
    Calls Tryd.prog 7 #[.int .i64 a, .int .i64 b, .int .i64 c] w fun e w' => e = .returned (.bool true) ∧ Below w.heap.size w w' := by
  have Hh1 := toHid h1
  have Hh2 := toHid h2
  have Hh3 := toHid h3
  have Hh4 := toHid h4
  have Hh5 := toHid h5
  have Hh6 := toHid h6
  have Hhv := toHid hv
  clear h1 h2 h3 h4 h5 h6 hv
  go_enter Tryd.func7, Tryd.ntmps7
  go_wp2_with fail
  refine (num_any _ _).mono ?_
  rintro e w1 ⟨rfl, b1⟩
  go_wp2_with fail
  refine (num_any _ _).mono ?_
  rintro e w2 ⟨rfl, b2⟩
  go_wp2_with fail
  refine (num_any _ _).mono ?_
  rintro e w3 ⟨rfl, b3⟩
  have k3 : Below w.heap.size w w3 := (b1.trans (b2.mono b1.size)).trans (b3.mono (Nat.le_trans b1.size b2.size))
  clear b1 b2 b3
  have q7 : BoxAt (((w3.alloc (.cells #[.int .i64 2, .int .i64 a, .string ⟨#[]⟩, .slice none 0 0] 24)).alloc (.cells #[.int .i64 2, .int .i64 b, .string ⟨#[]⟩, .slice none 0 0] 24)).alloc (.cells #[.int .i64 2, .int .i64 c, .string ⟨#[]⟩, .slice none 0 0] 24)) w3.heap.size 2 a := ((BoxAt.new w3 2 a).alloc _).alloc _
  have q8 : BoxAt (((w3.alloc (.cells #[.int .i64 2, .int .i64 a, .string ⟨#[]⟩, .slice none 0 0] 24)).alloc (.cells #[.int .i64 2, .int .i64 b, .string ⟨#[]⟩, .slice none 0 0] 24)).alloc (.cells #[.int .i64 2, .int .i64 c, .string ⟨#[]⟩, .slice none 0 0] 24)) (w3.heap.size + 1) 2 b := by
    have := (BoxAt.new (w3.alloc (.cells #[.int .i64 2, .int .i64 a, .string ⟨#[]⟩, .slice none 0 0] 24)) 2 b).alloc (.cells #[.int .i64 2, .int .i64 c, .string ⟨#[]⟩, .slice none 0 0] 24)
    rw [show (w3.alloc (.cells #[.int .i64 2, .int .i64 a, .string ⟨#[]⟩, .slice none 0 0] 24)).heap.size = w3.heap.size + 1 from by simp] at this
    exact this
  have q9 : BoxAt (((w3.alloc (.cells #[.int .i64 2, .int .i64 a, .string ⟨#[]⟩, .slice none 0 0] 24)).alloc (.cells #[.int .i64 2, .int .i64 b, .string ⟨#[]⟩, .slice none 0 0] 24)).alloc (.cells #[.int .i64 2, .int .i64 c, .string ⟨#[]⟩, .slice none 0 0] 24)) (w3.heap.size + 1 + 1) 2 c := by
    have := BoxAt.new ((w3.alloc (.cells #[.int .i64 2, .int .i64 a, .string ⟨#[]⟩, .slice none 0 0] 24)).alloc (.cells #[.int .i64 2, .int .i64 b, .string ⟨#[]⟩, .slice none 0 0] 24)) 2 c
    rw [show ((w3.alloc (.cells #[.int .i64 2, .int .i64 a, .string ⟨#[]⟩, .slice none 0 0] 24)).alloc (.cells #[.int .i64 2, .int .i64 b, .string ⟨#[]⟩, .slice none 0 0] 24)).heap.size = w3.heap.size + 1 + 1 from by simp] at this
    exact this
  have j3 : Below w.heap.size w (((w3.alloc (.cells #[.int .i64 2, .int .i64 a, .string ⟨#[]⟩, .slice none 0 0] 24)).alloc (.cells #[.int .i64 2, .int .i64 b, .string ⟨#[]⟩, .slice none 0 0] 24)).alloc (.cells #[.int .i64 2, .int .i64 c, .string ⟨#[]⟩, .slice none 0 0] 24)) := ((k3.alloc k3.size _).alloc (by have := k3.size; simp; omega) _).alloc (by have := k3.size; simp; omega) _
  have z3 : w.heap.size ≤ (((w3.alloc (.cells #[.int .i64 2, .int .i64 a, .string ⟨#[]⟩, .slice none 0 0] 24)).alloc (.cells #[.int .i64 2, .int .i64 b, .string ⟨#[]⟩, .slice none 0 0] 24)).alloc (.cells #[.int .i64 2, .int .i64 c, .string ⟨#[]⟩, .slice none 0 0] 24)).heap.size := j3.size
  have Q7 := toHid q7
  have Q8 := toHid q8
  have Q9 := toHid q9
  have J3 := toHid j3
  have Z3 := toHid z3
  clear q7 q8 q9 j3 z3 k3
  go_wp2_with fail
  refine (Hh1.out _).mono ?_
  rintro e w4 ⟨rfl, b4⟩
  have j4 : Below w.heap.size w w4 := J3.out.trans (b4.mono Z3.out)
  have q7 := Q7.out.next b4
  have q8 := Q8.out.next b4
  have q9 := Q9.out.next b4
  clear b4 Q7 Q8 Q9
  obtain ⟨x70, x71, x72, x73⟩ := q7.cells
  have l7 := q7.1
  obtain ⟨x80, x81, x82, x83⟩ := q8.cells
  have l8 := q8.1
  have r7 := toHid (q7.alloc (.cells #[.int .i64 kp, .int .i64 np, .string ⟨#[]⟩, .slice none 0 0] 24))
  have r8 := toHid (q8.alloc (.cells #[.int .i64 kp, .int .i64 np, .string ⟨#[]⟩, .slice none 0 0] 24))
  have r9 := toHid (q9.alloc (.cells #[.int .i64 kp, .int .i64 np, .string ⟨#[]⟩, .slice none 0 0] 24))
  have r10 := toHid (BoxAt.new w4 kp np)
  have J4 := toHid (j4.alloc j4.size (.cells #[.int .i64 kp, .int .i64 np, .string ⟨#[]⟩, .slice none 0 0] 24))
  have Z4 := toHid J4.out.size
  clear q7 q8 q9 j4
  have Q7 := r7
  have Q8 := r8
  have Q9 := r9
  have Q10 := r10
  clear r7 r8 r9 r10 J3 Z3
  go_wp2_with fail
  clear x70 x71 x72 x73 l7 x80 x81 x82 x83 l8
  refine (Hh2.out _).mono ?_
  rintro e w5 ⟨rfl, b5⟩
  have j5 : Below w.heap.size w w5 := J4.out.trans (b5.mono Z4.out)
  have q7 := Q7.out.next b5
  have q8 := Q8.out.next b5
  have q9 := Q9.out.next b5
  have q10 := Q10.out.next b5
  clear b5 Q7 Q8 Q9 Q10
  have r7 := toHid (q7.alloc (.cells #[.int .i64 kp, .int .i64 np, .string ⟨#[]⟩, .slice none 0 0] 24))
  have r8 := toHid (q8.alloc (.cells #[.int .i64 kp, .int .i64 np, .string ⟨#[]⟩, .slice none 0 0] 24))
  have r9 := toHid (q9.alloc (.cells #[.int .i64 kp, .int .i64 np, .string ⟨#[]⟩, .slice none 0 0] 24))
  have r10 := toHid (q10.alloc (.cells #[.int .i64 kp, .int .i64 np, .string ⟨#[]⟩, .slice none 0 0] 24))
  have r12 := toHid (BoxAt.new w5 kp np)
  have J5 := toHid (j5.alloc j5.size (.cells #[.int .i64 kp, .int .i64 np, .string ⟨#[]⟩, .slice none 0 0] 24))
  have Z5 := toHid J5.out.size
  clear q7 q8 q9 q10 j5
  have Q7 := r7
  have Q8 := r8
  have Q9 := r9
  have Q10 := r10
  have Q12 := r12
  clear r7 r8 r9 r10 r12 J4 Z4
  go_wp2_with fail
  refine (Hhv.out _ J5.out).mono ?_
  rintro e w6 ⟨rfl, b6⟩
  have j6 : Below w.heap.size w w6 := J5.out.trans (b6.mono Z5.out)
  have q7 := Q7.out.next b6
  have q8 := Q8.out.next b6
  have q9 := Q9.out.next b6
  have q10 := Q10.out.next b6
  have q12 := Q12.out.next b6
  clear b6 Q7 Q8 Q9 Q10 Q12
  obtain ⟨x100, x101, x102, x103⟩ := q10.cells
  have l10 := q10.1
  obtain ⟨x120, x121, x122, x123⟩ := q12.cells
  have l12 := q12.1
  have r7 := toHid q7
  have r8 := toHid q8
  have r9 := toHid q9
  have r10 := toHid q10
  have r12 := toHid q12
  have J6 := toHid j6
  have Z6 := toHid j6.size
  clear q7 q8 q9 q10 q12 j6
  have Q7 := r7
  have Q8 := r8
  have Q9 := r9
  have Q10 := r10
  have Q12 := r12
  clear r7 r8 r9 r10 r12 J5 Z5
  go_wp2_with fail
  clear x100 x101 x102 x103 l10 x120 x121 x122 x123 l12
  refine (same_self _ _ _).mono ?_
  rintro e w7 ⟨rfl, b7⟩
  have j7 : Below w.heap.size w w7 := J6.out.trans (b7.mono Z6.out)
  have q7 := Q7.out.next b7
  have q8 := Q8.out.next b7
  have q9 := Q9.out.next b7
  have q10 := Q10.out.next b7
  have q12 := Q12.out.next b7
  clear b7 Q7 Q8 Q9 Q10 Q12
  obtain ⟨x100, x101, x102, x103⟩ := q10.cells
  have l10 := q10.1
  obtain ⟨x90, x91, x92, x93⟩ := q9.cells
  have l9 := q9.1
  have r7 := toHid q7
  have r8 := toHid q8
  have r9 := toHid q9
  have r10 := toHid q10
  have r12 := toHid q12
  have J7 := toHid j7
  have Z7 := toHid j7.size
  clear q7 q8 q9 q10 q12 j7
  have Q7 := r7
  have Q8 := r8
  have Q9 := r9
  have Q10 := r10
  have Q12 := r12
  clear r7 r8 r9 r10 r12 J6 Z6
  go_wp2_with fail
  clear x100 x101 x102 x103 l10 x90 x91 x92 x93 l9
  refine (Hh3.out _).mono ?_
  rintro e w8 ⟨rfl, b8⟩
  have j8 : Below w.heap.size w w8 := J7.out.trans (b8.mono Z7.out)
  have q7 := Q7.out.next b8
  have q8 := Q8.out.next b8
  have q9 := Q9.out.next b8
  have q10 := Q10.out.next b8
  have q12 := Q12.out.next b8
  clear b8 Q7 Q8 Q9 Q10 Q12
  obtain ⟨x70, x71, x72, x73⟩ := q7.cells
  have l7 := q7.1
  obtain ⟨x90, x91, x92, x93⟩ := q9.cells
  have l9 := q9.1
  have r7 := toHid (q7.alloc (.cells #[.int .i64 kl, .int .i64 nl, .string ⟨#[]⟩, .slice none 0 0] 24))
  have r8 := toHid (q8.alloc (.cells #[.int .i64 kl, .int .i64 nl, .string ⟨#[]⟩, .slice none 0 0] 24))
  have r9 := toHid (q9.alloc (.cells #[.int .i64 kl, .int .i64 nl, .string ⟨#[]⟩, .slice none 0 0] 24))
  have r10 := toHid (q10.alloc (.cells #[.int .i64 kl, .int .i64 nl, .string ⟨#[]⟩, .slice none 0 0] 24))
  have r12 := toHid (q12.alloc (.cells #[.int .i64 kl, .int .i64 nl, .string ⟨#[]⟩, .slice none 0 0] 24))
  have r14 := toHid (BoxAt.new w8 kl nl)
  have J8 := toHid (j8.alloc j8.size (.cells #[.int .i64 kl, .int .i64 nl, .string ⟨#[]⟩, .slice none 0 0] 24))
  have Z8 := toHid J8.out.size
  clear q7 q8 q9 q10 q12 j8
  have Q7 := r7
  have Q8 := r8
  have Q9 := r9
  have Q10 := r10
  have Q12 := r12
  have Q14 := r14
  clear r7 r8 r9 r10 r12 r14 J7 Z7
  go_wp2_with fail
  clear x70 x71 x72 x73 l7 x90 x91 x92 x93 l9
  refine (Hh4.out _).mono ?_
  rintro e w9 ⟨rfl, b9⟩
  have j9 : Below w.heap.size w w9 := J8.out.trans (b9.mono Z8.out)
  have q7 := Q7.out.next b9
  have q8 := Q8.out.next b9
  have q9 := Q9.out.next b9
  have q10 := Q10.out.next b9
  have q12 := Q12.out.next b9
  have q14 := Q14.out.next b9
  clear b9 Q7 Q8 Q9 Q10 Q12 Q14
  obtain ⟨x80, x81, x82, x83⟩ := q8.cells
  have l8 := q8.1
  obtain ⟨x90, x91, x92, x93⟩ := q9.cells
  have l9 := q9.1
  have r7 := toHid (q7.alloc (.cells #[.int .i64 km, .int .i64 nm, .string ⟨#[]⟩, .slice none 0 0] 24))
  have r8 := toHid (q8.alloc (.cells #[.int .i64 km, .int .i64 nm, .string ⟨#[]⟩, .slice none 0 0] 24))
  have r9 := toHid (q9.alloc (.cells #[.int .i64 km, .int .i64 nm, .string ⟨#[]⟩, .slice none 0 0] 24))
  have r10 := toHid (q10.alloc (.cells #[.int .i64 km, .int .i64 nm, .string ⟨#[]⟩, .slice none 0 0] 24))
  have r12 := toHid (q12.alloc (.cells #[.int .i64 km, .int .i64 nm, .string ⟨#[]⟩, .slice none 0 0] 24))
  have r14 := toHid (q14.alloc (.cells #[.int .i64 km, .int .i64 nm, .string ⟨#[]⟩, .slice none 0 0] 24))
  have r15 := toHid (BoxAt.new w9 km nm)
  have J9 := toHid (j9.alloc j9.size (.cells #[.int .i64 km, .int .i64 nm, .string ⟨#[]⟩, .slice none 0 0] 24))
  have Z9 := toHid J9.out.size
  clear q7 q8 q9 q10 q12 q14 j9
  have Q7 := r7
  have Q8 := r8
  have Q9 := r9
  have Q10 := r10
  have Q12 := r12
  have Q14 := r14
  have Q15 := r15
  clear r7 r8 r9 r10 r12 r14 r15 J8 Z8
  go_wp2_with fail
  clear x80 x81 x82 x83 l8 x90 x91 x92 x93 l9
  refine (Hh5.out _).mono ?_
  rintro e w10 ⟨rfl, b10⟩
  have j10 : Below w.heap.size w w10 := J9.out.trans (b10.mono Z9.out)
  have q7 := Q7.out.next b10
  have q8 := Q8.out.next b10
  have q9 := Q9.out.next b10
  have q10 := Q10.out.next b10
  have q12 := Q12.out.next b10
  have q14 := Q14.out.next b10
  have q15 := Q15.out.next b10
  clear b10 Q7 Q8 Q9 Q10 Q12 Q14 Q15
  obtain ⟨x150, x151, x152, x153⟩ := q15.cells
  have l15 := q15.1
  have r7 := toHid (q7.alloc (.cells #[.int .i64 kn, .int .i64 nn, .string ⟨#[]⟩, .slice none 0 0] 24))
  have r8 := toHid (q8.alloc (.cells #[.int .i64 kn, .int .i64 nn, .string ⟨#[]⟩, .slice none 0 0] 24))
  have r9 := toHid (q9.alloc (.cells #[.int .i64 kn, .int .i64 nn, .string ⟨#[]⟩, .slice none 0 0] 24))
  have r10 := toHid (q10.alloc (.cells #[.int .i64 kn, .int .i64 nn, .string ⟨#[]⟩, .slice none 0 0] 24))
  have r12 := toHid (q12.alloc (.cells #[.int .i64 kn, .int .i64 nn, .string ⟨#[]⟩, .slice none 0 0] 24))
  have r14 := toHid (q14.alloc (.cells #[.int .i64 kn, .int .i64 nn, .string ⟨#[]⟩, .slice none 0 0] 24))
  have r15 := toHid (q15.alloc (.cells #[.int .i64 kn, .int .i64 nn, .string ⟨#[]⟩, .slice none 0 0] 24))
  have r16 := toHid (BoxAt.new w10 kn nn)
  have J10 := toHid (j10.alloc j10.size (.cells #[.int .i64 kn, .int .i64 nn, .string ⟨#[]⟩, .slice none 0 0] 24))
  have Z10 := toHid J10.out.size
  clear q7 q8 q9 q10 q12 q14 q15 j10
  have Q7 := r7
  have Q8 := r8
  have Q9 := r9
  have Q10 := r10
  have Q12 := r12
  have Q14 := r14
  have Q15 := r15
  have Q16 := r16
  clear r7 r8 r9 r10 r12 r14 r15 r16 J9 Z9
  go_wp2_with fail
  clear x150 x151 x152 x153 l15
  refine (Hh6.out _).mono ?_
  rintro e w11 ⟨rfl, b11⟩
  have j11 : Below w.heap.size w w11 := J10.out.trans (b11.mono Z10.out)
  have q7 := Q7.out.next b11
  have q8 := Q8.out.next b11
  have q9 := Q9.out.next b11
  have q10 := Q10.out.next b11
  have q12 := Q12.out.next b11
  have q14 := Q14.out.next b11
  have q15 := Q15.out.next b11
  have q16 := Q16.out.next b11
  clear b11 Q7 Q8 Q9 Q10 Q12 Q14 Q15 Q16
  obtain ⟨x100, x101, x102, x103⟩ := q10.cells
  have l10 := q10.1
  have r7 := toHid (q7.alloc (.cells #[.int .i64 ks, .int .i64 ns, .string ⟨#[]⟩, .slice none 0 0] 24))
  have r8 := toHid (q8.alloc (.cells #[.int .i64 ks, .int .i64 ns, .string ⟨#[]⟩, .slice none 0 0] 24))
  have r9 := toHid (q9.alloc (.cells #[.int .i64 ks, .int .i64 ns, .string ⟨#[]⟩, .slice none 0 0] 24))
  have r10 := toHid (q10.alloc (.cells #[.int .i64 ks, .int .i64 ns, .string ⟨#[]⟩, .slice none 0 0] 24))
  have r12 := toHid (q12.alloc (.cells #[.int .i64 ks, .int .i64 ns, .string ⟨#[]⟩, .slice none 0 0] 24))
  have r14 := toHid (q14.alloc (.cells #[.int .i64 ks, .int .i64 ns, .string ⟨#[]⟩, .slice none 0 0] 24))
  have r15 := toHid (q15.alloc (.cells #[.int .i64 ks, .int .i64 ns, .string ⟨#[]⟩, .slice none 0 0] 24))
  have r16 := toHid (q16.alloc (.cells #[.int .i64 ks, .int .i64 ns, .string ⟨#[]⟩, .slice none 0 0] 24))
  have r18 := toHid (BoxAt.new w11 ks ns)
  have J11 := toHid (j11.alloc j11.size (.cells #[.int .i64 ks, .int .i64 ns, .string ⟨#[]⟩, .slice none 0 0] 24))
  have Z11 := toHid J11.out.size
  clear q7 q8 q9 q10 q12 q14 q15 q16 j11
  have Q7 := r7
  have Q8 := r8
  have Q9 := r9
  have Q10 := r10
  have Q12 := r12
  have Q14 := r14
  have Q15 := r15
  have Q16 := r16
  have Q18 := r18
  clear r7 r8 r9 r10 r12 r14 r15 r16 r18 J10 Z10
  go_wp2_with fail
  go_ret
  exact ⟨rfl, J11.out⟩

set_option maxHeartbeats 8000000 in
set_option maxRecDepth 100000 in
theorem ring_3 (a b c kp np ep kl nl el km nm em kn nn en ks ns es : Int) (w : World) (h1 : ∀ W, Calls Tryd.prog 21 #[.string ⟨#[43]⟩, .agg #[.int .i64 2, .int .i64 a, .string ⟨#[]⟩, .slice none 0 0], .agg #[.int .i64 2, .int .i64 b, .string ⟨#[]⟩, .slice none 0 0]] W fun e w' => e = .returned (.tuple #[.agg #[.int .i64 kp, .int .i64 np, .string ⟨#[]⟩, .slice none 0 0], .int .i64 ep]) ∧ Below W.heap.size W w') (h2 : ∀ W, Calls Tryd.prog 21 #[.string ⟨#[43]⟩, .agg #[.int .i64 2, .int .i64 b, .string ⟨#[]⟩, .slice none 0 0], .agg #[.int .i64 2, .int .i64 a, .string ⟨#[]⟩, .slice none 0 0]] W fun e w' => e = .returned (.tuple #[.agg #[.int .i64 kp, .int .i64 np, .string ⟨#[]⟩, .slice none 0 0], .int .i64 ep]) ∧ Below W.heap.size W w') (hv : ∀ W, Below w.heap.size w W → Calls Tryd.prog 8 #[] W fun e w' => e = .returned (.bool true) ∧ Below W.heap.size W w') (h3 : ∀ W, Calls Tryd.prog 21 #[.string ⟨#[42]⟩, .agg #[.int .i64 kp, .int .i64 np, .string ⟨#[]⟩, .slice none 0 0], .agg #[.int .i64 2, .int .i64 c, .string ⟨#[]⟩, .slice none 0 0]] W fun e w' => e = .returned (.tuple #[.agg #[.int .i64 kl, .int .i64 nl, .string ⟨#[]⟩, .slice none 0 0], .int .i64 el]) ∧ Below W.heap.size W w') (h4 : ∀ W, Calls Tryd.prog 21 #[.string ⟨#[42]⟩, .agg #[.int .i64 2, .int .i64 a, .string ⟨#[]⟩, .slice none 0 0], .agg #[.int .i64 2, .int .i64 c, .string ⟨#[]⟩, .slice none 0 0]] W fun e w' => e = .returned (.tuple #[.agg #[.int .i64 km, .int .i64 nm, .string ⟨#[]⟩, .slice none 0 0], .int .i64 em]) ∧ Below W.heap.size W w') (h5 : ∀ W, Calls Tryd.prog 21 #[.string ⟨#[42]⟩, .agg #[.int .i64 2, .int .i64 b, .string ⟨#[]⟩, .slice none 0 0], .agg #[.int .i64 2, .int .i64 c, .string ⟨#[]⟩, .slice none 0 0]] W fun e w' => e = .returned (.tuple #[.agg #[.int .i64 kn, .int .i64 nn, .string ⟨#[]⟩, .slice none 0 0], .int .i64 en]) ∧ Below W.heap.size W w') (h6 : ∀ W, Calls Tryd.prog 21 #[.string ⟨#[43]⟩, .agg #[.int .i64 km, .int .i64 nm, .string ⟨#[]⟩, .slice none 0 0], .agg #[.int .i64 kn, .int .i64 nn, .string ⟨#[]⟩, .slice none 0 0]] W fun e w' => e = .returned (.tuple #[.agg #[.int .i64 ks, .int .i64 ns, .string ⟨#[]⟩, .slice none 0 0], .int .i64 es]) ∧ Below W.heap.size W w') (t0 : (kp == 0) = false) (t1 : (el != 0) = false) (t2 : (em != 0) = false) (t3 : (en != 0) = true)  :
    Calls Tryd.prog 7 #[.int .i64 a, .int .i64 b, .int .i64 c] w fun e w' => e = .returned (.bool true) ∧ Below w.heap.size w w' := by
  have Hh1 := toHid h1
  have Hh2 := toHid h2
  have Hh3 := toHid h3
  have Hh4 := toHid h4
  have Hh5 := toHid h5
  have Hh6 := toHid h6
  have Hhv := toHid hv
  clear h1 h2 h3 h4 h5 h6 hv
  go_enter Tryd.func7, Tryd.ntmps7
  go_wp2_with fail
  refine (num_any _ _).mono ?_
  rintro e w1 ⟨rfl, b1⟩
  go_wp2_with fail
  refine (num_any _ _).mono ?_
  rintro e w2 ⟨rfl, b2⟩
  go_wp2_with fail
  refine (num_any _ _).mono ?_
  rintro e w3 ⟨rfl, b3⟩
  have k3 : Below w.heap.size w w3 := (b1.trans (b2.mono b1.size)).trans (b3.mono (Nat.le_trans b1.size b2.size))
  clear b1 b2 b3
  have q7 : BoxAt (((w3.alloc (.cells #[.int .i64 2, .int .i64 a, .string ⟨#[]⟩, .slice none 0 0] 24)).alloc (.cells #[.int .i64 2, .int .i64 b, .string ⟨#[]⟩, .slice none 0 0] 24)).alloc (.cells #[.int .i64 2, .int .i64 c, .string ⟨#[]⟩, .slice none 0 0] 24)) w3.heap.size 2 a := ((BoxAt.new w3 2 a).alloc _).alloc _
  have q8 : BoxAt (((w3.alloc (.cells #[.int .i64 2, .int .i64 a, .string ⟨#[]⟩, .slice none 0 0] 24)).alloc (.cells #[.int .i64 2, .int .i64 b, .string ⟨#[]⟩, .slice none 0 0] 24)).alloc (.cells #[.int .i64 2, .int .i64 c, .string ⟨#[]⟩, .slice none 0 0] 24)) (w3.heap.size + 1) 2 b := by
    have := (BoxAt.new (w3.alloc (.cells #[.int .i64 2, .int .i64 a, .string ⟨#[]⟩, .slice none 0 0] 24)) 2 b).alloc (.cells #[.int .i64 2, .int .i64 c, .string ⟨#[]⟩, .slice none 0 0] 24)
    rw [show (w3.alloc (.cells #[.int .i64 2, .int .i64 a, .string ⟨#[]⟩, .slice none 0 0] 24)).heap.size = w3.heap.size + 1 from by simp] at this
    exact this
  have q9 : BoxAt (((w3.alloc (.cells #[.int .i64 2, .int .i64 a, .string ⟨#[]⟩, .slice none 0 0] 24)).alloc (.cells #[.int .i64 2, .int .i64 b, .string ⟨#[]⟩, .slice none 0 0] 24)).alloc (.cells #[.int .i64 2, .int .i64 c, .string ⟨#[]⟩, .slice none 0 0] 24)) (w3.heap.size + 1 + 1) 2 c := by
    have := BoxAt.new ((w3.alloc (.cells #[.int .i64 2, .int .i64 a, .string ⟨#[]⟩, .slice none 0 0] 24)).alloc (.cells #[.int .i64 2, .int .i64 b, .string ⟨#[]⟩, .slice none 0 0] 24)) 2 c
    rw [show ((w3.alloc (.cells #[.int .i64 2, .int .i64 a, .string ⟨#[]⟩, .slice none 0 0] 24)).alloc (.cells #[.int .i64 2, .int .i64 b, .string ⟨#[]⟩, .slice none 0 0] 24)).heap.size = w3.heap.size + 1 + 1 from by simp] at this
    exact this
  have j3 : Below w.heap.size w (((w3.alloc (.cells #[.int .i64 2, .int .i64 a, .string ⟨#[]⟩, .slice none 0 0] 24)).alloc (.cells #[.int .i64 2, .int .i64 b, .string ⟨#[]⟩, .slice none 0 0] 24)).alloc (.cells #[.int .i64 2, .int .i64 c, .string ⟨#[]⟩, .slice none 0 0] 24)) := ((k3.alloc k3.size _).alloc (by have := k3.size; simp; omega) _).alloc (by have := k3.size; simp; omega) _
  have z3 : w.heap.size ≤ (((w3.alloc (.cells #[.int .i64 2, .int .i64 a, .string ⟨#[]⟩, .slice none 0 0] 24)).alloc (.cells #[.int .i64 2, .int .i64 b, .string ⟨#[]⟩, .slice none 0 0] 24)).alloc (.cells #[.int .i64 2, .int .i64 c, .string ⟨#[]⟩, .slice none 0 0] 24)).heap.size := j3.size
  have Q7 := toHid q7
  have Q8 := toHid q8
  have Q9 := toHid q9
  have J3 := toHid j3
  have Z3 := toHid z3
  clear q7 q8 q9 j3 z3 k3
  go_wp2_with fail
  refine (Hh1.out _).mono ?_
  rintro e w4 ⟨rfl, b4⟩
  have j4 : Below w.heap.size w w4 := J3.out.trans (b4.mono Z3.out)
  have q7 := Q7.out.next b4
  have q8 := Q8.out.next b4
  have q9 := Q9.out.next b4
  clear b4 Q7 Q8 Q9
  obtain ⟨x70, x71, x72, x73⟩ := q7.cells
  have l7 := q7.1
  obtain ⟨x80, x81, x82, x83⟩ := q8.cells
  have l8 := q8.1
  have r7 := toHid (q7.alloc (.cells #[.int .i64 kp, .int .i64 np, .string ⟨#[]⟩, .slice none 0 0] 24))
  have r8 := toHid (q8.alloc (.cells #[.int .i64 kp, .int .i64 np, .string ⟨#[]⟩, .slice none 0 0] 24))
  have r9 := toHid (q9.alloc (.cells #[.int .i64 kp, .int .i64 np, .string ⟨#[]⟩, .slice none 0 0] 24))
  have r10 := toHid (BoxAt.new w4 kp np)
  have J4 := toHid (j4.alloc j4.size (.cells #[.int .i64 kp, .int .i64 np, .string ⟨#[]⟩, .slice none 0 0] 24))
  have Z4 := toHid J4.out.size
  clear q7 q8 q9 j4
  have Q7 := r7
  have Q8 := r8
  have Q9 := r9
  have Q10 := r10
  clear r7 r8 r9 r10 J3 Z3
  go_wp2_with fail
  clear x70 x71 x72 x73 l7 x80 x81 x82 x83 l8
  refine (Hh2.out _).mono ?_
  rintro e w5 ⟨rfl, b5⟩
  have j5 : Below w.heap.size w w5 := J4.out.trans (b5.mono Z4.out)
  have q7 := Q7.out.next b5
  have q8 := Q8.out.next b5
  have q9 := Q9.out.next b5
  have q10 := Q10.out.next b5
  clear b5 Q7 Q8 Q9 Q10
  have r7 := toHid (q7.alloc (.cells #[.int .i64 kp, .int .i64 np, .string ⟨#[]⟩, .slice none 0 0] 24))
  have r8 := toHid (q8.alloc (.cells #[.int .i64 kp, .int .i64 np, .string ⟨#[]⟩, .slice none 0 0] 24))
  have r9 := toHid (q9.alloc (.cells #[.int .i64 kp, .int .i64 np, .string ⟨#[]⟩, .slice none 0 0] 24))
  have r10 := toHid (q10.alloc (.cells #[.int .i64 kp, .int .i64 np, .string ⟨#[]⟩, .slice none 0 0] 24))
  have r12 := toHid (BoxAt.new w5 kp np)
  have J5 := toHid (j5.alloc j5.size (.cells #[.int .i64 kp, .int .i64 np, .string ⟨#[]⟩, .slice none 0 0] 24))
  have Z5 := toHid J5.out.size
  clear q7 q8 q9 q10 j5
  have Q7 := r7
  have Q8 := r8
  have Q9 := r9
  have Q10 := r10
  have Q12 := r12
  clear r7 r8 r9 r10 r12 J4 Z4
  go_wp2_with fail
  refine (Hhv.out _ J5.out).mono ?_
  rintro e w6 ⟨rfl, b6⟩
  have j6 : Below w.heap.size w w6 := J5.out.trans (b6.mono Z5.out)
  have q7 := Q7.out.next b6
  have q8 := Q8.out.next b6
  have q9 := Q9.out.next b6
  have q10 := Q10.out.next b6
  have q12 := Q12.out.next b6
  clear b6 Q7 Q8 Q9 Q10 Q12
  obtain ⟨x100, x101, x102, x103⟩ := q10.cells
  have l10 := q10.1
  obtain ⟨x120, x121, x122, x123⟩ := q12.cells
  have l12 := q12.1
  have r7 := toHid q7
  have r8 := toHid q8
  have r9 := toHid q9
  have r10 := toHid q10
  have r12 := toHid q12
  have J6 := toHid j6
  have Z6 := toHid j6.size
  clear q7 q8 q9 q10 q12 j6
  have Q7 := r7
  have Q8 := r8
  have Q9 := r9
  have Q10 := r10
  have Q12 := r12
  clear r7 r8 r9 r10 r12 J5 Z5
  go_wp2_with fail
  clear x100 x101 x102 x103 l10 x120 x121 x122 x123 l12
  refine (same_self _ _ _).mono ?_
  rintro e w7 ⟨rfl, b7⟩
  have j7 : Below w.heap.size w w7 := J6.out.trans (b7.mono Z6.out)
  have q7 := Q7.out.next b7
  have q8 := Q8.out.next b7
  have q9 := Q9.out.next b7
  have q10 := Q10.out.next b7
  have q12 := Q12.out.next b7
  clear b7 Q7 Q8 Q9 Q10 Q12
  obtain ⟨x100, x101, x102, x103⟩ := q10.cells
  have l10 := q10.1
  obtain ⟨x90, x91, x92, x93⟩ := q9.cells
  have l9 := q9.1
  have r7 := toHid q7
  have r8 := toHid q8
  have r9 := toHid q9
  have r10 := toHid q10
  have r12 := toHid q12
  have J7 := toHid j7
  have Z7 := toHid j7.size
  clear q7 q8 q9 q10 q12 j7
  have Q7 := r7
  have Q8 := r8
  have Q9 := r9
  have Q10 := r10
  have Q12 := r12
  clear r7 r8 r9 r10 r12 J6 Z6
  go_wp2_with fail
  clear x100 x101 x102 x103 l10 x90 x91 x92 x93 l9
  refine (Hh3.out _).mono ?_
  rintro e w8 ⟨rfl, b8⟩
  have j8 : Below w.heap.size w w8 := J7.out.trans (b8.mono Z7.out)
  have q7 := Q7.out.next b8
  have q8 := Q8.out.next b8
  have q9 := Q9.out.next b8
  have q10 := Q10.out.next b8
  have q12 := Q12.out.next b8
  clear b8 Q7 Q8 Q9 Q10 Q12
  obtain ⟨x70, x71, x72, x73⟩ := q7.cells
  have l7 := q7.1
  obtain ⟨x90, x91, x92, x93⟩ := q9.cells
  have l9 := q9.1
  have r7 := toHid (q7.alloc (.cells #[.int .i64 kl, .int .i64 nl, .string ⟨#[]⟩, .slice none 0 0] 24))
  have r8 := toHid (q8.alloc (.cells #[.int .i64 kl, .int .i64 nl, .string ⟨#[]⟩, .slice none 0 0] 24))
  have r9 := toHid (q9.alloc (.cells #[.int .i64 kl, .int .i64 nl, .string ⟨#[]⟩, .slice none 0 0] 24))
  have r10 := toHid (q10.alloc (.cells #[.int .i64 kl, .int .i64 nl, .string ⟨#[]⟩, .slice none 0 0] 24))
  have r12 := toHid (q12.alloc (.cells #[.int .i64 kl, .int .i64 nl, .string ⟨#[]⟩, .slice none 0 0] 24))
  have r14 := toHid (BoxAt.new w8 kl nl)
  have J8 := toHid (j8.alloc j8.size (.cells #[.int .i64 kl, .int .i64 nl, .string ⟨#[]⟩, .slice none 0 0] 24))
  have Z8 := toHid J8.out.size
  clear q7 q8 q9 q10 q12 j8
  have Q7 := r7
  have Q8 := r8
  have Q9 := r9
  have Q10 := r10
  have Q12 := r12
  have Q14 := r14
  clear r7 r8 r9 r10 r12 r14 J7 Z7
  go_wp2_with fail
  clear x70 x71 x72 x73 l7 x90 x91 x92 x93 l9
  refine (Hh4.out _).mono ?_
  rintro e w9 ⟨rfl, b9⟩
  have j9 : Below w.heap.size w w9 := J8.out.trans (b9.mono Z8.out)
  have q7 := Q7.out.next b9
  have q8 := Q8.out.next b9
  have q9 := Q9.out.next b9
  have q10 := Q10.out.next b9
  have q12 := Q12.out.next b9
  have q14 := Q14.out.next b9
  clear b9 Q7 Q8 Q9 Q10 Q12 Q14
  obtain ⟨x80, x81, x82, x83⟩ := q8.cells
  have l8 := q8.1
  obtain ⟨x90, x91, x92, x93⟩ := q9.cells
  have l9 := q9.1
  have r7 := toHid (q7.alloc (.cells #[.int .i64 km, .int .i64 nm, .string ⟨#[]⟩, .slice none 0 0] 24))
  have r8 := toHid (q8.alloc (.cells #[.int .i64 km, .int .i64 nm, .string ⟨#[]⟩, .slice none 0 0] 24))
  have r9 := toHid (q9.alloc (.cells #[.int .i64 km, .int .i64 nm, .string ⟨#[]⟩, .slice none 0 0] 24))
  have r10 := toHid (q10.alloc (.cells #[.int .i64 km, .int .i64 nm, .string ⟨#[]⟩, .slice none 0 0] 24))
  have r12 := toHid (q12.alloc (.cells #[.int .i64 km, .int .i64 nm, .string ⟨#[]⟩, .slice none 0 0] 24))
  have r14 := toHid (q14.alloc (.cells #[.int .i64 km, .int .i64 nm, .string ⟨#[]⟩, .slice none 0 0] 24))
  have r15 := toHid (BoxAt.new w9 km nm)
  have J9 := toHid (j9.alloc j9.size (.cells #[.int .i64 km, .int .i64 nm, .string ⟨#[]⟩, .slice none 0 0] 24))
  have Z9 := toHid J9.out.size
  clear q7 q8 q9 q10 q12 q14 j9
  have Q7 := r7
  have Q8 := r8
  have Q9 := r9
  have Q10 := r10
  have Q12 := r12
  have Q14 := r14
  have Q15 := r15
  clear r7 r8 r9 r10 r12 r14 r15 J8 Z8
  go_wp2_with fail
  clear x80 x81 x82 x83 l8 x90 x91 x92 x93 l9
  refine (Hh5.out _).mono ?_
  rintro e w10 ⟨rfl, b10⟩
  have j10 : Below w.heap.size w w10 := J9.out.trans (b10.mono Z9.out)
  have q7 := Q7.out.next b10
  have q8 := Q8.out.next b10
  have q9 := Q9.out.next b10
  have q10 := Q10.out.next b10
  have q12 := Q12.out.next b10
  have q14 := Q14.out.next b10
  have q15 := Q15.out.next b10
  clear b10 Q7 Q8 Q9 Q10 Q12 Q14 Q15
  obtain ⟨x150, x151, x152, x153⟩ := q15.cells
  have l15 := q15.1
  have r7 := toHid (q7.alloc (.cells #[.int .i64 kn, .int .i64 nn, .string ⟨#[]⟩, .slice none 0 0] 24))
  have r8 := toHid (q8.alloc (.cells #[.int .i64 kn, .int .i64 nn, .string ⟨#[]⟩, .slice none 0 0] 24))
  have r9 := toHid (q9.alloc (.cells #[.int .i64 kn, .int .i64 nn, .string ⟨#[]⟩, .slice none 0 0] 24))
  have r10 := toHid (q10.alloc (.cells #[.int .i64 kn, .int .i64 nn, .string ⟨#[]⟩, .slice none 0 0] 24))
  have r12 := toHid (q12.alloc (.cells #[.int .i64 kn, .int .i64 nn, .string ⟨#[]⟩, .slice none 0 0] 24))
  have r14 := toHid (q14.alloc (.cells #[.int .i64 kn, .int .i64 nn, .string ⟨#[]⟩, .slice none 0 0] 24))
  have r15 := toHid (q15.alloc (.cells #[.int .i64 kn, .int .i64 nn, .string ⟨#[]⟩, .slice none 0 0] 24))
  have r16 := toHid (BoxAt.new w10 kn nn)
  have J10 := toHid (j10.alloc j10.size (.cells #[.int .i64 kn, .int .i64 nn, .string ⟨#[]⟩, .slice none 0 0] 24))
  have Z10 := toHid J10.out.size
  clear q7 q8 q9 q10 q12 q14 q15 j10
  have Q7 := r7
  have Q8 := r8
  have Q9 := r9
  have Q10 := r10
  have Q12 := r12
  have Q14 := r14
  have Q15 := r15
  have Q16 := r16
  clear r7 r8 r9 r10 r12 r14 r15 r16 J9 Z9
  go_wp2_with fail
  clear x150 x151 x152 x153 l15
  refine (Hh6.out _).mono ?_
  rintro e w11 ⟨rfl, b11⟩
  have j11 : Below w.heap.size w w11 := J10.out.trans (b11.mono Z10.out)
  have q7 := Q7.out.next b11
  have q8 := Q8.out.next b11
  have q9 := Q9.out.next b11
  have q10 := Q10.out.next b11
  have q12 := Q12.out.next b11
  have q14 := Q14.out.next b11
  have q15 := Q15.out.next b11
  have q16 := Q16.out.next b11
  clear b11 Q7 Q8 Q9 Q10 Q12 Q14 Q15 Q16
  obtain ⟨x100, x101, x102, x103⟩ := q10.cells
  have l10 := q10.1
  have r7 := toHid (q7.alloc (.cells #[.int .i64 ks, .int .i64 ns, .string ⟨#[]⟩, .slice none 0 0] 24))
  have r8 := toHid (q8.alloc (.cells #[.int .i64 ks, .int .i64 ns, .string ⟨#[]⟩, .slice none 0 0] 24))
  have r9 := toHid (q9.alloc (.cells #[.int .i64 ks, .int .i64 ns, .string ⟨#[]⟩, .slice none 0 0] 24))
  have r10 := toHid (q10.alloc (.cells #[.int .i64 ks, .int .i64 ns, .string ⟨#[]⟩, .slice none 0 0] 24))
  have r12 := toHid (q12.alloc (.cells #[.int .i64 ks, .int .i64 ns, .string ⟨#[]⟩, .slice none 0 0] 24))
  have r14 := toHid (q14.alloc (.cells #[.int .i64 ks, .int .i64 ns, .string ⟨#[]⟩, .slice none 0 0] 24))
  have r15 := toHid (q15.alloc (.cells #[.int .i64 ks, .int .i64 ns, .string ⟨#[]⟩, .slice none 0 0] 24))
  have r16 := toHid (q16.alloc (.cells #[.int .i64 ks, .int .i64 ns, .string ⟨#[]⟩, .slice none 0 0] 24))
  have r18 := toHid (BoxAt.new w11 ks ns)
  have J11 := toHid (j11.alloc j11.size (.cells #[.int .i64 ks, .int .i64 ns, .string ⟨#[]⟩, .slice none 0 0] 24))
  have Z11 := toHid J11.out.size
  clear q7 q8 q9 q10 q12 q14 q15 q16 j11
  have Q7 := r7
  have Q8 := r8
  have Q9 := r9
  have Q10 := r10
  have Q12 := r12
  have Q14 := r14
  have Q15 := r15
  have Q16 := r16
  have Q18 := r18
  clear r7 r8 r9 r10 r12 r14 r15 r16 r18 J10 Z10
  go_wp2_with fail
  go_ret
  exact ⟨rfl, J11.out⟩

set_option maxHeartbeats 8000000 in
set_option maxRecDepth 100000 in
theorem ring_4 (a b c kp np ep kl nl el km nm em kn nn en ks ns es : Int) (w : World) (h1 : ∀ W, Calls Tryd.prog 21 #[.string ⟨#[43]⟩, .agg #[.int .i64 2, .int .i64 a, .string ⟨#[]⟩, .slice none 0 0], .agg #[.int .i64 2, .int .i64 b, .string ⟨#[]⟩, .slice none 0 0]] W fun e w' => e = .returned (.tuple #[.agg #[.int .i64 kp, .int .i64 np, .string ⟨#[]⟩, .slice none 0 0], .int .i64 ep]) ∧ Below W.heap.size W w') (h2 : ∀ W, Calls Tryd.prog 21 #[.string ⟨#[43]⟩, .agg #[.int .i64 2, .int .i64 b, .string ⟨#[]⟩, .slice none 0 0], .agg #[.int .i64 2, .int .i64 a, .string ⟨#[]⟩, .slice none 0 0]] W fun e w' => e = .returned (.tuple #[.agg #[.int .i64 kp, .int .i64 np, .string ⟨#[]⟩, .slice none 0 0], .int .i64 ep]) ∧ Below W.heap.size W w') (hv : ∀ W, Below w.heap.size w W → Calls Tryd.prog 8 #[] W fun e w' => e = .returned (.bool true) ∧ Below W.heap.size W w') (h3 : ∀ W, Calls Tryd.prog 21 #[.string ⟨#[42]⟩, .agg #[.int .i64 kp, .int .i64 np, .string ⟨#[]⟩, .slice none 0 0], .agg #[.int .i64 2, .int .i64 c, .string ⟨#[]⟩, .slice none 0 0]] W fun e w' => e = .returned (.tuple #[.agg #[.int .i64 kl, .int .i64 nl, .string ⟨#[]⟩, .slice none 0 0], .int .i64 el]) ∧ Below W.heap.size W w') (h4 : ∀ W, Calls Tryd.prog 21 #[.string ⟨#[42]⟩, .agg #[.int .i64 2, .int .i64 a, .string ⟨#[]⟩, .slice none 0 0], .agg #[.int .i64 2, .int .i64 c, .string ⟨#[]⟩, .slice none 0 0]] W fun e w' => e = .returned (.tuple #[.agg #[.int .i64 km, .int .i64 nm, .string ⟨#[]⟩, .slice none 0 0], .int .i64 em]) ∧ Below W.heap.size W w') (h5 : ∀ W, Calls Tryd.prog 21 #[.string ⟨#[42]⟩, .agg #[.int .i64 2, .int .i64 b, .string ⟨#[]⟩, .slice none 0 0], .agg #[.int .i64 2, .int .i64 c, .string ⟨#[]⟩, .slice none 0 0]] W fun e w' => e = .returned (.tuple #[.agg #[.int .i64 kn, .int .i64 nn, .string ⟨#[]⟩, .slice none 0 0], .int .i64 en]) ∧ Below W.heap.size W w') (h6 : ∀ W, Calls Tryd.prog 21 #[.string ⟨#[43]⟩, .agg #[.int .i64 km, .int .i64 nm, .string ⟨#[]⟩, .slice none 0 0], .agg #[.int .i64 kn, .int .i64 nn, .string ⟨#[]⟩, .slice none 0 0]] W fun e w' => e = .returned (.tuple #[.agg #[.int .i64 ks, .int .i64 ns, .string ⟨#[]⟩, .slice none 0 0], .int .i64 es]) ∧ Below W.heap.size W w') (t0 : (kp == 0) = false) (t1 : (el != 0) = false) (t2 : (em != 0) = false) (t3 : (en != 0) = false) (t4 : (es != 0) = true)  :
    Calls Tryd.prog 7 #[.int .i64 a, .int .i64 b, .int .i64 c] w fun e w' => e = .returned (.bool true) ∧ Below w.heap.size w w' := by
  have Hh1 := toHid h1
  have Hh2 := toHid h2
  have Hh3 := toHid h3
  have Hh4 := toHid h4
  have Hh5 := toHid h5
  have Hh6 := toHid h6
  have Hhv := toHid hv
  clear h1 h2 h3 h4 h5 h6 hv
  go_enter Tryd.func7, Tryd.ntmps7
  go_wp2_with fail
  refine (num_any _ _).mono ?_
  rintro e w1 ⟨rfl, b1⟩
  go_wp2_with fail
  refine (num_any _ _).mono ?_
  rintro e w2 ⟨rfl, b2⟩
  go_wp2_with fail
  refine (num_any _ _).mono ?_
  rintro e w3 ⟨rfl, b3⟩
  have k3 : Below w.heap.size w w3 := (b1.trans (b2.mono b1.size)).trans (b3.mono (Nat.le_trans b1.size b2.size))
  clear b1 b2 b3
  have q7 : BoxAt (((w3.alloc (.cells #[.int .i64 2, .int .i64 a, .string ⟨#[]⟩, .slice none 0 0] 24)).alloc (.cells #[.int .i64 2, .int .i64 b, .string ⟨#[]⟩, .slice none 0 0] 24)).alloc (.cells #[.int .i64 2, .int .i64 c, .string ⟨#[]⟩, .slice none 0 0] 24)) w3.heap.size 2 a := ((BoxAt.new w3 2 a).alloc _).alloc _
  have q8 : BoxAt (((w3.alloc (.cells #[.int .i64 2, .int .i64 a, .string ⟨#[]⟩, .slice none 0 0] 24)).alloc (.cells #[.int .i64 2, .int .i64 b, .string ⟨#[]⟩, .slice none 0 0] 24)).alloc (.cells #[.int .i64 2, .int .i64 c, .string ⟨#[]⟩, .slice none 0 0] 24)) (w3.heap.size + 1) 2 b := by
    have := (BoxAt.new (w3.alloc (.cells #[.int .i64 2, .int .i64 a, .string ⟨#[]⟩, .slice none 0 0] 24)) 2 b).alloc (.cells #[.int .i64 2, .int .i64 c, .string ⟨#[]⟩, .slice none 0 0] 24)
    rw [show (w3.alloc (.cells #[.int .i64 2, .int .i64 a, .string ⟨#[]⟩, .slice none 0 0] 24)).heap.size = w3.heap.size + 1 from by simp] at this
    exact this
  have q9 : BoxAt (((w3.alloc (.cells #[.int .i64 2, .int .i64 a, .string ⟨#[]⟩, .slice none 0 0] 24)).alloc (.cells #[.int .i64 2, .int .i64 b, .string ⟨#[]⟩, .slice none 0 0] 24)).alloc (.cells #[.int .i64 2, .int .i64 c, .string ⟨#[]⟩, .slice none 0 0] 24)) (w3.heap.size + 1 + 1) 2 c := by
    have := BoxAt.new ((w3.alloc (.cells #[.int .i64 2, .int .i64 a, .string ⟨#[]⟩, .slice none 0 0] 24)).alloc (.cells #[.int .i64 2, .int .i64 b, .string ⟨#[]⟩, .slice none 0 0] 24)) 2 c
    rw [show ((w3.alloc (.cells #[.int .i64 2, .int .i64 a, .string ⟨#[]⟩, .slice none 0 0] 24)).alloc (.cells #[.int .i64 2, .int .i64 b, .string ⟨#[]⟩, .slice none 0 0] 24)).heap.size = w3.heap.size + 1 + 1 from by simp] at this
    exact this
  have j3 : Below w.heap.size w (((w3.alloc (.cells #[.int .i64 2, .int .i64 a, .string ⟨#[]⟩, .slice none 0 0] 24)).alloc (.cells #[.int .i64 2, .int .i64 b, .string ⟨#[]⟩, .slice none 0 0] 24)).alloc (.cells #[.int .i64 2, .int .i64 c, .string ⟨#[]⟩, .slice none 0 0] 24)) := ((k3.alloc k3.size _).alloc (by have := k3.size; simp; omega) _).alloc (by have := k3.size; simp; omega) _
  have z3 : w.heap.size ≤ (((w3.alloc (.cells #[.int .i64 2, .int .i64 a, .string ⟨#[]⟩, .slice none 0 0] 24)).alloc (.cells #[.int .i64 2, .int .i64 b, .string ⟨#[]⟩, .slice none 0 0] 24)).alloc (.cells #[.int .i64 2, .int .i64 c, .string ⟨#[]⟩, .slice none 0 0] 24)).heap.size := j3.size
  have Q7 := toHid q7
  have Q8 := toHid q8
  have Q9 := toHid q9
  have J3 := toHid j3
  have Z3 := toHid z3
  clear q7 q8 q9 j3 z3 k3
  go_wp2_with fail
  refine (Hh1.out _).mono ?_
  rintro e w4 ⟨rfl, b4⟩
  have j4 : Below w.heap.size w w4 := J3.out.trans (b4.mono Z3.out)
  have q7 := Q7.out.next b4
  have q8 := Q8.out.next b4
  have q9 := Q9.out.next b4
  clear b4 Q7 Q8 Q9
  obtain ⟨x70, x71, x72, x73⟩ := q7.cells
  have l7 := q7.1
  obtain ⟨x80, x81, x82, x83⟩ := q8.cells
  have l8 := q8.1
  have r7 := toHid (q7.alloc (.cells #[.int .i64 kp, .int .i64 np, .string ⟨#[]⟩, .slice none 0 0] 24))
  have r8 := toHid (q8.alloc (.cells #[.int .i64 kp, .int .i64 np, .string ⟨#[]⟩, .slice none 0 0] 24))
  have r9 := toHid (q9.alloc (.cells #[.int .i64 kp, .int .i64 np, .string ⟨#[]⟩, .slice none 0 0] 24))
  have r10 := toHid (BoxAt.new w4 kp np)
  have J4 := toHid (j4.alloc j4.size (.cells #[.int .i64 kp, .int .i64 np, .string ⟨#[]⟩, .slice none 0 0] 24))
  have Z4 := toHid J4.out.size
  clear q7 q8 q9 j4
  have Q7 := r7
  have Q8 := r8
  have Q9 := r9
  have Q10 := r10
  clear r7 r8 r9 r10 J3 Z3
  go_wp2_with fail
  clear x70 x71 x72 x73 l7 x80 x81 x82 x83 l8
  refine (Hh2.out _).mono ?_
  rintro e w5 ⟨rfl, b5⟩
  have j5 : Below w.heap.size w w5 := J4.out.trans (b5.mono Z4.out)
  have q7 := Q7.out.next b5
  have q8 := Q8.out.next b5
  have q9 := Q9.out.next b5
  have q10 := Q10.out.next b5
  clear b5 Q7 Q8 Q9 Q10
  have r7 := toHid (q7.alloc (.cells #[.int .i64 kp, .int .i64 np, .string ⟨#[]⟩, .slice none 0 0] 24))
  have r8 := toHid (q8.alloc (.cells #[.int .i64 kp, .int .i64 np, .string ⟨#[]⟩, .slice none 0 0] 24))
  have r9 := toHid (q9.alloc (.cells #[.int .i64 kp, .int .i64 np, .string ⟨#[]⟩, .slice none 0 0] 24))
  have r10 := toHid (q10.alloc (.cells #[.int .i64 kp, .int .i64 np, .string ⟨#[]⟩, .slice none 0 0] 24))
  have r12 := toHid (BoxAt.new w5 kp np)
  have J5 := toHid (j5.alloc j5.size (.cells #[.int .i64 kp, .int .i64 np, .string ⟨#[]⟩, .slice none 0 0] 24))
  have Z5 := toHid J5.out.size
  clear q7 q8 q9 q10 j5
  have Q7 := r7
  have Q8 := r8
  have Q9 := r9
  have Q10 := r10
  have Q12 := r12
  clear r7 r8 r9 r10 r12 J4 Z4
  go_wp2_with fail
  refine (Hhv.out _ J5.out).mono ?_
  rintro e w6 ⟨rfl, b6⟩
  have j6 : Below w.heap.size w w6 := J5.out.trans (b6.mono Z5.out)
  have q7 := Q7.out.next b6
  have q8 := Q8.out.next b6
  have q9 := Q9.out.next b6
  have q10 := Q10.out.next b6
  have q12 := Q12.out.next b6
  clear b6 Q7 Q8 Q9 Q10 Q12
  obtain ⟨x100, x101, x102, x103⟩ := q10.cells
  have l10 := q10.1
  obtain ⟨x120, x121, x122, x123⟩ := q12.cells
  have l12 := q12.1
  have r7 := toHid q7
  have r8 := toHid q8
  have r9 := toHid q9
  have r10 := toHid q10
  have r12 := toHid q12
  have J6 := toHid j6
  have Z6 := toHid j6.size
  clear q7 q8 q9 q10 q12 j6
  have Q7 := r7
  have Q8 := r8
  have Q9 := r9
  have Q10 := r10
  have Q12 := r12
  clear r7 r8 r9 r10 r12 J5 Z5
  go_wp2_with fail
  clear x100 x101 x102 x103 l10 x120 x121 x122 x123 l12
  refine (same_self _ _ _).mono ?_
  rintro e w7 ⟨rfl, b7⟩
  have j7 : Below w.heap.size w w7 := J6.out.trans (b7.mono Z6.out)
  have q7 := Q7.out.next b7
  have q8 := Q8.out.next b7
  have q9 := Q9.out.next b7
  have q10 := Q10.out.next b7
  have q12 := Q12.out.next b7
  clear b7 Q7 Q8 Q9 Q10 Q12
  obtain ⟨x100, x101, x102, x103⟩ := q10.cells
  have l10 := q10.1
  obtain ⟨x90, x91, x92, x93⟩ := q9.cells
  have l9 := q9.1
  have r7 := toHid q7
  have r8 := toHid q8
  have r9 := toHid q9
  have r10 := toHid q10
  have r12 := toHid q12
  have J7 := toHid j7
  have Z7 := toHid j7.size
  clear q7 q8 q9 q10 q12 j7
  have Q7 := r7
  have Q8 := r8
  have Q9 := r9
  have Q10 := r10
  have Q12 := r12
  clear r7 r8 r9 r10 r12 J6 Z6
  go_wp2_with fail
  clear x100 x101 x102 x103 l10 x90 x91 x92 x93 l9
  refine (Hh3.out _).mono ?_
  rintro e w8 ⟨rfl, b8⟩
  have j8 : Below w.heap.size w w8 := J7.out.trans (b8.mono Z7.out)
  have q7 := Q7.out.next b8
  have q8 := Q8.out.next b8
  have q9 := Q9.out.next b8
  have q10 := Q10.out.next b8
  have q12 := Q12.out.next b8
  clear b8 Q7 Q8 Q9 Q10 Q12
  obtain ⟨x70, x71, x72, x73⟩ := q7.cells
  have l7 := q7.1
  obtain ⟨x90, x91, x92, x93⟩ := q9.cells
  have l9 := q9.1
  have r7 := toHid (q7.alloc (.cells #[.int .i64 kl, .int .i64 nl, .string ⟨#[]⟩, .slice none 0 0] 24))
  have r8 := toHid (q8.alloc (.cells #[.int .i64 kl, .int .i64 nl, .string ⟨#[]⟩, .slice none 0 0] 24))
  have r9 := toHid (q9.alloc (.cells #[.int .i64 kl, .int .i64 nl, .string ⟨#[]⟩, .slice none 0 0] 24))
  have r10 := toHid (q10.alloc (.cells #[.int .i64 kl, .int .i64 nl, .string ⟨#[]⟩, .slice none 0 0] 24))
  have r12 := toHid (q12.alloc (.cells #[.int .i64 kl, .int .i64 nl, .string ⟨#[]⟩, .slice none 0 0] 24))
  have r14 := toHid (BoxAt.new w8 kl nl)
  have J8 := toHid (j8.alloc j8.size (.cells #[.int .i64 kl, .int .i64 nl, .string ⟨#[]⟩, .slice none 0 0] 24))
  have Z8 := toHid J8.out.size
  clear q7 q8 q9 q10 q12 j8
  have Q7 := r7
  have Q8 := r8
  have Q9 := r9
  have Q10 := r10
  have Q12 := r12
  have Q14 := r14
  clear r7 r8 r9 r10 r12 r14 J7 Z7
  go_wp2_with fail
  clear x70 x71 x72 x73 l7 x90 x91 x92 x93 l9
  refine (Hh4.out _).mono ?_
  rintro e w9 ⟨rfl, b9⟩
  have j9 : Below w.heap.size w w9 := J8.out.trans (b9.mono Z8.out)
  have q7 := Q7.out.next b9
  have q8 := Q8.out.next b9
  have q9 := Q9.out.next b9
  have q10 := Q10.out.next b9
  have q12 := Q12.out.next b9
  have q14 := Q14.out.next b9
  clear b9 Q7 Q8 Q9 Q10 Q12 Q14
  obtain ⟨x80, x81, x82, x83⟩ := q8.cells
  have l8 := q8.1
  obtain ⟨x90, x91, x92, x93⟩ := q9.cells
  have l9 := q9.1
  have r7 := toHid (q7.alloc (.cells #[.int .i64 km, .int .i64 nm, .string ⟨#[]⟩, .slice none 0 0] 24))
  have r8 := toHid (q8.alloc (.cells #[.int .i64 km, .int .i64 nm, .string ⟨#[]⟩, .slice none 0 0] 24))
  have r9 := toHid (q9.alloc (.cells #[.int .i64 km, .int .i64 nm, .string ⟨#[]⟩, .slice none 0 0] 24))
  have r10 := toHid (q10.alloc (.cells #[.int .i64 km, .int .i64 nm, .string ⟨#[]⟩, .slice none 0 0] 24))
  have r12 := toHid (q12.alloc (.cells #[.int .i64 km, .int .i64 nm, .string ⟨#[]⟩, .slice none 0 0] 24))
  have r14 := toHid (q14.alloc (.cells #[.int .i64 km, .int .i64 nm, .string ⟨#[]⟩, .slice none 0 0] 24))
  have r15 := toHid (BoxAt.new w9 km nm)
  have J9 := toHid (j9.alloc j9.size (.cells #[.int .i64 km, .int .i64 nm, .string ⟨#[]⟩, .slice none 0 0] 24))
  have Z9 := toHid J9.out.size
  clear q7 q8 q9 q10 q12 q14 j9
  have Q7 := r7
  have Q8 := r8
  have Q9 := r9
  have Q10 := r10
  have Q12 := r12
  have Q14 := r14
  have Q15 := r15
  clear r7 r8 r9 r10 r12 r14 r15 J8 Z8
  go_wp2_with fail
  clear x80 x81 x82 x83 l8 x90 x91 x92 x93 l9
  refine (Hh5.out _).mono ?_
  rintro e w10 ⟨rfl, b10⟩
  have j10 : Below w.heap.size w w10 := J9.out.trans (b10.mono Z9.out)
  have q7 := Q7.out.next b10
  have q8 := Q8.out.next b10
  have q9 := Q9.out.next b10
  have q10 := Q10.out.next b10
  have q12 := Q12.out.next b10
  have q14 := Q14.out.next b10
  have q15 := Q15.out.next b10
  clear b10 Q7 Q8 Q9 Q10 Q12 Q14 Q15
  obtain ⟨x150, x151, x152, x153⟩ := q15.cells
  have l15 := q15.1
  have r7 := toHid (q7.alloc (.cells #[.int .i64 kn, .int .i64 nn, .string ⟨#[]⟩, .slice none 0 0] 24))
  have r8 := toHid (q8.alloc (.cells #[.int .i64 kn, .int .i64 nn, .string ⟨#[]⟩, .slice none 0 0] 24))
  have r9 := toHid (q9.alloc (.cells #[.int .i64 kn, .int .i64 nn, .string ⟨#[]⟩, .slice none 0 0] 24))
  have r10 := toHid (q10.alloc (.cells #[.int .i64 kn, .int .i64 nn, .string ⟨#[]⟩, .slice none 0 0] 24))
  have r12 := toHid (q12.alloc (.cells #[.int .i64 kn, .int .i64 nn, .string ⟨#[]⟩, .slice none 0 0] 24))
  have r14 := toHid (q14.alloc (.cells #[.int .i64 kn, .int .i64 nn, .string ⟨#[]⟩, .slice none 0 0] 24))
  have r15 := toHid (q15.alloc (.cells #[.int .i64 kn, .int .i64 nn, .string ⟨#[]⟩, .slice none 0 0] 24))
  have r16 := toHid (BoxAt.new w10 kn nn)
  have J10 := toHid (j10.alloc j10.size (.cells #[.int .i64 kn, .int .i64 nn, .string ⟨#[]⟩, .slice none 0 0] 24))
  have Z10 := toHid J10.out.size
  clear q7 q8 q9 q10 q12 q14 q15 j10
  have Q7 := r7
  have Q8 := r8
  have Q9 := r9
  have Q10 := r10
  have Q12 := r12
  have Q14 := r14
  have Q15 := r15
  have Q16 := r16
  clear r7 r8 r9 r10 r12 r14 r15 r16 J9 Z9
  go_wp2_with fail
  clear x150 x151 x152 x153 l15
  refine (Hh6.out _).mono ?_
  rintro e w11 ⟨rfl, b11⟩
  have j11 : Below w.heap.size w w11 := J10.out.trans (b11.mono Z10.out)
  have q7 := Q7.out.next b11
  have q8 := Q8.out.next b11
  have q9 := Q9.out.next b11
  have q10 := Q10.out.next b11
  have q12 := Q12.out.next b11
  have q14 := Q14.out.next b11
  have q15 := Q15.out.next b11
  have q16 := Q16.out.next b11
  clear b11 Q7 Q8 Q9 Q10 Q12 Q14 Q15 Q16
  obtain ⟨x100, x101, x102, x103⟩ := q10.cells
  have l10 := q10.1
  have r7 := toHid (q7.alloc (.cells #[.int .i64 ks, .int .i64 ns, .string ⟨#[]⟩, .slice none 0 0] 24))
  have r8 := toHid (q8.alloc (.cells #[.int .i64 ks, .int .i64 ns, .string ⟨#[]⟩, .slice none 0 0] 24))
  have r9 := toHid (q9.alloc (.cells #[.int .i64 ks, .int .i64 ns, .string ⟨#[]⟩, .slice none 0 0] 24))
  have r10 := toHid (q10.alloc (.cells #[.int .i64 ks, .int .i64 ns, .string ⟨#[]⟩, .slice none 0 0] 24))
  have r12 := toHid (q12.alloc (.cells #[.int .i64 ks, .int .i64 ns, .string ⟨#[]⟩, .slice none 0 0] 24))
  have r14 := toHid (q14.alloc (.cells #[.int .i64 ks, .int .i64 ns, .string ⟨#[]⟩, .slice none 0 0] 24))
  have r15 := toHid (q15.alloc (.cells #[.int .i64 ks, .int .i64 ns, .string ⟨#[]⟩, .slice none 0 0] 24))
  have r16 := toHid (q16.alloc (.cells #[.int .i64 ks, .int .i64 ns, .string ⟨#[]⟩, .slice none 0 0] 24))
  have r18 := toHid (BoxAt.new w11 ks ns)
  have J11 := toHid (j11.alloc j11.size (.cells #[.int .i64 ks, .int .i64 ns, .string ⟨#[]⟩, .slice none 0 0] 24))
  have Z11 := toHid J11.out.size
  clear q7 q8 q9 q10 q12 q14 q15 q16 j11
  have Q7 := r7
  have Q8 := r8
  have Q9 := r9
  have Q10 := r10
  have Q12 := r12
  have Q14 := r14
  have Q15 := r15
  have Q16 := r16
  have Q18 := r18
  clear r7 r8 r9 r10 r12 r14 r15 r16 r18 J10 Z10
  go_wp2_with fail
  go_ret
  exact ⟨rfl, J11.out⟩

set_option maxHeartbeats 8000000 in
set_option maxRecDepth 100000 in
theorem ring_5 (a b c kp np ep kl nl el km nm em kn nn en ks ns es : Int) (w : World) (h1 : ∀ W, Calls Tryd.prog 21 #[.string ⟨#[43]⟩, .agg #[.int .i64 2, .int .i64 a, .string ⟨#[]⟩, .slice none 0 0], .agg #[.int .i64 2, .int .i64 b, .string ⟨#[]⟩, .slice none 0 0]] W fun e w' => e = .returned (.tuple #[.agg #[.int .i64 kp, .int .i64 np, .string ⟨#[]⟩, .slice none 0 0], .int .i64 ep]) ∧ Below W.heap.size W w') (h2 : ∀ W, Calls Tryd.prog 21 #[.string ⟨#[43]⟩, .agg #[.int .i64 2, .int .i64 b, .string ⟨#[]⟩, .slice none 0 0], .agg #[.int .i64 2, .int .i64 a, .string ⟨#[]⟩, .slice none 0 0]] W fun e w' => e = .returned (.tuple #[.agg #[.int .i64 kp, .int .i64 np, .string ⟨#[]⟩, .slice none 0 0], .int .i64 ep]) ∧ Below W.heap.size W w') (hv : ∀ W, Below w.heap.size w W → Calls Tryd.prog 8 #[] W fun e w' => e = .returned (.bool true) ∧ Below W.heap.size W w') (h3 : ∀ W, Calls Tryd.prog 21 #[.string ⟨#[42]⟩, .agg #[.int .i64 kp, .int .i64 np, .string ⟨#[]⟩, .slice none 0 0], .agg #[.int .i64 2, .int .i64 c, .string ⟨#[]⟩, .slice none 0 0]] W fun e w' => e = .returned (.tuple #[.agg #[.int .i64 kl, .int .i64 nl, .string ⟨#[]⟩, .slice none 0 0], .int .i64 el]) ∧ Below W.heap.size W w') (h4 : ∀ W, Calls Tryd.prog 21 #[.string ⟨#[42]⟩, .agg #[.int .i64 2, .int .i64 a, .string ⟨#[]⟩, .slice none 0 0], .agg #[.int .i64 2, .int .i64 c, .string ⟨#[]⟩, .slice none 0 0]] W fun e w' => e = .returned (.tuple #[.agg #[.int .i64 km, .int .i64 nm, .string ⟨#[]⟩, .slice none 0 0], .int .i64 em]) ∧ Below W.heap.size W w') (h5 : ∀ W, Calls Tryd.prog 21 #[.string ⟨#[42]⟩, .agg #[.int .i64 2, .int .i64 b, .string ⟨#[]⟩, .slice none 0 0], .agg #[.int .i64 2, .int .i64 c, .string ⟨#[]⟩, .slice none 0 0]] W fun e w' => e = .returned (.tuple #[.agg #[.int .i64 kn, .int .i64 nn, .string ⟨#[]⟩, .slice none 0 0], .int .i64 en]) ∧ Below W.heap.size W w') (h6 : ∀ W, Calls Tryd.prog 21 #[.string ⟨#[43]⟩, .agg #[.int .i64 km, .int .i64 nm, .string ⟨#[]⟩, .slice none 0 0], .agg #[.int .i64 kn, .int .i64 nn, .string ⟨#[]⟩, .slice none 0 0]] W fun e w' => e = .returned (.tuple #[.agg #[.int .i64 kl, .int .i64 nl, .string ⟨#[]⟩, .slice none 0 0], .int .i64 es]) ∧ Below W.heap.size W w') (h7 : ∀ W, Calls Tryd.prog 21 #[.string ⟨#[45]⟩, .agg #[.int .i64 kl, .int .i64 nl, .string ⟨#[]⟩, .slice none 0 0], .agg #[.int .i64 kn, .int .i64 nn, .string ⟨#[]⟩, .slice none 0 0]] W fun e w' => e = .returned (.tuple #[.agg #[.int .i64 km, .int .i64 nm, .string ⟨#[]⟩, .slice none 0 0], .int .i64 0]) ∧ Below W.heap.size W w') (t0 : (kp == 0) = false) (t1 : (el != 0) = false) (t2 : (em != 0) = false) (t3 : (en != 0) = false) (t4 : (es != 0) = false)  :
    Calls Tryd.prog 7 #[.int .i64 a, .int .i64 b, .int .i64 c] w fun e w' => e = .returned (.bool true) ∧ Below w.heap.size w w' := by
  have Hh1 := toHid h1
  have Hh2 := toHid h2
  have Hh3 := toHid h3
  have Hh4 := toHid h4
  have Hh5 := toHid h5
  have Hh6 := toHid h6
  have Hh7 := toHid h7
  have Hhv := toHid hv
  clear h1 h2 h3 h4 h5 h6 h7 hv
  go_enter Tryd.func7, Tryd.ntmps7
  go_wp2_with fail
  refine (num_any _ _).mono ?_
  rintro e w1 ⟨rfl, b1⟩
  go_wp2_with fail
  refine (num_any _ _).mono ?_
  rintro e w2 ⟨rfl, b2⟩
  go_wp2_with fail
  refine (num_any _ _).mono ?_
  rintro e w3 ⟨rfl, b3⟩
  have k3 : Below w.heap.size w w3 := (b1.trans (b2.mono b1.size)).trans (b3.mono (Nat.le_trans b1.size b2.size))
  clear b1 b2 b3
  have q7 : BoxAt (((w3.alloc (.cells #[.int .i64 2, .int .i64 a, .string ⟨#[]⟩, .slice none 0 0] 24)).alloc (.cells #[.int .i64 2, .int .i64 b, .string ⟨#[]⟩, .slice none 0 0] 24)).alloc (.cells #[.int .i64 2, .int .i64 c, .string ⟨#[]⟩, .slice none 0 0] 24)) w3.heap.size 2 a := ((BoxAt.new w3 2 a).alloc _).alloc _
  have q8 : BoxAt (((w3.alloc (.cells #[.int .i64 2, .int .i64 a, .string ⟨#[]⟩, .slice none 0 0] 24)).alloc (.cells #[.int .i64 2, .int .i64 b, .string ⟨#[]⟩, .slice none 0 0] 24)).alloc (.cells #[.int .i64 2, .int .i64 c, .string ⟨#[]⟩, .slice none 0 0] 24)) (w3.heap.size + 1) 2 b := by
    have := (BoxAt.new (w3.alloc (.cells #[.int .i64 2, .int .i64 a, .string ⟨#[]⟩, .slice none 0 0] 24)) 2 b).alloc (.cells #[.int .i64 2, .int .i64 c, .string ⟨#[]⟩, .slice none 0 0] 24)
    rw [show (w3.alloc (.cells #[.int .i64 2, .int .i64 a, .string ⟨#[]⟩, .slice none 0 0] 24)).heap.size = w3.heap.size + 1 from by simp] at this
    exact this
  have q9 : BoxAt (((w3.alloc (.cells #[.int .i64 2, .int .i64 a, .string ⟨#[]⟩, .slice none 0 0] 24)).alloc (.cells #[.int .i64 2, .int .i64 b, .string ⟨#[]⟩, .slice none 0 0] 24)).alloc (.cells #[.int .i64 2, .int .i64 c, .string ⟨#[]⟩, .slice none 0 0] 24)) (w3.heap.size + 1 + 1) 2 c := by
    have := BoxAt.new ((w3.alloc (.cells #[.int .i64 2, .int .i64 a, .string ⟨#[]⟩, .slice none 0 0] 24)).alloc (.cells #[.int .i64 2, .int .i64 b, .string ⟨#[]⟩, .slice none 0 0] 24)) 2 c
    rw [show ((w3.alloc (.cells #[.int .i64 2, .int .i64 a, .string ⟨#[]⟩, .slice none 0 0] 24)).alloc (.cells #[.int .i64 2, .int .i64 b, .string ⟨#[]⟩, .slice none 0 0] 24)).heap.size = w3.heap.size + 1 + 1 from by simp] at this
    exact this
  have j3 : Below w.heap.size w (((w3.alloc (.cells #[.int .i64 2, .int .i64 a, .string ⟨#[]⟩, .slice none 0 0] 24)).alloc (.cells #[.int .i64 2, .int .i64 b, .string ⟨#[]⟩, .slice none 0 0] 24)).alloc (.cells #[.int .i64 2, .int .i64 c, .string ⟨#[]⟩, .slice none 0 0] 24)) := ((k3.alloc k3.size _).alloc (by have := k3.size; simp; omega) _).alloc (by have := k3.size; simp; omega) _
  have z3 : w.heap.size ≤ (((w3.alloc (.cells #[.int .i64 2, .int .i64 a, .string ⟨#[]⟩, .slice none 0 0] 24)).alloc (.cells #[.int .i64 2, .int .i64 b, .string ⟨#[]⟩, .slice none 0 0] 24)).alloc (.cells #[.int .i64 2, .int .i64 c, .string ⟨#[]⟩, .slice none 0 0] 24)).heap.size := j3.size
  have Q7 := toHid q7
  have Q8 := toHid q8
  have Q9 := toHid q9
  have J3 := toHid j3
  have Z3 := toHid z3
  clear q7 q8 q9 j3 z3 k3
  go_wp2_with fail
  refine (Hh1.out _).mono ?_
  rintro e w4 ⟨rfl, b4⟩
  have j4 : Below w.heap.size w w4 := J3.out.trans (b4.mono Z3.out)
  have q7 := Q7.out.next b4
  have q8 := Q8.out.next b4
  have q9 := Q9.out.next b4
  clear b4 Q7 Q8 Q9
  obtain ⟨x70, x71, x72, x73⟩ := q7.cells
  have l7 := q7.1
  obtain ⟨x80, x81, x82, x83⟩ := q8.cells
  have l8 := q8.1
  have r7 := toHid (q7.alloc (.cells #[.int .i64 kp, .int .i64 np, .string ⟨#[]⟩, .slice none 0 0] 24))
  have r8 := toHid (q8.alloc (.cells #[.int .i64 kp, .int .i64 np, .string ⟨#[]⟩, .slice none 0 0] 24))
  have r9 := toHid (q9.alloc (.cells #[.int .i64 kp, .int .i64 np, .string ⟨#[]⟩, .slice none 0 0] 24))
  have r10 := toHid (BoxAt.new w4 kp np)
  have J4 := toHid (j4.alloc j4.size (.cells #[.int .i64 kp, .int .i64 np, .string ⟨#[]⟩, .slice none 0 0] 24))
  have Z4 := toHid J4.out.size
  clear q7 q8 q9 j4
  have Q7 := r7
  have Q8 := r8
  have Q9 := r9
  have Q10 := r10
  clear r7 r8 r9 r10 J3 Z3
  go_wp2_with fail
  clear x70 x71 x72 x73 l7 x80 x81 x82 x83 l8
  refine (Hh2.out _).mono ?_
  rintro e w5 ⟨rfl, b5⟩
  have j5 : Below w.heap.size w w5 := J4.out.trans (b5.mono Z4.out)
  have q7 := Q7.out.next b5
  have q8 := Q8.out.next b5
  have q9 := Q9.out.next b5
  have q10 := Q10.out.next b5
  clear b5 Q7 Q8 Q9 Q10
  have r7 := toHid (q7.alloc (.cells #[.int .i64 kp, .int .i64 np, .string ⟨#[]⟩, .slice none 0 0] 24))
  have r8 := toHid (q8.alloc (.cells #[.int .i64 kp, .int .i64 np, .string ⟨#[]⟩, .slice none 0 0] 24))
  have r9 := toHid (q9.alloc (.cells #[.int .i64 kp, .int .i64 np, .string ⟨#[]⟩, .slice none 0 0] 24))
  have r10 := toHid (q10.alloc (.cells #[.int .i64 kp, .int .i64 np, .string ⟨#[]⟩, .slice none 0 0] 24))
  have r12 := toHid (BoxAt.new w5 kp np)
  have J5 := toHid (j5.alloc j5.size (.cells #[.int .i64 kp, .int .i64 np, .string ⟨#[]⟩, .slice none 0 0] 24))
  have Z5 := toHid J5.out.size
  clear q7 q8 q9 q10 j5
  have Q7 := r7
  have Q8 := r8
  have Q9 := r9
  have Q10 := r10
  have Q12 := r12
  clear r7 r8 r9 r10 r12 J4 Z4
  go_wp2_with fail
  refine (Hhv.out _ J5.out).mono ?_
  rintro e w6 ⟨rfl, b6⟩
  have j6 : Below w.heap.size w w6 := J5.out.trans (b6.mono Z5.out)
  have q7 := Q7.out.next b6
  have q8 := Q8.out.next b6
  have q9 := Q9.out.next b6
  have q10 := Q10.out.next b6
  have q12 := Q12.out.next b6
  clear b6 Q7 Q8 Q9 Q10 Q12
  obtain ⟨x100, x101, x102, x103⟩ := q10.cells
  have l10 := q10.1
  obtain ⟨x120, x121, x122, x123⟩ := q12.cells
  have l12 := q12.1
  have r7 := toHid q7
  have r8 := toHid q8
  have r9 := toHid q9
  have r10 := toHid q10
  have r12 := toHid q12
  have J6 := toHid j6
  have Z6 := toHid j6.size
  clear q7 q8 q9 q10 q12 j6
  have Q7 := r7
  have Q8 := r8
  have Q9 := r9
  have Q10 := r10
  have Q12 := r12
  clear r7 r8 r9 r10 r12 J5 Z5
  go_wp2_with fail
  clear x100 x101 x102 x103 l10 x120 x121 x122 x123 l12
  refine (same_self _ _ _).mono ?_
  rintro e w7 ⟨rfl, b7⟩
  have j7 : Below w.heap.size w w7 := J6.out.trans (b7.mono Z6.out)
  have q7 := Q7.out.next b7
  have q8 := Q8.out.next b7
  have q9 := Q9.out.next b7
  have q10 := Q10.out.next b7
  have q12 := Q12.out.next b7
  clear b7 Q7 Q8 Q9 Q10 Q12
  obtain ⟨x100, x101, x102, x103⟩ := q10.cells
  have l10 := q10.1
  obtain ⟨x90, x91, x92, x93⟩ := q9.cells
  have l9 := q9.1
  have r7 := toHid q7
  have r8 := toHid q8
  have r9 := toHid q9
  have r10 := toHid q10
  have r12 := toHid q12
  have J7 := toHid j7
  have Z7 := toHid j7.size
  clear q7 q8 q9 q10 q12 j7
  have Q7 := r7
  have Q8 := r8
  have Q9 := r9
  have Q10 := r10
  have Q12 := r12
  clear r7 r8 r9 r10 r12 J6 Z6
  go_wp2_with fail
  clear x100 x101 x102 x103 l10 x90 x91 x92 x93 l9
  refine (Hh3.out _).mono ?_
  rintro e w8 ⟨rfl, b8⟩
  have j8 : Below w.heap.size w w8 := J7.out.trans (b8.mono Z7.out)
  have q7 := Q7.out.next b8
  have q8 := Q8.out.next b8
  have q9 := Q9.out.next b8
  have q10 := Q10.out.next b8
  have q12 := Q12.out.next b8
  clear b8 Q7 Q8 Q9 Q10 Q12
  obtain ⟨x70, x71, x72, x73⟩ := q7.cells
  have l7 := q7.1
  obtain ⟨x90, x91, x92, x93⟩ := q9.cells
  have l9 := q9.1
  have r7 := toHid (q7.alloc (.cells #[.int .i64 kl, .int .i64 nl, .string ⟨#[]⟩, .slice none 0 0] 24))
  have r8 := toHid (q8.alloc (.cells #[.int .i64 kl, .int .i64 nl, .string ⟨#[]⟩, .slice none 0 0] 24))
  have r9 := toHid (q9.alloc (.cells #[.int .i64 kl, .int .i64 nl, .string ⟨#[]⟩, .slice none 0 0] 24))
  have r10 := toHid (q10.alloc (.cells #[.int .i64 kl, .int .i64 nl, .string ⟨#[]⟩, .slice none 0 0] 24))
  have r12 := toHid (q12.alloc (.cells #[.int .i64 kl, .int .i64 nl, .string ⟨#[]⟩, .slice none 0 0] 24))
  have r14 := toHid (BoxAt.new w8 kl nl)
  have J8 := toHid (j8.alloc j8.size (.cells #[.int .i64 kl, .int .i64 nl, .string ⟨#[]⟩, .slice none 0 0] 24))
  have Z8 := toHid J8.out.size
  clear q7 q8 q9 q10 q12 j8
  have Q7 := r7
  have Q8 := r8
  have Q9 := r9
  have Q10 := r10
  have Q12 := r12
  have Q14 := r14
  clear r7 r8 r9 r10 r12 r14 J7 Z7
  go_wp2_with fail
  clear x70 x71 x72 x73 l7 x90 x91 x92 x93 l9
  refine (Hh4.out _).mono ?_
  rintro e w9 ⟨rfl, b9⟩
  have j9 : Below w.heap.size w w9 := J8.out.trans (b9.mono Z8.out)
  have q7 := Q7.out.next b9
  have q8 := Q8.out.next b9
  have q9 := Q9.out.next b9
  have q10 := Q10.out.next b9
  have q12 := Q12.out.next b9
  have q14 := Q14.out.next b9
  clear b9 Q7 Q8 Q9 Q10 Q12 Q14
  obtain ⟨x80, x81, x82, x83⟩ := q8.cells
  have l8 := q8.1
  obtain ⟨x90, x91, x92, x93⟩ := q9.cells
  have l9 := q9.1
  have r7 := toHid (q7.alloc (.cells #[.int .i64 km, .int .i64 nm, .string ⟨#[]⟩, .slice none 0 0] 24))
  have r8 := toHid (q8.alloc (.cells #[.int .i64 km, .int .i64 nm, .string ⟨#[]⟩, .slice none 0 0] 24))
  have r9 := toHid (q9.alloc (.cells #[.int .i64 km, .int .i64 nm, .string ⟨#[]⟩, .slice none 0 0] 24))
  have r10 := toHid (q10.alloc (.cells #[.int .i64 km, .int .i64 nm, .string ⟨#[]⟩, .slice none 0 0] 24))
  have r12 := toHid (q12.alloc (.cells #[.int .i64 km, .int .i64 nm, .string ⟨#[]⟩, .slice none 0 0] 24))
  have r14 := toHid (q14.alloc (.cells #[.int .i64 km, .int .i64 nm, .string ⟨#[]⟩, .slice none 0 0] 24))
  have r15 := toHid (BoxAt.new w9 km nm)
  have J9 := toHid (j9.alloc j9.size (.cells #[.int .i64 km, .int .i64 nm, .string ⟨#[]⟩, .slice none 0 0] 24))
  have Z9 := toHid J9.out.size
  clear q7 q8 q9 q10 q12 q14 j9
  have Q7 := r7
  have Q8 := r8
  have Q9 := r9
  have Q10 := r10
  have Q12 := r12
  have Q14 := r14
  have Q15 := r15
  clear r7 r8 r9 r10 r12 r14 r15 J8 Z8
  go_wp2_with fail
  clear x80 x81 x82 x83 l8 x90 x91 x92 x93 l9
  refine (Hh5.out _).mono ?_
  rintro e w10 ⟨rfl, b10⟩
  have j10 : Below w.heap.size w w10 := J9.out.trans (b10.mono Z9.out)
  have q7 := Q7.out.next b10
  have q8 := Q8.out.next b10
  have q9 := Q9.out.next b10
  have q10 := Q10.out.next b10
  have q12 := Q12.out.next b10
  have q14 := Q14.out.next b10
  have q15 := Q15.out.next b10
  clear b10 Q7 Q8 Q9 Q10 Q12 Q14 Q15
  obtain ⟨x150, x151, x152, x153⟩ := q15.cells
  have l15 := q15.1
  have r7 := toHid (q7.alloc (.cells #[.int .i64 kn, .int .i64 nn, .string ⟨#[]⟩, .slice none 0 0] 24))
  have r8 := toHid (q8.alloc (.cells #[.int .i64 kn, .int .i64 nn, .string ⟨#[]⟩, .slice none 0 0] 24))
  have r9 := toHid (q9.alloc (.cells #[.int .i64 kn, .int .i64 nn, .string ⟨#[]⟩, .slice none 0 0] 24))
  have r10 := toHid (q10.alloc (.cells #[.int .i64 kn, .int .i64 nn, .string ⟨#[]⟩, .slice none 0 0] 24))
  have r12 := toHid (q12.alloc (.cells #[.int .i64 kn, .int .i64 nn, .string ⟨#[]⟩, .slice none 0 0] 24))
  have r14 := toHid (q14.alloc (.cells #[.int .i64 kn, .int .i64 nn, .string ⟨#[]⟩, .slice none 0 0] 24))
  have r15 := toHid (q15.alloc (.cells #[.int .i64 kn, .int .i64 nn, .string ⟨#[]⟩, .slice none 0 0] 24))
  have r16 := toHid (BoxAt.new w10 kn nn)
  have J10 := toHid (j10.alloc j10.size (.cells #[.int .i64 kn, .int .i64 nn, .string ⟨#[]⟩, .slice none 0 0] 24))
  have Z10 := toHid J10.out.size
  clear q7 q8 q9 q10 q12 q14 q15 j10
  have Q7 := r7
  have Q8 := r8
  have Q9 := r9
  have Q10 := r10
  have Q12 := r12
  have Q14 := r14
  have Q15 := r15
  have Q16 := r16
  clear r7 r8 r9 r10 r12 r14 r15 r16 J9 Z9
  go_wp2_with fail
  clear x150 x151 x152 x153 l15
  refine (Hh6.out _).mono ?_
  rintro e w11 ⟨rfl, b11⟩
  have j11 : Below w.heap.size w w11 := J10.out.trans (b11.mono Z10.out)
  have q7 := Q7.out.next b11
  have q8 := Q8.out.next b11
  have q9 := Q9.out.next b11
  have q10 := Q10.out.next b11
  have q12 := Q12.out.next b11
  have q14 := Q14.out.next b11
  have q15 := Q15.out.next b11
  have q16 := Q16.out.next b11
  clear b11 Q7 Q8 Q9 Q10 Q12 Q14 Q15 Q16
  obtain ⟨x100, x101, x102, x103⟩ := q10.cells
  have l10 := q10.1
  obtain ⟨x160, x161, x162, x163⟩ := q16.cells
  have l16 := q16.1
  have r7 := toHid (q7.alloc (.cells #[.int .i64 kl, .int .i64 nl, .string ⟨#[]⟩, .slice none 0 0] 24))
  have r8 := toHid (q8.alloc (.cells #[.int .i64 kl, .int .i64 nl, .string ⟨#[]⟩, .slice none 0 0] 24))
  have r9 := toHid (q9.alloc (.cells #[.int .i64 kl, .int .i64 nl, .string ⟨#[]⟩, .slice none 0 0] 24))
  have r10 := toHid (q10.alloc (.cells #[.int .i64 kl, .int .i64 nl, .string ⟨#[]⟩, .slice none 0 0] 24))
  have r12 := toHid (q12.alloc (.cells #[.int .i64 kl, .int .i64 nl, .string ⟨#[]⟩, .slice none 0 0] 24))
  have r14 := toHid (q14.alloc (.cells #[.int .i64 kl, .int .i64 nl, .string ⟨#[]⟩, .slice none 0 0] 24))
  have r15 := toHid (q15.alloc (.cells #[.int .i64 kl, .int .i64 nl, .string ⟨#[]⟩, .slice none 0 0] 24))
  have r16 := toHid (q16.alloc (.cells #[.int .i64 kl, .int .i64 nl, .string ⟨#[]⟩, .slice none 0 0] 24))
  have r18 := toHid (BoxAt.new w11 kl nl)
  have J11 := toHid (j11.alloc j11.size (.cells #[.int .i64 kl, .int .i64 nl, .string ⟨#[]⟩, .slice none 0 0] 24))
  have Z11 := toHid J11.out.size
  clear q7 q8 q9 q10 q12 q14 q15 q16 j11
  have Q7 := r7
  have Q8 := r8
  have Q9 := r9
  have Q10 := r10
  have Q12 := r12
  have Q14 := r14
  have Q15 := r15
  have Q16 := r16
  have Q18 := r18
  clear r7 r8 r9 r10 r12 r14 r15 r16 r18 J10 Z10
  go_wp2_with fail
  clear x100 x101 x102 x103 l10 x160 x161 x162 x163 l16
  refine (Hh7.out _).mono ?_
  rintro e w12 ⟨rfl, b12⟩
  have j12 : Below w.heap.size w w12 := J11.out.trans (b12.mono Z11.out)
  have q7 := Q7.out.next b12
  have q8 := Q8.out.next b12
  have q9 := Q9.out.next b12
  have q10 := Q10.out.next b12
  have q12 := Q12.out.next b12
  have q14 := Q14.out.next b12
  have q15 := Q15.out.next b12
  have q16 := Q16.out.next b12
  have q18 := Q18.out.next b12
  clear b12 Q7 Q8 Q9 Q10 Q12 Q14 Q15 Q16 Q18
  obtain ⟨x140, x141, x142, x143⟩ := q14.cells
  have l14 := q14.1
  obtain ⟨x180, x181, x182, x183⟩ := q18.cells
  have l18 := q18.1
  have r7 := toHid (q7.alloc (.cells #[.int .i64 km, .int .i64 nm, .string ⟨#[]⟩, .slice none 0 0] 24))
  have r8 := toHid (q8.alloc (.cells #[.int .i64 km, .int .i64 nm, .string ⟨#[]⟩, .slice none 0 0] 24))
  have r9 := toHid (q9.alloc (.cells #[.int .i64 km, .int .i64 nm, .string ⟨#[]⟩, .slice none 0 0] 24))
  have r10 := toHid (q10.alloc (.cells #[.int .i64 km, .int .i64 nm, .string ⟨#[]⟩, .slice none 0 0] 24))
  have r12 := toHid (q12.alloc (.cells #[.int .i64 km, .int .i64 nm, .string ⟨#[]⟩, .slice none 0 0] 24))
  have r14 := toHid (q14.alloc (.cells #[.int .i64 km, .int .i64 nm, .string ⟨#[]⟩, .slice none 0 0] 24))
  have r15 := toHid (q15.alloc (.cells #[.int .i64 km, .int .i64 nm, .string ⟨#[]⟩, .slice none 0 0] 24))
  have r16 := toHid (q16.alloc (.cells #[.int .i64 km, .int .i64 nm, .string ⟨#[]⟩, .slice none 0 0] 24))
  have r18 := toHid (q18.alloc (.cells #[.int .i64 km, .int .i64 nm, .string ⟨#[]⟩, .slice none 0 0] 24))
  have r20 := toHid (BoxAt.new w12 km nm)
  have J12 := toHid (j12.alloc j12.size (.cells #[.int .i64 km, .int .i64 nm, .string ⟨#[]⟩, .slice none 0 0] 24))
  have Z12 := toHid J12.out.size
  clear q7 q8 q9 q10 q12 q14 q15 q16 q18 j12
  have Q7 := r7
  have Q8 := r8
  have Q9 := r9
  have Q10 := r10
  have Q12 := r12
  have Q14 := r14
  have Q15 := r15
  have Q16 := r16
  have Q18 := r18
  have Q20 := r20
  clear r7 r8 r9 r10 r12 r14 r15 r16 r18 r20 J11 Z11
  go_wp2_with fail
  clear x140 x141 x142 x143 l14 x180 x181 x182 x183 l18
  refine (same_self _ _ _).mono ?_
  rintro e w13 ⟨rfl, b13⟩
  have j13 : Below w.heap.size w w13 := J12.out.trans (b13.mono Z12.out)
  have q7 := Q7.out.next b13
  have q8 := Q8.out.next b13
  have q9 := Q9.out.next b13
  have q10 := Q10.out.next b13
  have q12 := Q12.out.next b13
  have q14 := Q14.out.next b13
  have q15 := Q15.out.next b13
  have q16 := Q16.out.next b13
  have q18 := Q18.out.next b13
  have q20 := Q20.out.next b13
  clear b13 Q7 Q8 Q9 Q10 Q12 Q14 Q15 Q16 Q18 Q20
  obtain ⟨x200, x201, x202, x203⟩ := q20.cells
  have l20 := q20.1
  obtain ⟨x150, x151, x152, x153⟩ := q15.cells
  have l15 := q15.1
  have r7 := toHid q7
  have r8 := toHid q8
  have r9 := toHid q9
  have r10 := toHid q10
  have r12 := toHid q12
  have r14 := toHid q14
  have r15 := toHid q15
  have r16 := toHid q16
  have r18 := toHid q18
  have r20 := toHid q20
  have J13 := toHid j13
  have Z13 := toHid j13.size
  clear q7 q8 q9 q10 q12 q14 q15 q16 q18 q20 j13
  have Q7 := r7
  have Q8 := r8
  have Q9 := r9
  have Q10 := r10
  have Q12 := r12
  have Q14 := r14
  have Q15 := r15
  have Q16 := r16
  have Q18 := r18
  have Q20 := r20
  clear r7 r8 r9 r10 r12 r14 r15 r16 r18 r20 J12 Z12
  go_wp2_with fail
  clear x200 x201 x202 x203 l20 x150 x151 x152 x153 l15
  refine (same_self _ _ _).mono ?_
  rintro e w14 ⟨rfl, b14⟩
  go_wp2_with fail
  go_ret
  exact ⟨rfl, J13.out.trans (b14.mono Z13.out)⟩

end Go.Proofs.YtkllapibpcgllaaDoor
