/-
  What is proved here: what value.Reckon answers of two values that are Ints or Null, by each sign; what was there is as it was.
-/
import Derived.Test.YtkllapibpcgllaaDoorInts
namespace Go.Proofs.YtkllapibpcgllaaDoor
open Go.RowKit
set_option linter.unusedVariables false

/-- A value that is an Int, or Null. -/
def iv (o : Option Int) : Value := .agg #[.int .i64 (kv o), .int .i64 (nv o), .string ⟨#[]⟩, .slice none 0 0]

set_option maxHeartbeats 4000000 in
set_option maxRecDepth 100000 in
theorem reckon_ints (sg : UInt8) (hs : sg = 43 ∨ sg = 45 ∨ sg = 42) (a b k n er : Int) (w : World)
    (h : ∀ W, Calls Tryd.prog 33 #[.string ⟨#[sg]⟩, .int .i64 a, .int .i64 b] W fun e w' => e = .returned (.tuple #[.agg #[.int .i64 k, .int .i64 n, .string ⟨#[]⟩, .slice none 0 0], .int .i64 er]) ∧ Below W.heap.size W w') :
    Calls Tryd.prog 21 #[.string ⟨#[sg]⟩, .agg #[.int .i64 2, .int .i64 a, .string ⟨#[]⟩, .slice none 0 0], .agg #[.int .i64 2, .int .i64 b, .string ⟨#[]⟩, .slice none 0 0]] w fun e w' => e = .returned (.tuple #[.agg #[.int .i64 k, .int .i64 n, .string ⟨#[]⟩, .slice none 0 0], .int .i64 er]) ∧ Below w.heap.size w w' := by
  have H := toHid h
  clear h
  have s3 : (((w.alloc (.cells #[.int .i64 2, .int .i64 a, .string ⟨#[]⟩, .slice none 0 0] 24)).alloc (.cells #[.int .i64 2, .int .i64 b, .string ⟨#[]⟩, .slice none 0 0] 24)).alloc (.cells #[.int .i64 0, .int .i64 0, .string ⟨#[]⟩, .slice none 0 0] 24)).heap.size = w.heap.size + 1 + 1 + 1 := by simp
  have b3 : Below w.heap.size w (((w.alloc (.cells #[.int .i64 2, .int .i64 a, .string ⟨#[]⟩, .slice none 0 0] 24)).alloc (.cells #[.int .i64 2, .int .i64 b, .string ⟨#[]⟩, .slice none 0 0] 24)).alloc (.cells #[.int .i64 0, .int .i64 0, .string ⟨#[]⟩, .slice none 0 0] 24)) := (((Below.refl _ _).alloc (Nat.le_refl _) _).alloc (by simp) _).alloc (by simp; omega) _
  have x3 : (((w.alloc (.cells #[.int .i64 2, .int .i64 a, .string ⟨#[]⟩, .slice none 0 0] 24)).alloc (.cells #[.int .i64 2, .int .i64 b, .string ⟨#[]⟩, .slice none 0 0] 24)).alloc (.cells #[.int .i64 0, .int .i64 0, .string ⟨#[]⟩, .slice none 0 0] 24)).heap[w.heap.size + 1 + 1]? = some (.cells #[.int .i64 0, .int .i64 0, .string ⟨#[]⟩, .slice none 0 0] 24 (0, 0)) := by
    have := alloc_two (w.alloc (.cells #[.int .i64 2, .int .i64 a, .string ⟨#[]⟩, .slice none 0 0] 24)) (.cells #[.int .i64 2, .int .i64 b, .string ⟨#[]⟩, .slice none 0 0] 24) (.cells #[.int .i64 0, .int .i64 0, .string ⟨#[]⟩, .slice none 0 0] 24)
    rw [show (w.alloc (.cells #[.int .i64 2, .int .i64 a, .string ⟨#[]⟩, .slice none 0 0] 24)).heap.size = w.heap.size + 1 from by simp] at this
    exact this
  have S3 := toHid s3
  have X3 := toHid x3
  clear s3 x3
  rcases hs with rfl | rfl | rfl
  all_goals
    go_enter Tryd.func21, Tryd.ntmps21
    go_wp2_with fail
    refine (H.out _).mono ?_
    rintro e w1 ⟨rfl, hb1⟩
    have hs1 := hb1.size
    rw [S3.out] at hs1
    have hb2 : Below (w.heap.size + 1 + 1 + 1) _ w1 := hb1.mono (by rw [S3.out]; exact Nat.le_refl _)
    have hbox : w1.heap[w.heap.size + 1 + 1]? = some (.cells #[.int .i64 0, .int .i64 0, .string ⟨#[]⟩, .slice none 0 0] 24 (0, 0)) := by rw [hb2.block _ (by omega)]; exact X3.out
    have hw1 : Below w.heap.size w w1 := b3.trans (hb2.mono (by omega))
    have x0 := cell_of hbox 0
    have x1 := cell_of hbox 1
    have x2 := cell_of hbox 2
    have x3 := cell_of hbox 3
    have y0 := free_of hbox 0
    have y1 := free_of hbox 1
    have y2 := free_of hbox 2
    have y3 := free_of hbox 3
    simp at x0 x1 x2 x3
    have HX := toHid hbox
    clear hbox hb1 hb2 b3
    go_wp2_with fail
    have z := put4_here HX.out (.int .i64 k) (.int .i64 n) (.string ⟨#[]⟩) (.slice none 0 0)
    have zb := put4_below w1 (w.heap.size + 1 + 1) (.int .i64 k) (.int .i64 n) (.string ⟨#[]⟩) (.slice none 0 0)
    have z0 := cell_of z 0
    have z1 := cell_of z 1
    have z2 := cell_of z 2
    have z3 := cell_of z 3
    have eP : (((w1.setCell ⟨w.heap.size + 1 + 1, 0, none⟩ (.int .i64 k)).setCell ⟨w.heap.size + 1 + 1, 1, none⟩ (.int .i64 n)).setCell ⟨w.heap.size + 1 + 1, 2, none⟩ (.string ⟨#[]⟩)).setCell ⟨w.heap.size + 1 + 1, 3, none⟩ (.slice none 0 0) = put4 w1 (w.heap.size + 1 + 1) (.int .i64 k) (.int .i64 n) (.string ⟨#[]⟩) (.slice none 0 0) := rfl
    rw [eP]
    clear eP
    generalize put4 w1 (w.heap.size + 1 + 1) (.int .i64 k) (.int .i64 n) (.string ⟨#[]⟩) (.slice none 0 0) = W9 at z zb z0 z1 z2 z3 ⊢
    simp at z0 z1 z2 z3
    exact bodyPost_ret (v := .tuple #[.agg #[.int .i64 k, .int .i64 n, .string ⟨#[]⟩, .slice none 0 0], .int .i64 er]) (by simp [results, Tryd.results21, go_sem, z0, z1, z2, z3]) rfl ⟨rfl, hw1.trans (zb.mono (by omega))⟩

set_option maxHeartbeats 4000000 in
set_option maxRecDepth 100000 in
theorem reckon_null (sg : UInt8) (hs : sg = 43 ∨ sg = 45 ∨ sg = 42) (k n k' n' : Int) (h : k = 0 ∨ k ≠ 0 ∧ k' = 0) (w : World) :
    Calls Tryd.prog 21 #[.string ⟨#[sg]⟩, .agg #[.int .i64 k, .int .i64 n, .string ⟨#[]⟩, .slice none 0 0], .agg #[.int .i64 k', .int .i64 n', .string ⟨#[]⟩, .slice none 0 0]] w fun e w' => e = .returned (.tuple #[.agg #[.int .i64 0, .int .i64 0, .string ⟨#[]⟩, .slice none 0 0], .int .i64 0]) ∧ Below w.heap.size w w' := by
  have b3 : ∀ o1 o2 o3, Below w.heap.size w (((w.alloc o1).alloc o2).alloc o3) := fun o1 o2 o3 => (((Below.refl _ _).alloc (Nat.le_refl _) _).alloc (by simp) _).alloc (by simp; omega) _
  rcases h with rfl | ⟨hk, rfl⟩
  · rcases hs with rfl | rfl | rfl
    all_goals
      go_enter Tryd.func21, Tryd.ntmps21
      go_wp2_with fail
      exact bodyPost_ret (v := .tuple #[.agg #[.int .i64 0, .int .i64 0, .string ⟨#[]⟩, .slice none 0 0], .int .i64 0]) (by simp [results, Tryd.results21, go_sem]) rfl ⟨rfl, b3 _ _ _⟩
  · have hk' : (k == 0) = false := by simpa using hk
    clear hk
    rcases hs with rfl | rfl | rfl
    all_goals
      go_enter Tryd.func21, Tryd.ntmps21
      go_wp2_with fail
      exact bodyPost_ret (v := .tuple #[.agg #[.int .i64 0, .int .i64 0, .string ⟨#[]⟩, .slice none 0 0], .int .i64 0]) (by simp [results, Tryd.results21, go_sem]) rfl ⟨rfl, b3 _ _ _⟩

/-- What a sign makes of two numbers. -/
def made (sg : UInt8) (x y : Int) : Int := if sg = 43 then x + y else if sg = 45 then x - y else x * y

/-- What it makes of two values that are Ints or Null: the value, and the error. -/
def rkV (sg : UInt8) : Option Int → Option Int → Option Int
  | some x, some y => held (made sg x y)
  | _, _ => none
def rkE (sg : UInt8) : Option Int → Option Int → Int
  | some x, some y => errOf (made sg x y)
  | _, _ => 0

/-- The number fits, if there is one. -/
def okV (o : Option Int) : Prop := ∀ x, o = some x → fits x = true

theorem okV_rk (sg : UInt8) (o p : Option Int) : okV (rkV sg o p) := by
  intro x hx
  cases o with
  | none => simp [rkV] at hx
  | some a =>
    cases p with
    | none => simp [rkV] at hx
    | some b =>
      simp only [rkV, held] at hx
      split at hx
      · simp only [Option.some.injEq] at hx
        rw [← hx]
        assumption
      · simp at hx

theorem reckon_iv (sg : UInt8) (hs : sg = 43 ∨ sg = 45 ∨ sg = 42) (o p : Option Int) (ho : okV o) (hp : okV p) (w : World) :
    Calls Tryd.prog 21 #[.string ⟨#[sg]⟩, .agg #[.int .i64 (kv o), .int .i64 (nv o), .string ⟨#[]⟩, .slice none 0 0], .agg #[.int .i64 (kv p), .int .i64 (nv p), .string ⟨#[]⟩, .slice none 0 0]] w fun e w' => e = .returned (.tuple #[.agg #[.int .i64 (kv (rkV sg o p)), .int .i64 (nv (rkV sg o p)), .string ⟨#[]⟩, .slice none 0 0], .int .i64 (rkE sg o p)]) ∧ Below w.heap.size w w' := by
  cases o with
  | none => exact reckon_null sg hs 0 0 (kv p) (nv p) (.inl rfl) w
  | some a =>
    cases p with
    | none => exact reckon_null sg hs 2 a 0 0 (.inr ⟨by decide, rfl⟩) w
    | some b =>
      have ha := ho a rfl
      have hb := hp b rfl
      refine reckon_ints sg hs a b _ _ _ w fun W => ?_
      rcases hs with rfl | rfl | rfl
      · exact ints_add a b ha hb W
      · exact ints_sub a b ha hb W
      · exact ints_mul a b ha hb W
end Go.Proofs.YtkllapibpcgllaaDoor
