/-
  What is proved here: what espalierref.PrintOf answers of any value that the checks take: how it is printed (prT).
-/
import Derived.Test.YtonjeaoagpelmaaGreatDoorZDo
import Derived.Test.YtonjeaoagpelmaaGreatDoorZJoin
import Derived.Test.YtonjeaoagpelmaaGreatDoorWPAll3
import Derived.Deep.RegionHeld3
namespace Go.Proofs.YtonjeaoagpelmaaGreatDoor
open Go.RowKit
set_option linter.unusedVariables false

theorem pieces_tail (x : List UInt8) (L : List (List UInt8)) : ∀ k, k ≤ L.length → pieces (fun i => (x :: L).getD i []) (k + 1) = x ++ tailJ (L.take k)
  | 0, _ => by simp [pieces, tailJ]
  | k + 1, hk => by
    have ih := pieces_tail x L k (by omega)
    obtain ⟨u, hu⟩ : ∃ u, L[k]? = some u := ⟨_, List.getElem?_eq_getElem (by omega)⟩
    rw [show pieces (fun i => (x :: L).getD i []) (k + 1 + 1) = pieces (fun i => (x :: L).getD i []) (k + 1) ++ [44] ++ (x :: L).getD (k + 1) [] from rfl, ih, tailJ_take L k u hu]
    simp [List.getD, hu]

theorem joinP_Z (L : List (List UInt8)) : joinP L = joinZ L := by
  cases L with
  | nil => rfl
  | cons x L =>
    have := pieces_tail x L L.length (Nat.le_refl _)
    unfold joinP
    rw [List.length_cons, this, List.take_length]
    rfl

set_option maxHeartbeats 2000000 in
set_option maxRecDepth 100000 in
theorem formatInt_any (B : Nat) (n : Int) (w : World) (hB : B ≤ w.heap.size) (h0 : -9223372036854775808 ≤ n) (h1 : n ≤ 9223372036854775807) (hP : Pow10 B w) :
    Calls Tryz.prog 16 #[.int .i64 n, .int .i64 10] w fun e w' => e = .returned (.string ⟨(Lib.itoa n).toArray⟩) ∧ Below w.heap.size w w' := by
  have HC := toHid (Tryz.internal_strconv_FormatInt_10 n h0 h1 w (hP w (Below.refl _ _)))
  go_enter Tryz.func16, Tryz.ntmps16
  go_wp2_with fail
  refine HC.out.mono ?_
  rintro e w1 ⟨rfl, k, os, hw⟩
  have hb : Below w.heap.size w w1 := by rw [hw]; exact Lib.below_grow _ _ (Nat.le_refl _) _ _
  clear hw
  go_wp2_with fail
  go_ret
  exact ⟨rfl, hb⟩

theorem add_str (x y : List UInt8) (h : x.length + y.length ≤ 4611686018427387904) (w : World) : (binOp .add 9 (.string ⟨x.toArray⟩) (.string ⟨y.toArray⟩)).run Tryz.prog w = .ok (.string ⟨(x ++ y).toArray⟩) w := by
  have hz : ∀ z : List UInt8, (⟨z.toArray⟩ : ByteArray).size = z.length := fun z => by simp [ByteArray.size]
  have hn : ¬ (((⟨x.toArray⟩ : ByteArray).size + (⟨y.toArray⟩ : ByteArray).size : Nat) : Int) > IntKind.i64.max := by
    rw [hz, hz]
    have : IntKind.i64.max = 9223372036854775807 := by rfl
    omega
  have e : (⟨x.toArray⟩ : ByteArray) ++ ⟨y.toArray⟩ = ⟨(x ++ y).toArray⟩ := by
    apply ByteArray.ext
    simp
  show (Op.stringOp .add ⟨x.toArray⟩ ⟨y.toArray⟩).run Tryz.prog w = _
  unfold Op.stringOp
  simp only [hn, if_false, e]
  rfl

set_option maxHeartbeats 2000000 in
set_option maxRecDepth 100000 in
theorem pr_null (n : Int) (s : ByteArray) (a : Option Addr) (l c : Nat) (w : World) :
    Calls Tryz.prog 7 #[.agg #[.int .i64 0, .int .i64 n, .string s, .slice a l c]] w fun e w' => e = .returned (.string ⟨#[110, 117, 108, 108]⟩) ∧ Below w.heap.size w w' := by
  go_enter Tryz.func7, Tryz.ntmps7
  go_wp2_with fail
  go_ret
  exact ⟨rfl, (Below.refl _ _).alloc (Nat.le_refl _) _⟩

set_option maxHeartbeats 2000000 in
set_option maxRecDepth 100000 in
theorem pr_bool (n : Int) (hn : n = 0 ∨ n = 1) (s : ByteArray) (a : Option Addr) (l c : Nat) (w : World) :
    Calls Tryz.prog 7 #[.agg #[.int .i64 1, .int .i64 n, .string s, .slice a l c]] w fun e w' => e = .returned (.string ⟨(boolB (n == 1)).toArray⟩) ∧ Below w.heap.size w w' := by
  rcases hn with rfl | rfl
  all_goals
    go_enter Tryz.func7, Tryz.ntmps7
    go_wp2_with fail
    go_ret
    exact ⟨rfl, ((Below.refl _ _).alloc (Nat.le_refl _) _).alloc (by simp) _⟩

set_option maxHeartbeats 2000000 in
set_option maxRecDepth 100000 in
theorem pr_int (B : Nat) (n : Int) (s : ByteArray) (a : Option Addr) (l c : Nat) (w : World) (hB : B ≤ w.heap.size) (h0 : -9223372036854775808 ≤ n) (h1 : n ≤ 9223372036854775807) (hP : Pow10 B w) :
    Calls Tryz.prog 7 #[.agg #[.int .i64 2, .int .i64 n, .string s, .slice a l c]] w fun e w' => e = .returned (.string ⟨(Lib.itoa n).toArray⟩) ∧ Below w.heap.size w w' := by
  have b0 : Below w.heap.size w (w.alloc (.cells #[.int .i64 2, .int .i64 n, .string s, .slice a l c] 24)) := (Below.refl _ _).alloc (Nat.le_refl _) _
  have HC := toHid (formatInt_any B n (w.alloc (.cells #[.int .i64 2, .int .i64 n, .string s, .slice a l c] 24)) (by simp; omega) h0 h1 (hP.below (b0.mono hB)))
  clear hP
  go_enter Tryz.func7, Tryz.ntmps7
  go_wp2_with fail
  refine HC.out.mono ?_
  rintro e w1 ⟨rfl, k1⟩
  have hb := below2 b0 k1
  clear k1
  go_wp2_with fail
  go_ret
  exact ⟨rfl, hb⟩
set_option maxHeartbeats 4000000 in
set_option maxRecDepth 100000 in
theorem pr_text (n : Int) (s : ByteArray) (a : Option Addr) (l c : Nat) (w : World) (hs : s.size ≤ 4000) :
    Calls Tryz.prog 7 #[.agg #[.int .i64 3, .int .i64 n, .string s, .slice a l c]] w fun e w' => e = .returned (.string ⟨([39] ++ escape s.data.toList ++ [39]).toArray⟩) ∧ Below w.heap.size w w' := by
  have b0 : Below w.heap.size w (w.alloc (.cells #[.int .i64 3, .int .i64 n, .string s, .slice a l c] 24)) := (Below.refl _ _).alloc (Nat.le_refl _) _
  have hx := alloc_new w (.cells #[.int .i64 3, .int .i64 n, .string s, .slice a l c] 24)
  have HB := toHid b0
  have HX := toHid hx
  have hz0 : (w.alloc (.cells #[.int .i64 3, .int .i64 n, .string s, .slice a l c] 24)).heap.size = w.heap.size + 1 := by simp
  have HZ0 := toHid hz0
  clear b0 hx hz0
  go_enter Tryz.func7, Tryz.ntmps7
  go_upto_region 7 with fail
  generalize w.alloc (.cells #[.int .i64 3, .int .i64 n, .string s, .slice a l c] 24) = W at HB HX HZ0 ⊢
  have c2 : W.cell? ⟨w.heap.size, 2, none⟩ = some (.string s) := (cell_of HX.out 2).trans rfl
  have hgl : w.heap.size < W.heap.size := by rw [HZ0.out]; omega
  have HS : Hid (∀ W' : World, Below W.heap.size W W' → W'.cell? ⟨w.heap.size, 2, none⟩ = some (.string s)) := fun W' kk => (kk.cell (p := ⟨w.heap.size, 2, none⟩) hgl).trans ((cell_of HX.out 2).trans rfl)
  have D0 : Below W.heap.size W W.drew := (Below.refl _ _).drew
  have k0 : Below W.heap.size W (W.drew.alloc (.cells #[.string ⟨#[92]⟩, .string ⟨#[92, 92]⟩, .string ⟨#[39]⟩, .string ⟨#[92, 39]⟩, .string ⟨#[10]⟩, .string ⟨#[92, 110]⟩] 9)) := D0.alloc (Nat.le_refl _) _
  have HN6 : Hid (Calls Tryz.prog 17 #[.slice (some ⟨W.heap.size, 0, none⟩) 6 6] (W.drew.alloc (.cells #[.string ⟨#[92]⟩, .string ⟨#[92, 92]⟩, .string ⟨#[39]⟩, .string ⟨#[92, 39]⟩, .string ⟨#[10]⟩, .string ⟨#[92, 110]⟩] 9)) fun e w' => ∃ b r cc, e = .returned (.pointer (some ⟨b, 0, none⟩)) ∧ w'.heap[b]? = some (.cells #[.int .u32 0, .int .i32 0, .int .u32 0, .nilIface, .slice (some ⟨r, 0, none⟩) 6 cc] 74 (0, 0)) ∧ SixAt w' r ∧ r < w'.heap.size ∧ W.heap.size ≤ b ∧ r ≠ b ∧ Below W.heap.size W w') := by
    have hn := alloc_new W.drew (.cells #[.string ⟨#[92]⟩, .string ⟨#[92, 92]⟩, .string ⟨#[39]⟩, .string ⟨#[92, 39]⟩, .string ⟨#[10]⟩, .string ⟨#[92, 110]⟩] 9)
    refine (new_six W.heap.size (W.drew.alloc (.cells #[.string ⟨#[92]⟩, .string ⟨#[92, 92]⟩, .string ⟨#[39]⟩, .string ⟨#[92, 39]⟩, .string ⟨#[10]⟩, .string ⟨#[92, 110]⟩] 9)) (by simp) ⟨(cell_of hn 0).trans rfl, (cell_of hn 1).trans rfl, (cell_of hn 2).trans rfl, (cell_of hn 3).trans rfl, (cell_of hn 4).trans rfl, (cell_of hn 5).trans rfl⟩).mono ?_
    rintro e w' ⟨b, r, cc, h1, h2, h3, h4, h5, _, h6, h7⟩
    have hz : W.heap.size ≤ (W.drew.alloc (.cells #[.string ⟨#[92]⟩, .string ⟨#[92, 92]⟩, .string ⟨#[39]⟩, .string ⟨#[92, 39]⟩, .string ⟨#[10]⟩, .string ⟨#[92, 110]⟩] 9)).heap.size := k0.size
    exact ⟨b, r, cc, h1, h2, h3, h4, Nat.le_trans hz h5, h6, k0.trans (h7.mono hz)⟩
  obtain ⟨S0, hS0⟩ : ∃ S : ByteArray, S = ⟨(escape s.data.toList).toArray⟩ := ⟨_, rfl⟩
  have hEl : (escape s.data.toList).length ≤ 8000 := by have := escape_len s.data.toList; simp at this; omega
  have hz : S0.size ≤ 8000 := by rw [hS0]; simpa [ByteArray.size] using hEl
  have a1 : ¬ 9223372036854775807 < 1 + S0.size := by omega
  have a2 : ¬ 9223372036854775807 < 1 + S0.size + 1 := by omega
  have a3 : ({ data := #[39] } : ByteArray).size = 1 := rfl
  have HRF : Hid (∀ b r cc (u1 : World), W.heap.size ≤ b → u1.heap[b]? = some (.cells #[.int .u32 0, .int .i32 0, .int .u32 0, .nilIface, .slice (some ⟨r, 0, none⟩) 6 cc] 74 (0, 0)) → r < u1.heap.size → r ≠ b → SixAt u1 r → Calls Tryz.prog 18 #[.pointer (some ⟨b, 0, none⟩), .string s] u1 fun e w' => e = .returned (.string S0) ∧ Below W.heap.size u1 w') := fun b r cc u1 g4 g1 g3 g5 g2 => by rw [hS0]; exact replace_first W.heap.size b r cc s u1 g4 g1 g3 g5 g2 hs
  have HS0 := toHid hS0
  clear hS0 hEl hz
  go_region_held3 (fun W' => W'.cell? ⟨w.heap.size, 2, none⟩ = some (.string s))
    (first
      | with_reducible exact HS.out _ k2
      | with_reducible exact HS.out _ k1
      | with_reducible exact HS.out _ k0
      | with_reducible exact HS.out _ D0
      | exact c2
      | go_keep)
    (first
      | (go_at_call 17; go_fit HN6.out; rintro e u1 ⟨b, r, cc, rfl, g1, g2, g3, g4, g5, k1⟩)
      | (go_at_call 18; go_fit (HRF.out b r cc u1 g4 g1 g3 g5 g2); rintro e u2 ⟨rfl, h2⟩; have k2 : Below W.heap.size W u2 := k1.trans h2))
  all_goals
    go_wp2_with fail
    go_ret
    refine ⟨?_, HB.out.trans (k2.mono (by rw [HZ0.out]; omega))⟩
    show Ending.returned (.string (⟨#[39]⟩ ++ S0 ++ ⟨#[39]⟩)) = _
    rw [HS0.out]
    refine congrArg (fun z => Ending.returned (.string z)) (ByteArray.ext ?_)
    simp
end Go.Proofs.YtonjeaoagpelmaaGreatDoor
