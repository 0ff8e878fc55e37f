/-
  What is proved here: the law ValueReckon answers true of every sign and every two values that lie in memory as trees that are not too great, wherever the tables that Go's library reads lie as they were laid; what was there is as it was.
-/
import Derived.Test.YtekkifljcppmlaaGreatDoorVLawR0
import Derived.Test.YtekkifljcppmlaaGreatDoorVReck
import Derived.Test.YtekkifljcppmlaaGreatDoorBgRk2
import Derived.Test.YtekkifljcppmlaaGreatDoorBgRk4
import Derived.Test.YtekkifljcppmlaaGreatDoorBgRk5
import Derived.Test.YtekkifljcppmlaaGreatDoorBgRk6
import Derived.Test.YtekkifljcppmlaaGreatDoorBgRk7
namespace Go.Proofs.YtekkifljcppmlaaGreatDoor
open Go.RowKit
set_option linter.unusedVariables false

theorem ans_bare {f : FuncId} {args : Array Value} {W : World} {k n : Int} {s : ByteArray} {er : Int} (h : Calls Tryz.prog f args W fun e w' => e = .returned (.tuple #[.agg #[.int .i64 k, .int .i64 n, .string s, .slice none 0 0], .int .i64 er]) ∧ Below W.heap.size W w') : Calls Tryz.prog f args W fun e w' => AnsV w' k n s [] er e ∧ Below W.heap.size W w' :=
  h.mono fun e w' ⟨he, hb⟩ => ⟨⟨none, 0, 0, he, Nat.le_refl _, by unfold LiesS; rfl⟩, hb⟩

theorem int_ans {z : Int} {e : Ending} (h : (-9223372036854775808 ≤ z ∧ z ≤ 9223372036854775807 → e = .returned (.tuple #[.agg #[.int .i64 2, .int .i64 z, .string ⟨#[]⟩, .slice none 0 0], .int .i64 0])) ∧ (¬ (-9223372036854775808 ≤ z ∧ z ≤ 9223372036854775807) → e = .returned (.tuple #[.agg #[.int .i64 0, .int .i64 0, .string ⟨#[]⟩, .slice none 0 0], .int .i64 4]))) : e = .returned (.tuple #[.agg #[.int .i64 (kv (held z)), .int .i64 (nv (held z)), .string ⟨#[]⟩, .slice none 0 0], .int .i64 (errOf z)]) := by
  by_cases hz : -9223372036854775808 ≤ z ∧ z ≤ 9223372036854775807
  · have hf : fits z = true := (fits_iff z).2 hz
    rw [h.1 hz]
    simp [held, errOf, kv, nv, hf]
  · have hf : fits z = false := by
      cases hh : fits z with
      | false => rfl
      | true => exact absurd ((fits_iff z).1 hh) hz
    rw [h.2 hz]
    simp [held, errOf, kv, nv, hf]

theorem sign_of {sg : ByteArray} {x : UInt8} (h : sg.toList = [x]) : sg = ⟨#[x]⟩ := by
  have h1 : sg.data.toList = [x] := by rw [← h, ByteArray.toList_eq]
  obtain ⟨d⟩ := sg
  have h2 : d = #[x] := Array.toList_inj.1 h1
  rw [h2]

theorem not_sign {sg : ByteArray} {x : UInt8} (h : ¬ sg.toList = [x]) : (sg.toList == [x]) = false := by simpa using h

theorem law_reckon (B : Nat) (sg : ByteArray) (k n : Int) (s : ByteArray) (a : Option Addr) (l c : Nat) (k' n' : Int) (s' : ByteArray) (a' : Option Addr) (l' c' : Nat) (L L' : List T) (w : World) (hB : B ≤ w.heap.size) (hT : Tabs B w) (hP : Pow10 B w) (hL : LiesS w L a l) (hL' : LiesS w L' a' l') (hn : -9223372036854775808 ≤ n ∧ n ≤ 9223372036854775807) (hn' : -9223372036854775808 ≤ n' ∧ n' ≤ 9223372036854775807) (hss : s.size + s'.size ≤ 9223372036854775807) (hw : wtL L + wtL L' ≤ 1099511627776) :
    Calls Tryz.prog 3 #[.string sg, .agg #[.int .i64 k, .int .i64 n, .string s, .slice a l c], .agg #[.int .i64 k', .int .i64 n', .string s', .slice a' l' c']] w fun e w' => e = .returned (.bool true) ∧ Below w.heap.size w w' := by
  have h1 : wtL [] ≤ 1099511627776 := by unfold wtL; omega
  have hf := (fits_iff n).2 hn
  have hf' := (fits_iff n').2 hn'
  have hll : l + l' ≤ 9223372036854775807 := by
    have := hL.length.1
    have := hL'.length.1
    have := wt_len L
    have := wt_len L'
    omega
  by_cases h43 : sg.toList = [43]
  · obtain rfl := sign_of h43
    by_cases h0 : k = 0 ∨ k' = 0
    · exact law_reckon_of B _ k n s a l c k' n' s' a' l' c' 0 0 ⟨#[]⟩ [] 0 w hB hT hP h1 (fun W kW => ans_bare (reckon_null_add k k' n n' s s' a a' l c l' c' W h0)) (fun W kW => ans_bare (reckonOf_null_add k k' n n' s s' a a' l c l' c' W h0))
    · by_cases h2 : k = 2 ∧ k' = 2
      · obtain ⟨rfl, rfl⟩ := h2
        exact law_reckon_of B _ 2 n s a l c 2 n' s' a' l' c' (kv (held (n + n'))) (nv (held (n + n'))) ⟨#[]⟩ [] (errOf (n + n')) w hB hT hP h1 (fun W kW => ans_bare (reckon_int_add _ _ _ n n' s s' a a' l c l' c' W (fun U => ints_add n n' hf hf' U))) (fun W kW => ans_bare ((reckonOf_add n n' s s' a a' l c l' c' W hn hn').mono fun e w' h => ⟨int_ans h.1, h.2⟩))
      · by_cases h3 : k = 3 ∧ k' = 3
        · obtain ⟨rfl, rfl⟩ := h3
          by_cases hs : s.size + s'.size ≤ 4000
          · exact law_reckon_of B _ 3 n s a l c 3 n' s' a' l' c' 3 0 (s ++ s') [] 0 w hB hT hP h1 (fun W kW => ans_bare (reckon_text n n' s s' a a' l c l' c' W hs)) (fun W kW => ans_bare (reckonOf_text n n' s s' a a' l c l' c' W hs))
          · exact law_reckon_of B _ 3 n s a l c 3 n' s' a' l' c' 0 0 ⟨#[]⟩ [] 2 w hB hT hP h1 (fun W kW => ans_bare (reckon_long n n' s s' a a' l c l' c' W (by omega) hss)) (fun W kW => ans_bare (reckonOf_long n n' s s' a a' l c l' c' W (by omega) hss))
        · by_cases h4 : k = 4 ∧ k' = 4
          · obtain ⟨rfl, rfl⟩ := h4
            by_cases hs : l + l' ≤ 30
            · exact law_reckon_of B _ 4 n s a l c 4 n' s' a' l' c' 4 0 ⟨#[]⟩ (L ++ L') 0 w hB hT hP (by have := wt_both L L'; omega) (fun W kW => reckon_lists n n' s s' a a' l c l' c' L L' W (hL.below kW) (hL'.below kW) hs hw) (fun W kW => reckonOf_lists n n' s s' a a' l c l' c' L L' W (hL.below kW) (hL'.below kW) hs)
            · exact law_reckon_of B _ 4 n s a l c 4 n' s' a' l' c' 0 0 ⟨#[]⟩ [] 2 w hB hT hP h1 (fun W kW => ans_bare (reckon_many n n' s s' a a' l c l' c' W (by omega) hll)) (fun W kW => ans_bare (reckonOf_many n n' s s' a a' l c l' c' W (by omega) hll))
          · have hk : k ≠ k' ∨ (k ≠ 3 ∧ k ≠ 4) := by omega
            exact law_reckon_of B _ k n s a l c k' n' s' a' l' c' 0 0 ⟨#[]⟩ [] 3 w hB hT hP h1 (fun W kW => ans_bare (reckon_kind_add k k' n n' s s' a a' l c l' c' W (by omega) (by omega) h2 hk)) (fun W kW => ans_bare (reckonOf_kind_add k k' n n' s s' a a' l c l' c' W (by omega) (by omega) h2 hk))
  · by_cases h45 : sg.toList = [45]
    · obtain rfl := sign_of h45
      by_cases h0 : k = 0 ∨ k' = 0
      · exact law_reckon_of B _ k n s a l c k' n' s' a' l' c' 0 0 ⟨#[]⟩ [] 0 w hB hT hP h1 (fun W kW => ans_bare (reckon_null_sub k k' n n' s s' a a' l c l' c' W h0)) (fun W kW => ans_bare (reckonOf_null_sub k k' n n' s s' a a' l c l' c' W h0))
      · by_cases h2 : k = 2 ∧ k' = 2
        · obtain ⟨rfl, rfl⟩ := h2
          exact law_reckon_of B _ 2 n s a l c 2 n' s' a' l' c' (kv (held (n - n'))) (nv (held (n - n'))) ⟨#[]⟩ [] (errOf (n - n')) w hB hT hP h1 (fun W kW => ans_bare (reckon_int_sub _ _ _ n n' s s' a a' l c l' c' W (fun U => ints_sub n n' hf hf' U))) (fun W kW => ans_bare ((reckonOf_sub n n' s s' a a' l c l' c' W hn hn').mono fun e w' h => ⟨int_ans h.1, h.2⟩))
        · exact law_reckon_of B _ k n s a l c k' n' s' a' l' c' 0 0 ⟨#[]⟩ [] 3 w hB hT hP h1 (fun W kW => ans_bare (reckon_kind_sub k k' n n' s s' a a' l c l' c' W (by omega) (by omega) h2)) (fun W kW => ans_bare (reckonOf_kind_sub k k' n n' s s' a a' l c l' c' W (by omega) (by omega) h2))
    · by_cases h42 : sg.toList = [42]
      · obtain rfl := sign_of h42
        by_cases h0 : k = 0 ∨ k' = 0
        · exact law_reckon_of B _ k n s a l c k' n' s' a' l' c' 0 0 ⟨#[]⟩ [] 0 w hB hT hP h1 (fun W kW => ans_bare (reckon_null_mul k k' n n' s s' a a' l c l' c' W h0)) (fun W kW => ans_bare (reckonOf_null_mul k k' n n' s s' a a' l c l' c' W h0))
        · by_cases h2 : k = 2 ∧ k' = 2
          · obtain ⟨rfl, rfl⟩ := h2
            exact law_reckon_of B _ 2 n s a l c 2 n' s' a' l' c' (kv (held (n * n'))) (nv (held (n * n'))) ⟨#[]⟩ [] (errOf (n * n')) w hB hT hP h1 (fun W kW => ans_bare (reckon_int_mul _ _ _ n n' s s' a a' l c l' c' W (fun U => ints_mul n n' hf hf' U))) (fun W kW => ans_bare ((reckonOf_mul n n' s s' a a' l c l' c' W hn hn').mono fun e w' h => ⟨int_ans h.1, h.2⟩))
          · exact law_reckon_of B _ k n s a l c k' n' s' a' l' c' 0 0 ⟨#[]⟩ [] 3 w hB hT hP h1 (fun W kW => ans_bare (reckon_kind_mul k k' n n' s s' a a' l c l' c' W (by omega) (by omega) h2)) (fun W kW => ans_bare (reckonOf_kind_mul k k' n n' s s' a a' l c l' c' W (by omega) (by omega) h2))
      · exact law_reckon_of B sg k n s a l c k' n' s' a' l' c' 0 0 ⟨#[]⟩ [] 5 w hB hT hP h1 (fun W kW => ans_bare (reckon_who sg k k' n n' s s' a a' l c l' c' W (not_sign h43) (not_sign h45) (not_sign h42))) (fun W kW => ans_bare (reckonOf_who sg k k' n n' s s' a a' l c l' c' W (not_sign h43) (not_sign h45) (not_sign h42)))
end Go.Proofs.YtekkifljcppmlaaGreatDoor
