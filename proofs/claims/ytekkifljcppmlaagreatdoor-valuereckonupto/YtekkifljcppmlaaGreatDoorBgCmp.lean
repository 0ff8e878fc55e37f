/-
  What is proved here: what espalierbig.cmp answers of two numbers without noughts at their ends: their order.
-/
import Derived.Test.YtekkifljcppmlaaGreatDoorBgSub
import Derived.Deep.QuietTactic
import Derived.BigQuiet
namespace Go.Proofs.YtekkifljcppmlaaGreatDoor
open Go.RowKit
set_option linter.unusedVariables false

/-- The order of two numbers. -/
def cmpV (x y : Nat) : Int := if x < y then -1 else if y < x then 1 else 0

theorem cmpV_lt {x y : Nat} (h : x < y) : cmpV x y = -1 := by rw [cmpV, if_pos h]
theorem cmpV_gt {x y : Nat} (h : y < x) : cmpV x y = 1 := by rw [cmpV, if_neg (by omega), if_pos h]
theorem cmpV_eq {x y : Nat} (h : x = y) : cmpV x y = 0 := by rw [cmpV, if_neg (by omega), if_neg (by omega)]

theorem vW_split {ws : List Nat} {i x : Nat} (h : ws[i]? = some x) : vW ws = vW (ws.take i) + 4294967296 ^ i * x + 4294967296 ^ (i + 1) * vW (ws.drop (i + 1)) := by
  have hi := (List.getElem?_eq_some_iff.1 h).1
  have h1 : vW ws = vW (ws.take (i + 1) ++ ws.drop (i + 1)) := by rw [List.take_append_drop]
  rw [h1, vW_append, vW_take h, List.length_take, Nat.min_eq_left (by omega)]

theorem words_take {ws : List Nat} (h : Words ws) (i : Nat) : Words (ws.take i) := fun x hx => h x (List.mem_of_mem_take hx)

/-- Fewer words: the lesser. -/
theorem vW_short {xs ys : List Nat} (hx : Words xs) (hy : Trimmed ys) (h : xs.length < ys.length) : vW xs < vW ys := by
  obtain ⟨m, hm⟩ : ∃ m, ys.length = m + 1 := ⟨ys.length - 1, by omega⟩
  obtain ⟨y, hyy⟩ : ∃ y, ys[m]? = some y := ⟨ys[m]'(by omega), List.getElem?_eq_getElem _⟩
  have h0 := hy m y hm hyy
  have h1 := vW_lt xs hx
  have h2 := vW_split hyy
  have h3 : 4294967296 ^ xs.length ≤ 4294967296 ^ m := Nat.pow_le_pow_right (by decide) (by omega)
  have h4 : 4294967296 ^ m * 1 ≤ 4294967296 ^ m * y := Nat.mul_le_mul_left _ (by omega)
  omega

theorem vW_first {xs ys : List Nat} {i x y : Nat} (hx : Words xs) (h1 : xs[i]? = some x) (h2 : ys[i]? = some y) (hd : xs.drop (i + 1) = ys.drop (i + 1)) (h : x < y) : vW xs < vW ys := by
  have a := vW_split h1
  have b := vW_split h2
  have hi := (List.getElem?_eq_some_iff.1 h1).1
  have c := vW_lt (xs.take i) (words_take hx i)
  rw [List.length_take, Nat.min_eq_left (by omega)] at c
  rw [hd] at a
  have d : 4294967296 ^ i * (x + 1) ≤ 4294967296 ^ i * y := Nat.mul_le_mul_left _ (by omega)
  rw [Nat.mul_add] at d
  omega

set_option maxHeartbeats 8000000 in
set_option maxRecDepth 100000 in
theorem cmp_any (xs ys : List Nat) (a : Option Addr) (la ca : Nat) (b : Option Addr) (lb cb : Nat) (w : World) (hA : WAt w xs a la) (hB : WAt w ys b lb) (hTx : Trimmed xs) (hTy : Trimmed ys) :
    Calls Tryz.prog 57 #[.slice a la ca, .slice b lb cb] w fun e w' => e = .returned (.int .i64 (cmpV (vW xs) (vW ys))) ∧ Below w.heap.size w w' := by
  have HXL := toHid hA.1
  have HYL := toHid hB.1
  have hla := hA.2.1
  have hlb := hB.2.1
  have HXW := toHid hA.2.2.1
  have HYW := toHid hB.2.2.1
  have HXA := toHid hA.2.2.2
  have HYA := toHid hB.2.2.2
  obtain ⟨R, hR⟩ : ∃ R, R = cmpV (vW xs) (vW ys) := ⟨_, rfl⟩
  rw [← hR]
  have HR := toHid hR
  have HTX := toHid hTx
  have HTY := toHid hTy
  clear hA hB hR hTx hTy
  by_cases hll : la = lb
  · subst hll
    go_enter Tryz.func57, Tryz.ntmps57
    go_wp2_with fail
    go_loopg [5] la (fun g s5 wr => ∃ n : Nat, n ≤ la ∧ n ≤ g ∧ s5 = .int .i64 ((n : Int) - 1) ∧ Below w.heap.size w wr ∧ xs.drop n = ys.drop n)
    case atStart => exact ⟨la, Nat.le_refl _, Nat.le_refl _, rfl, Below.refl _ _, by rw [List.drop_eq_nil_of_le (by have := HXL.out; omega), List.drop_eq_nil_of_le (by have := HYL.out; omega)]⟩
    case round =>
      obtain ⟨n, hn, hg, rfl, hbw, hd⟩ := hrel
      have HD := toHid hd
      have HBW := toHid hbw
      clear hd hbw
      cases n with
      | zero =>
        have H3 := toHid (show R = 0 by
          have h1 := HD.out
          rw [List.drop_zero, List.drop_zero] at h1
          rw [HR.out, h1]
          exact cmpV_eq rfl)
        go_wp2_with fail
        go_ret
        exact ⟨ret_int (by rw [H3.out]), HBW.out⟩
      | succ i =>
        obtain ⟨ab, ao, ha, hab, hac⟩ := HXA.out (by omega)
        obtain ⟨bb, bo, hb, hbb, hbc⟩ := HYA.out (by omega)
        subst ha hb
        obtain ⟨x, hx, hdx⟩ := drop_get (L := xs) (i := i) (by have := HXL.out; omega)
        obtain ⟨y, hy, hdy⟩ := drop_get (L := ys) (i := i) (by have := HYL.out; omega)
        have d0 := (HBW.out.cell (p := ⟨ab, ao + i, none⟩) hab).trans (hac i x hx)
        have d1 := (HBW.out.cell (p := ⟨bb, bo + i, none⟩) hbb).trans (hbc i y hy)
        have HX := toHid hx
        have HY := toHid hy
        have HDX := toHid hdx
        have HDY := toHid hdy
        have hii : ((i : Int) + 1) - 1 = i := by omega
        have hil : (i : Int) < la := by omega
        clear hac hbc hx hy hdx hdy
        by_cases hxy : x = y
        · have hne : ((x : Int) != (y : Int)) = false := by simp [hxy]
          have HD2 := toHid (show xs.drop i = ys.drop i by rw [HDX.out, HDY.out, HD.out, hxy])
          clear hxy
          go_wp2_with fail
          go_quiet (fail)
          go_wp2_with fail
          go_roundg i
          case measure => omega
          case rel =>
            have hbw := HBW.out
            exact ⟨i, by omega, Nat.le_refl _, by go_num, below_drewN hbw _, HD2.out⟩
        · have hne : ((x : Int) != (y : Int)) = true := by simp; omega
          by_cases hlt : x < y
          · have H3 := toHid (show R = -1 by rw [HR.out]; exact cmpV_lt (vW_first HXW.out HX.out HY.out HD.out hlt))
            have hlt' : (x : Int) < (y : Int) := by omega
            clear hxy
            go_wp2_with fail
            go_quiet (fail)
            go_wp2_with fail
            go_quiet (fail)
            go_wp2_with fail
            go_ret
            have hbw := HBW.out
            exact ⟨ret_int (by rw [H3.out]), below_drewN (below_drewN hbw _) _⟩
          · have H3 := toHid (show R = 1 by rw [HR.out]; exact cmpV_gt (vW_first HYW.out HY.out HX.out HD.out.symm (by omega)))
            have hlt' : ¬ (x : Int) < (y : Int) := by omega
            clear hxy
            go_wp2_with fail
            go_quiet (fail)
            go_wp2_with fail
            go_quiet (fail)
            go_wp2_with fail
            go_ret
            have hbw := HBW.out
            exact ⟨ret_int (by rw [H3.out]), below_drewN (below_drewN hbw _) _⟩
  · have hne : ((la : Int) != (lb : Int)) = true := by simp; omega
    by_cases hlt : la < lb
    · have H3 := toHid (show R = -1 by rw [HR.out]; exact cmpV_lt (vW_short HXW.out HTY.out (by have := HXL.out; have := HYL.out; omega)))
      have hlt' : (la : Int) < (lb : Int) := by omega
      go_enter Tryz.func57, Tryz.ntmps57
      go_wp2_with fail
      go_ret
      exact ⟨ret_int (by rw [H3.out]), Below.refl _ _⟩
    · have H3 := toHid (show R = 1 by rw [HR.out]; exact cmpV_gt (vW_short HYW.out HTX.out (by have := HXL.out; have := HYL.out; omega)))
      have hlt' : ¬ (la : Int) < (lb : Int) := by omega
      go_enter Tryz.func57, Tryz.ntmps57
      go_wp2_with fail
      go_ret
      exact ⟨ret_int (by rw [H3.out]), Below.refl _ _⟩
end Go.Proofs.YtekkifljcppmlaaGreatDoor
