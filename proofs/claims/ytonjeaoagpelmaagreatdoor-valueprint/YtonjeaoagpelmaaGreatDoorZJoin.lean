/-
  What is proved here: strings.Join of texts that lie in a row, with a comma: the pieces, commas between them (PAll's joinP); no text, one text, more.
-/
import Derived.Test.YtonjeaoagpelmaaGreatDoorZGrow
import Derived.Test.YtonjeaoagpelmaaGreatDoorWPAll
namespace Go.Proofs.YtonjeaoagpelmaaGreatDoor
open Go.RowKit
set_option linter.unusedVariables false

/-- Texts lie in a row. -/
def TxtAt (w : World) (L : List (List UInt8)) (a : Option Addr) (l : Nat) : Prop :=
  l = L.length ∧ (0 < l → ∃ g, a = some ⟨g, 0, none⟩ ∧ g < w.heap.size ∧ ∀ (i : Nat) (x : List UInt8), L[i]? = some x → w.cell? ⟨g, i, none⟩ = some (.string ⟨x.toArray⟩))

theorem TxtAt.below {w w' : World} {L : List (List UInt8)} {a : Option Addr} {l : Nat} (h : TxtAt w L a l) (k : Below w.heap.size w w') : TxtAt w' L a l := by
  refine ⟨h.1, fun h0 => ?_⟩
  obtain ⟨g, ha, hg, hc⟩ := h.2 h0
  exact ⟨g, ha, Nat.lt_of_lt_of_le hg k.size, fun i x hx => (k.cell (p := ⟨g, i, none⟩) hg).trans (hc i x hx)⟩

/-- How long the texts are together. -/
def sumL (L : List (List UInt8)) : Nat := (L.map List.length).sum

theorem sumL_take (L : List (List UInt8)) (i : Nat) (x : List UInt8) (h : L[i]? = some x) : sumL (L.take (i + 1)) = sumL (L.take i) + x.length := by
  have hi := (List.getElem?_eq_some_iff.1 h).1
  rw [List.take_add_one, h]
  simp [sumL]

theorem sumL_le (L : List (List UInt8)) (i : Nat) : sumL (L.take i) ≤ sumL L := by
  have h : sumL (L.take i ++ L.drop i) = sumL (L.take i) + sumL (L.drop i) := by simp [sumL, - List.map_take, - List.map_drop, - List.take_append_drop]
  rw [List.take_append_drop] at h
  omega

/-- The pieces with a comma ahead of each. -/
def tailJ : List (List UInt8) → List UInt8
  | [] => []
  | x :: L => 44 :: (x ++ tailJ L)

theorem tailJ_append (L M : List (List UInt8)) : tailJ (L ++ M) = tailJ L ++ tailJ M := by
  induction L with
  | nil => rfl
  | cons x L ih => simp [tailJ, ih]

theorem tailJ_take (L : List (List UInt8)) (i : Nat) (x : List UInt8) (h : L[i]? = some x) : tailJ (L.take (i + 1)) = tailJ (L.take i) ++ 44 :: x := by
  rw [List.take_add_one, h]
  simp [tailJ_append, tailJ]

theorem tailJ_len (L : List (List UInt8)) : (tailJ L).length = L.length + sumL L := by
  induction L with
  | nil => rfl
  | cons x L ih =>
    have : sumL (x :: L) = x.length + sumL L := by simp [sumL]
    simp only [tailJ, List.length_cons, List.length_append, ih, this]
    omega

theorem tailJ_take_len (L : List (List UInt8)) (i : Nat) : (tailJ (L.take i)).length ≤ L.length + sumL L := by
  rw [tailJ_len]
  have h1 := sumL_le L i
  have h2 : (L.take i).length ≤ L.length := by rw [List.length_take]; exact Nat.min_le_right _ _
  omega

theorem strCellsZ (x : List UInt8) : Lib.strCells ⟨x.toArray⟩ = Lib.byteCells x := by simp [Lib.strCells, Lib.byteCells]

theorem write_list (B b : Nat) (l x : List UInt8) (w : World) (h : Lib.IsBuilderF BT BE B b (Lib.byteCells l) w) (hlen : l.length + x.length ≤ 140737488355328) (hBw : B ≤ w.heap.size) :
    Calls Tryz.prog 32 #[.pointer (some ⟨b, 0, none⟩), .string ⟨x.toArray⟩] w fun e w' => (∃ n : Int, e = .returned (.tuple #[.int .i64 n, .nilIface])) ∧ Lib.IsBuilderF BT BE B b (Lib.byteCells (l ++ x)) w' ∧ Below B w w' := by
  have hz : (⟨x.toArray⟩ : ByteArray).size = x.length := by simp [ByteArray.size]
  refine (write_any B b (Lib.byteCells l) ⟨x.toArray⟩ w h (by rw [Lib.byteCells_length, hz]; exact hlen) hBw).mono ?_
  rintro e w' ⟨rfl, h1, h2⟩
  rw [strCellsZ, ← Lib.byteCells_append] at h1
  exact ⟨⟨_, rfl⟩, h1, h2⟩

/-- What Join makes. -/
def joinZ : List (List UInt8) → List UInt8
  | [] => []
  | x :: L => x ++ tailJ L

set_option maxHeartbeats 8000000 in
set_option maxRecDepth 100000 in
theorem join_any (L : List (List UInt8)) (a : Option Addr) (l c : Nat) (w : World) (h : TxtAt w L a l) (hl : l ≤ 30) (hlc : l ≤ c) (hsum : sumL L ≤ 100000000000000) :
    Calls Tryz.prog 19 #[.slice a l c, .string ⟨#[44]⟩] w fun e w' => e = .returned (.string ⟨(joinZ L).toArray⟩) ∧ Below w.heap.size w w' := by
  obtain ⟨hlen, hat⟩ := h
  rcases L with _ | ⟨x, _ | ⟨y, L⟩⟩
  · obtain rfl : l = 0 := hlen
    go_enter Tryz.func19, Tryz.ntmps19
    go_wp2_with fail
    go_ret
    exact ⟨rfl, Below.refl _ _⟩
  · obtain rfl : l = 1 := hlen
    obtain ⟨g, rfl, hg, hc⟩ := hat (by omega)
    have c0 := hc 0 x rfl
    clear hc hat
    go_enter Tryz.func19, Tryz.ntmps19
    go_wp2_with fail
    go_ret
    exact ⟨by simp [joinZ, tailJ], Below.refl _ _⟩
  · obtain ⟨g, rfl, hg, hc⟩ := hat (by rw [hlen]; simp)
    have HC := toHid hc
    have HLEN := toHid hlen
    have h2 : 2 ≤ l := by rw [hlen]; simp
    have HSUM := toHid hsum
    have hne0 : ((l : Int) == 0) = false := beq_eq_false_iff_ne.2 (by omega)
    have hne1 : ((l : Int) == 1) = false := beq_eq_false_iff_ne.2 (by omega)
    have hl1 : ((l : Int) - 1) = ((l - 1 : Nat) : Int) := by omega
    have hdv : ¬ (9223372036854775807 / ((l : Int) - 1) ≤ (1 : Int)) := by
      have : (2 : Int) ≤ 9223372036854775807 / ((l : Int) - 1) := by
        rw [Int.le_ediv_iff_mul_le (by omega)]
        omega
      omega
    clear hc hat hlen hsum hl1
    go_enter Tryz.func19, Tryz.ntmps19
    go_wp2_with fail
    go_loopg [5, 7, 41] l (fun n x5 x7 x41 wr => ∃ k : Nat, k ≤ l ∧ l - k ≤ n ∧ x41 = .int .i64 k ∧ x5 = .int .i64 (((l - 1 : Nat) : Int) + (sumL ((x :: y :: L).take k) : Int)) ∧ wr = w)
    case atStart => exact ⟨0, Nat.zero_le _, by omega, rfl, by simp [sumL]; omega, rfl⟩
    case round =>
      obtain ⟨k, hk, hn, rfl, rfl, rfl⟩ := hrel
      by_cases hkl : k < l
      · have hki : (k : Int) < (l : Int) := by omega
        obtain ⟨u, hu⟩ : ∃ u, (x :: y :: L)[k]? = some u := ⟨_, List.getElem?_eq_getElem (by rw [← HLEN.out]; exact hkl)⟩
        have hc := HC.out k u hu
        have hst := sumL_take _ k u hu
        have hle := sumL_le (x :: y :: L) (k + 1)
        have hS := HSUM.out
        obtain ⟨A, hA⟩ : ∃ A, A = sumL ((x :: y :: L).take k) := ⟨_, rfl⟩
        have hAl : A + u.length ≤ 100000000000000 := by omega
        rw [← hA] at hst ⊢
        have HST := toHid hst
        have hbig : ¬ (9223372036854775807 - (((l - 1 : Nat) : Int) + (A : Int)) < (u.length : Int)) := by omega
        clear hst hle hS hu hA
        go_wp2_with fail
        go_roundg (l - (k + 1))
        case measure => omega
        case rel => exact ⟨k + 1, by omega, by omega, by go_num, by rw [HST.out]; go_num, rfl⟩
      · have hkl' : k = l := by omega
        subst hkl'
        rw [List.take_of_length_le (by rw [← HLEN.out]; exact Nat.le_refl _)]
        obtain ⟨A, hA⟩ : ∃ A, A = sumL (x :: y :: L) := ⟨_, rfl⟩
        have hAl : A ≤ 100000000000000 := by have := HSUM.out; omega
        rw [← hA]
        have HA := toHid hA
        clear hA
        go_wp2_with fail
        rw [show ((k - 1 : Nat) : Int) + (A : Int) = ((k - 1 + A : Nat) : Int) by omega]
        refine (grow_fresh wr.heap.size wr.heap.size (k - 1 + A) _ (Nat.le_refl _) (alloc_new wr _) (by simp) (by omega)).mono ?_
        rintro e w1 ⟨rfl, hb1, k1⟩
        have HB1 : Hid (Lib.IsBuilderF BT BE wr.heap.size wr.heap.size (Lib.byteCells []) w1) := toHid (.inr (Lib.BuilderAtF.of hb1))
        have HK1 : Hid (Below wr.heap.size wr w1) := ((Below.refl _ _).alloc (Nat.le_refl _) _).trans k1
        have hz1 : wr.heap.size ≤ w1.heap.size := HK1.out.size
        have c0 : w1.cell? ⟨g, 0, none⟩ = some (.string ⟨x.toArray⟩) := (HK1.out.cell (p := ⟨g, 0, none⟩) hg).trans (HC.out 0 x rfl)
        have hxl : x.length ≤ A := by rw [HA.out]; simp [sumL]
        have HW1 := toHid (write_list wr.heap.size wr.heap.size [] x w1 HB1.out (by simp; omega) hz1)
        clear hb1 k1
        go_wp2_with fail
        refine HW1.out.mono ?_
        rintro e w2 ⟨⟨n2, rfl⟩, hb2, k2⟩
        rw [List.nil_append] at hb2
        have HB2 := toHid hb2
        have HK2 : Hid (Below wr.heap.size wr w2) := HK1.out.trans k2
        have hcn : ¬ c = 1 := by omega
        have hk1 : (1 : Int) ≤ (k : Int) := by omega
        clear hb2 k2 c0 HW1
        go_wp2_with fail
        have hAA : A = x.length + sumL (y :: L) := by rw [HA.out]; simp [sumL]
        have hkl : k = (y :: L).length + 1 := by rw [HLEN.out]; simp
        have HAA := toHid hAA
        have HKL := toHid hkl
        clear hAA hkl
        obtain ⟨wo, hwo⟩ : ∃ z, z = wr := ⟨_, rfl⟩
        subst hwo
        go_loopg [10, 65] (k - 1) (fun n x10 x65 wq => ∃ i : Nat, i ≤ k - 1 ∧ k - 1 - i ≤ n ∧ x65 = .int .i64 i ∧ Lib.IsBuilderF BT BE wo.heap.size wo.heap.size (Lib.byteCells (x ++ tailJ ((y :: L).take i))) wq ∧ Below wo.heap.size wo wq)
        case atStart => exact ⟨0, Nat.zero_le _, by omega, rfl, by simpa [tailJ] using HB2.out, HK2.out⟩
        case round =>
          obtain ⟨i, hi, hn, rfl, hbi, hki⟩ := hrel
          have hsz : wo.heap.size ≤ wr.heap.size := hki.size
          by_cases hik : i < k - 1
          · have hikI : (i : Int) < ((k - 1 : Nat) : Int) := by omega
            obtain ⟨u, hu⟩ : ∃ u, (y :: L)[i]? = some u := ⟨_, List.getElem?_eq_getElem (by have := HKL.out; omega)⟩
            have hu' : (x :: y :: L)[i + 1]? = some u := hu
            have ci : wr.cell? ⟨g, 1 + i, none⟩ = some (.string ⟨u.toArray⟩) := by
              rw [Nat.add_comm 1 i]
              exact (hki.cell (p := ⟨g, i + 1, none⟩) hg).trans (HC.out (i + 1) u hu')
            have ci' : wr.cell? ⟨g, i + 1, none⟩ = some (.string ⟨u.toArray⟩) := (hki.cell (p := ⟨g, i + 1, none⟩) hg).trans (HC.out (i + 1) u hu')
            have htk := tailJ_take _ i u hu
            have hln : (tailJ ((y :: L).take (i + 1))).length ≤ (y :: L).length + sumL (y :: L) := tailJ_take_len _ _
            rw [htk, List.length_append, List.length_cons] at hln
            obtain ⟨R, hR⟩ : ∃ R, R = x ++ tailJ ((y :: L).take i) := ⟨_, rfl⟩
            have hRl : R.length + 1 + u.length ≤ 140737488355328 := by
              rw [hR, List.length_append]
              have := HAA.out
              have := HKL.out
              omega
            have hRe : x ++ tailJ ((y :: L).take (i + 1)) = (R ++ [44]) ++ u := by rw [htk, hR]; simp
            rw [← hR] at hbi
            have HBI := toHid hbi
            have HKI := toHid hki
            have HRE := toHid hRe
            have HWC := toHid (write_list wo.heap.size wo.heap.size R [44] wr hbi (by simp; omega) hsz)
            clear hbi hki hRe hR htk hln hu hu'
            go_wp2_with fail
            refine HWC.out.mono ?_
            rintro e w3 ⟨⟨n3, rfl⟩, hb3, k3⟩
            have HW2 := toHid (write_list wo.heap.size wo.heap.size (R ++ [44]) u w3 hb3 (by simp; omega) (Nat.le_trans hsz k3.size))
            have HK3 : Hid (Below wo.heap.size wo w3) := HKI.out.trans k3
            clear hb3 k3 HWC ci ci'
            go_wp2_with fail
            refine HW2.out.mono ?_
            rintro e w4 ⟨⟨n4, rfl⟩, hb4, k4⟩
            have HB4 := toHid hb4
            have HK4 : Hid (Below wo.heap.size wo w4) := HK3.out.trans k4
            clear hb4 k4 HW2
            go_wp2_with fail
            go_roundg (k - 1 - (i + 1))
            case measure => omega
            case rel => exact ⟨i + 1, by omega, by omega, by go_num, by rw [HRE.out]; exact HB4.out, HK4.out⟩
          · have hik' : i = k - 1 := by omega
            have hikI : ¬ (i : Int) < ((k - 1 : Nat) : Int) := by omega
            rw [List.take_of_length_le (by have := HKL.out; omega)] at hbi
            have HS := toHid (Tryz.Builder_String_any_k wo.heap.size wo.heap.size (x ++ tailJ (y :: L)) wr hbi hsz)
            have HKI := toHid hki
            clear hbi hki
            go_wp2_with fail
            refine HS.out.mono ?_
            rintro e w5 ⟨rfl, _, k5, _⟩
            go_wp2_with fail
            go_ret
            exact ⟨rfl, HKI.out.trans k5⟩
end Go.Proofs.YtonjeaoagpelmaaGreatDoor
