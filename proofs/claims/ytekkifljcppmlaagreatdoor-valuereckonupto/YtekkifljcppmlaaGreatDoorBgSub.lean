/-
  What is proved here: what espalierbig.sub answers of a number and one that is no greater: the words of the difference.
-/
import Derived.Test.YtekkifljcppmlaaGreatDoorBgAdd
namespace Go.Proofs.YtekkifljcppmlaaGreatDoor
open Go.RowKit
set_option linter.unusedVariables false

theorem wrap64 (z : Int) : IntKind.u64.wrap z = z % 18446744073709551616 := by
  simp [IntKind.wrap, IntKind.signed, IntKind.bits]

theorem vW_lt : ∀ (ws : List Nat), Words ws → vW ws < 4294967296 ^ ws.length
  | [], _ => by simp [vW]
  | x :: r, h => by
    have h1 := vW_lt r (fun y hy => h y (List.mem_cons_of_mem _ hy))
    have h2 := h x (List.mem_cons_self ..)
    rw [vW, List.length_cons, Nat.pow_succ]
    omega

theorem sub_step {A p cc X Y x y lo hi : Nat} (hv : X + p * cc = A + Y) (h : x + 4294967296 * hi = cc + y + lo) : X + p * x + p * 4294967296 * hi = A + p * lo + (Y + p * y) := by
  have h1 : p * (x + 4294967296 * hi) = p * (cc + y + lo) := by rw [h]
  rw [Nat.mul_add, Nat.mul_add, Nat.mul_add, ← Nat.mul_assoc] at h1
  omega

set_option maxHeartbeats 8000000 in
set_option maxRecDepth 100000 in
theorem sub_any (xs ys : List Nat) (a : Option Addr) (la ca : Nat) (b : Option Addr) (lb cb : Nat) (w : World) (hA : WAt w xs a la) (hB : WAt w ys b lb) (h100 : la ≤ 100) (hge : lb ≤ la) (hv : vW ys ≤ vW xs) :
    Calls Tryz.prog 58 #[.slice a la ca, .slice b lb cb] w fun e w' => BigEnd w' (vW xs - vW ys) e ∧ Below w.heap.size w w' := by
  have HXL := toHid hA.1
  have HYL := toHid hB.1
  have HXW := toHid hA.2.2.1
  have HYW := toHid hB.2.2.1
  have HXA := toHid hA.2.2.2
  have HYA := toHid hB.2.2.2
  have HVV := toHid hv
  clear hA hB hv
  obtain ⟨iu, hi0, hiz, his, hib⟩ := info_u32
  have HI0 := toHid hi0
  have HIZ := toHid hiz
  have HIS := toHid his
  have HB4 : iu.bytes * la ≤ 281474976710656 := by rw [hib]; omega
  have HB5 : la ≤ maxLen := by unfold maxLen; omega
  clear hi0 hiz his hib
  obtain ⟨S, hS⟩ : ∃ S, S = vW xs - vW ys := ⟨_, rfl⟩
  rw [← hS]
  have HS := toHid hS
  clear hS
  go_enter Tryz.func58, Tryz.ntmps58
  go_wp2_with (at_make; refine wpList_make_full _ rfl _ _ 41 rfl w.heap.size 85 iu _ 1 Tryz.underlying41 HI0.out HIZ.out HIS.out .i64 .i64 (la : Int) (la : Int) la rfl rfl (by omega) (by omega) HB4 HB5 (Nat.le_refl _) ?_)
  intro w1 hown hgrow
  have b1 : Below w.heap.size w w1 := (Below.refl _ _).grown hgrow (Nat.le_refl _) (fun k hk => by cases hk)
  rw [toList_madeCells_one] at hown
  have hown' : w1.ownsRow w.heap.size 85 1 (.slice (some ⟨w.heap.size, 0, none⟩) la la) la (rowU (List.replicate la 0)) := by
    rw [rowU, List.map_replicate]
    exact hown
  have HOWN1 := toHid hown'
  have HB1 := toHid b1
  clear hown hown' hgrow b1 HB4 HB5
  go_wp2_with fail
  go_loopg [6, 7] la (fun g s6 s7 wr => ∃ (i cc : Nat) (rs : List Nat), i ≤ la ∧ la - i ≤ g ∧ s6 = .int .u64 cc ∧ s7 = .int .i64 i ∧ cc ≤ 1 ∧ rs.length = la ∧ Words rs ∧ wr.ownsRow w.heap.size 85 1 (.slice (some ⟨w.heap.size, 0, none⟩) la la) la (rowU rs) ∧ Below w.heap.size w wr ∧ vW (xs.take i) + 4294967296 ^ i * cc = vW (rs.take i) + vW (ys.take i))
  case atStart => exact ⟨0, 0, List.replicate la 0, Nat.zero_le _, by omega, rfl, rfl, by omega, by simp, (fun x hx => by rw [List.eq_of_mem_replicate hx]; decide), HOWN1.out, HB1.out, by simp [vW]⟩
  case round =>
    clear HOWN1 HB1
    obtain ⟨i, cc, rs, hi, hg, rfl, rfl, hcc, hrl, hrw, hown, hbw, hv⟩ := hrel
    have HRL := toHid hrl
    have HRW := toHid hrw
    have HOWN := toHid hown
    have HBW := toHid hbw
    have HV := toHid hv
    clear hrl hrw hown hbw hv
    by_cases hlt : i < la
    · obtain ⟨ab, ao, ha, hab, hac⟩ := HXA.out (by omega)
      subst ha
      obtain ⟨x, hx, _⟩ := drop_get (L := xs) (i := i) (by have := HXL.out; omega)
      have d0 := (HBW.out.cell (p := ⟨ab, ao + i, none⟩) hab).trans (hac i x hx)
      have hx32 : x < 4294967296 := HXW.out x (List.mem_of_getElem? hx)
      have HX := toHid hx
      obtain ⟨r, hr, _⟩ := drop_get (L := rs) (i := i) (by have := HRL.out; omega)
      have e0 := row_at HOWN.out hr
      have f0 := HOWN.out.frozenAt i
      clear hac hx hr
      by_cases hlb : i < lb
      · obtain ⟨bb, bo, hb, hbb, hbc⟩ := HYA.out (by omega)
        subst hb
        obtain ⟨y, hy, _⟩ := drop_get (L := ys) (i := i) (by have := HYL.out; omega)
        have d1 := (HBW.out.cell (p := ⟨bb, bo + i, none⟩) hbb).trans (hbc i y hy)
        have hy32 : y < 4294967296 := HYW.out y (List.mem_of_getElem? hy)
        have HY := toHid hy
        have hlb' : (i : Int) < lb := by omega
        clear hbc hy
        obtain ⟨lo, hh, hlo, hhi, hsum, hlo32⟩ : ∃ lo hh : Nat, IntKind.u64.wrap (IntKind.u64.wrap ((x : Int) - (cc : Int)) - (y : Int)) % 4294967296 = (lo : Int) ∧ IntKind.u64.wrap (IntKind.u64.wrap ((x : Int) - (cc : Int)) - (y : Int)) / 9223372036854775808 = (hh : Int) ∧ (x + 4294967296 * hh = cc + y + lo ∧ hh ≤ 1) ∧ lo < 4294967296 := by
          simp only [wrap64]
          by_cases hq : cc + y ≤ x
          · exact ⟨x - cc - y, 0, by omega, by omega, ⟨by omega, by omega⟩, by omega⟩
          · exact ⟨x + 4294967296 - cc - y, 1, by omega, by omega, ⟨by omega, by omega⟩, by omega⟩
        have HSUM := toHid hsum.1
        have HHH := toHid hsum.2
        clear hsum
        go_wp2_with fail
        go_roundg (la - (i + 1))
        case measure => omega
        case rel =>
          have hst := (HOWN.out.stored i (.int .u32 (lo : Int))).1
          rw [rowU_set] at hst
          refine ⟨i + 1, hh, rs.set i lo, by omega, by omega, rfl, by go_num, HHH.out, by rw [List.length_set]; exact HRL.out, HRW.out.set hlo32, hst, HBW.out.setCell (p := ⟨w.heap.size, i, none⟩) (Nat.le_refl _) _, ?_⟩
          rw [vW_take (set_at (by have := HRL.out; omega)), take_set_lt, vW_take HX.out, vW_take HY.out, Nat.pow_succ]
          exact sub_step HV.out HSUM.out
      · have hlb' : ¬ (i : Int) < lb := by omega
        have HYT := toHid (show vW (ys.take (i + 1)) = vW (ys.take i) + 4294967296 ^ i * 0 by rw [List.take_of_length_le (by have := HYL.out; omega), List.take_of_length_le (by have := HYL.out; omega)]; omega)
        obtain ⟨lo, hh, hlo, hhi, hsum, hlo32⟩ : ∃ lo hh : Nat, IntKind.u64.wrap ((x : Int) - (cc : Int)) % 4294967296 = (lo : Int) ∧ IntKind.u64.wrap ((x : Int) - (cc : Int)) / 9223372036854775808 = (hh : Int) ∧ (x + 4294967296 * hh = cc + 0 + lo ∧ hh ≤ 1) ∧ lo < 4294967296 := by
          simp only [wrap64]
          by_cases hq : cc + 0 ≤ x
          · exact ⟨x - cc - 0, 0, by omega, by omega, ⟨by omega, by omega⟩, by omega⟩
          · exact ⟨x + 4294967296 - cc - 0, 1, by omega, by omega, ⟨by omega, by omega⟩, by omega⟩
        have HSUM := toHid hsum.1
        have HHH := toHid hsum.2
        clear hsum
        go_wp2_with fail
        go_roundg (la - (i + 1))
        case measure => omega
        case rel =>
          have hst := (HOWN.out.stored i (.int .u32 (lo : Int))).1
          rw [rowU_set] at hst
          refine ⟨i + 1, hh, rs.set i lo, by omega, by omega, rfl, by go_num, HHH.out, by rw [List.length_set]; exact HRL.out, HRW.out.set hlo32, hst, HBW.out.setCell (p := ⟨w.heap.size, i, none⟩) (Nat.le_refl _) _, ?_⟩
          rw [vW_take (set_at (by have := HRL.out; omega)), take_set_lt, vW_take HX.out, HYT.out, Nat.pow_succ]
          exact sub_step HV.out HSUM.out
    · have hil : i = la := by omega
      subst hil
      have hcz : cc = 0 ∧ vW rs = S := by
        have h1 := HV.out
        rw [List.take_of_length_le (by have := HXL.out; omega), List.take_of_length_le (by have := HRL.out; omega), List.take_of_length_le (by have := HYL.out; omega)] at h1
        have h2 := HVV.out
        have h3 := vW_lt xs HXW.out
        have h4 := vW_lt rs HRW.out
        rw [HRL.out] at h4
        rw [← HXL.out] at h3
        have h5 := HS.out
        have hc : cc = 0 ∨ cc = 1 := by omega
        rcases hc with rfl | rfl
        · refine ⟨rfl, ?_⟩
          rw [Nat.mul_zero] at h1
          omega
        · exfalso
          rw [Nat.mul_one] at h1
          omega
      obtain ⟨hwat, hwc1, hwc2⟩ := wat_of_row HOWN.out HRW.out (by omega)
      have HTR := toHid (trim_any rs (some ⟨w.heap.size, 0, none⟩) i i wr hwat hwc1 hwc2 (fun h => by cases h))
      have HVS := toHid hcz.2
      clear hwat hwc1 hwc2 hcz
      go_wp2_with fail
      refine HTR.out.mono ?_
      rintro e w2 ⟨⟨n, hn, rfl, h1, h2, h3⟩, rfl⟩
      have hnl : n ≤ i := by rw [HRL.out] at hn; exact hn
      have HE := toHid (show BigEnd w2 S (.returned (.slice (some ⟨w.heap.size, 0, none⟩) n i)) from ⟨_, n, i, _, rfl, h1, hnl, by omega, (fun h => by cases h), h2.trans HVS.out, h3⟩)
      clear h1 h2 h3 HTR
      go_wp2_with fail
      go_ret
      exact ⟨HE.out, HBW.out⟩
end Go.Proofs.YtekkifljcppmlaaGreatDoor
