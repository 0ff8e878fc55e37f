/-
  What is proved here: what espalierbig.mul answers: the words of the product.
-/
import Derived.Test.YtekkifljcppmlaaGreatDoorBgNew
namespace Go.Proofs.YtekkifljcppmlaaGreatDoor
open Go.RowKit
set_option linter.unusedVariables false

theorem vW_set : ∀ (ws : List Nat) (i r v : Nat), ws[i]? = some r → vW (ws.set i v) + 4294967296 ^ i * r = vW ws + 4294967296 ^ i * v
  | [], i, r, v, h => by simp at h
  | x :: ws, 0, r, v, h => by
    simp at h
    subst h
    simp [vW]
    omega
  | x :: ws, i + 1, r, v, h => by
    have h1 := vW_set ws i r v (by simpa using h)
    have e : ∀ t, 4294967296 ^ i * 4294967296 * t = 4294967296 * (4294967296 ^ i * t) := fun t => by rw [Nat.mul_comm (4294967296 ^ i), Nat.mul_assoc]
    simp only [List.set_cons_succ, vW, Nat.pow_succ]
    rw [e, e]
    generalize 4294967296 ^ i * r = A at h1 ⊢
    generalize 4294967296 ^ i * v = C at h1 ⊢
    omega

theorem mul_step {V V' V0 p cc x y r lo hi Bi Yj Bj : Nat} (hp : p = Bi * Bj) (hv : V + p * cc = V0 + Bi * (x * Yj)) (hs : V' + p * r = V + p * lo) (h : lo + 4294967296 * hi = cc + (x * y + r)) : V' + p * 4294967296 * hi = V0 + Bi * (x * (Yj + Bj * y)) := by
  have h1 : p * (lo + 4294967296 * hi) = p * (cc + (x * y + r)) := by rw [h]
  have h2 : Bi * (x * (Yj + Bj * y)) = Bi * (x * Yj) + p * (x * y) := by
    rw [hp, Nat.mul_add, Nat.mul_add, Nat.mul_left_comm x Bj y, Nat.mul_assoc]
  have h3 : p * (4294967296 * hi) = p * 4294967296 * hi := (Nat.mul_assoc _ _ _).symm
  rw [Nat.mul_add, Nat.mul_add, Nat.mul_add, h3] at h1
  rw [h2]
  generalize p * (x * y) = A at h1 ⊢
  generalize p * 4294967296 * hi = C at h1 ⊢
  generalize p * lo = D at h1 hs
  generalize p * r = E at h1 hs
  generalize p * cc = F at h1 hv
  generalize Bi * (x * Yj) = G at hv ⊢
  omega

theorem vW_zeros : ∀ n : Nat, vW (List.replicate n 0) = 0
  | 0 => rfl
  | n + 1 => by rw [List.replicate_succ, vW, vW_zeros n]

theorem set_keep {rs : List Nat} {k v m x : Nat} (h : rs[m]? = some x) (hn : k ≠ m) : (rs.set k v)[m]? = some x := by
  rw [List.getElem?_set_ne hn]
  exact h

theorem mul_lt {x y : Nat} (hx : x < 4294967296) (hy : y < 4294967296) : x * y ≤ 18446744065119617025 := by
  have := Nat.mul_le_mul (Nat.le_pred_of_lt hx) (Nat.le_pred_of_lt hy)
  simpa using this

set_option maxHeartbeats 8000000 in
set_option maxRecDepth 100000 in
theorem mul_pos (xs ys : List Nat) (a : Option Addr) (la ca : Nat) (b : Option Addr) (lb cb : Nat) (w : World) (hA : WAt w xs a la) (hB : WAt w ys b lb) (h100 : la ≤ 100) (h100b : lb ≤ 100) (hpa : 0 < la) (hpb : 0 < lb) :
    Calls Tryz.prog 37 #[.slice a la ca, .slice b lb cb] w fun e w' => BigEnd w' (vW xs * vW ys) e ∧ Below w.heap.size w w' := by
  have HXL := toHid hA.1
  have HYL := toHid hB.1
  have HXW := toHid hA.2.2.1
  have HYW := toHid hB.2.2.1
  obtain ⟨ab, ao, ha, hab, hac⟩ := hA.2.2.2 hpa
  obtain ⟨bb, bo, hb, hbb, hbc⟩ := hB.2.2.2 hpb
  subst ha hb
  have HAC := toHid hac
  have HBC := toHid hbc
  clear hA hB hac hbc
  obtain ⟨iu, hi0, hiz, his, hib⟩ := info_u32
  have HI0 := toHid hi0
  have HIZ := toHid hiz
  have HIS := toHid his
  obtain ⟨N, hN⟩ : ∃ N : Nat, N = la + lb := ⟨_, rfl⟩
  have hN' : (la : Int) + (lb : Int) = (N : Int) := by omega
  have hN2 : N ≤ 200 := by omega
  have HN := toHid hN
  have HB4 : iu.bytes * N ≤ 281474976710656 := by rw [hib]; omega
  have HB5 : N ≤ maxLen := by unfold maxLen; omega
  clear hi0 hiz his hib hN
  obtain ⟨S, hS⟩ : ∃ S, S = vW xs * vW ys := ⟨_, rfl⟩
  rw [← hS]
  have HS := toHid hS
  clear hS
  have hla0 : ((la : Int) == 0) = false := by simp; omega
  have hlb0 : ((lb : Int) == 0) = false := by simp; omega
  go_enter Tryz.func37, Tryz.ntmps37
  go_wp2_with (at_make; refine wpList_make_full _ rfl _ _ 41 rfl w.heap.size 85 iu _ 1 Tryz.underlying41 HI0.out HIZ.out HIS.out .i64 .i64 (N : Int) (N : Int) N rfl rfl (by omega) (by omega) HB4 HB5 (Nat.le_refl _) ?_)
  intro w1 hown hgrow
  have b1 : Below w.heap.size w w1 := (Below.refl _ _).grown hgrow (Nat.le_refl _) (fun k hk => by cases hk)
  rw [toList_madeCells_one] at hown
  have hown' : w1.ownsRow w.heap.size 85 1 (.slice (some ⟨w.heap.size, 0, none⟩) N N) N (rowU (List.replicate N 0)) := by
    rw [rowU, List.map_replicate]
    exact hown
  have HOWN1 := toHid hown'
  have HB1 := toHid b1
  clear hown hown' hgrow b1 HB4 HB5
  go_wp2_with fail
  go_loopg [6, 7, 8] la (fun g s6 s7 s8 wr => ∃ (i : Nat) (rs : List Nat), i ≤ la ∧ la - i ≤ g ∧ s6 = .int .i64 i ∧ rs.length = N ∧ Words rs ∧ wr.ownsRow w.heap.size 85 1 (.slice (some ⟨w.heap.size, 0, none⟩) N N) N (rowU rs) ∧ Below w.heap.size w wr ∧ vW rs = vW (xs.take i) * vW ys ∧ ∀ k, i + lb ≤ k → k < N → rs[k]? = some 0)
  case atStart => exact ⟨0, List.replicate N 0, Nat.zero_le _, by omega, rfl, by simp, (fun x hx => by rw [List.eq_of_mem_replicate hx]; decide), HOWN1.out, HB1.out, by rw [vW_zeros]; simp [vW], fun k _ hk => by rw [List.getElem?_replicate, if_pos hk]⟩
  case round =>
    clear HOWN1 HB1
    obtain ⟨i, rs0, hi, hg, rfl, hrl, hrw, hown, hbw, hv, hz⟩ := hrel
    have HRL0 := toHid hrl
    have HRW0 := toHid hrw
    have HOWN0 := toHid hown
    have HBW0 := toHid hbw
    have HV0 := toHid hv
    have HZ0 := toHid hz
    clear hrl hrw hown hbw hv hz
    by_cases hlt : i < la
    · obtain ⟨x, hx, _⟩ := drop_get (L := xs) (i := i) (by have := HXL.out; omega)
      have hx32 : x < 4294967296 := HXW.out x (List.mem_of_getElem? hx)
      have HX := toHid hx
      clear hx
      have hlt' : (i : Int) < la := by omega
      go_wp2_with fail
      go_loopg [7, 8] lb (fun g s7 s8 wq => ∃ (j cc : Nat) (rs : List Nat), j ≤ lb ∧ lb - j ≤ g ∧ s7 = .int .u64 cc ∧ s8 = .int .i64 j ∧ cc < 4294967296 ∧ rs.length = N ∧ Words rs ∧ wq.ownsRow w.heap.size 85 1 (.slice (some ⟨w.heap.size, 0, none⟩) N N) N (rowU rs) ∧ Below w.heap.size w wq ∧ vW rs + 4294967296 ^ (i + j) * cc = vW rs0 + 4294967296 ^ i * (x * vW (ys.take j)) ∧ ∀ k, i + lb ≤ k → k < N → rs[k]? = some 0)
      case atStart => exact ⟨0, 0, rs0, Nat.zero_le _, by omega, rfl, rfl, by omega, HRL0.out, HRW0.out, HOWN0.out, HBW0.out, by simp [vW], HZ0.out⟩
      case round =>
        clear HRL0 HRW0 HOWN0 HBW0 HZ0
        rename_i wo _ _ _
        obtain ⟨j, cc, rs, hj, hgj, rfl, rfl, hcc, hrl, hrw, hown, hbw, hv, hz⟩ := hrel
        have HRL := toHid hrl
        have HRW := toHid hrw
        have HOWN := toHid hown
        have HBW := toHid hbw
        have HV := toHid hv
        have HZ := toHid hz
        clear hrl hrw hown hbw hv hz
        by_cases hjt : j < lb
        · obtain ⟨y, hy, _⟩ := drop_get (L := ys) (i := j) (by have := HYL.out; omega)
          have hy32 : y < 4294967296 := HYW.out y (List.mem_of_getElem? hy)
          obtain ⟨k, hk⟩ : ∃ k : Nat, k = i + j := ⟨_, rfl⟩
          have hk' : (i : Int) + (j : Int) = (k : Int) := by omega
          have hkN : k < N := by have := HN.out; omega
          have HK := toHid hk
          obtain ⟨r, hr, _⟩ := drop_get (L := rs) (i := k) (by have := HRL.out; omega)
          have hr32 : r < 4294967296 := HRW.out r (List.mem_of_getElem? hr)
          have d0 := (HBW.out.cell (p := ⟨ab, ao + i, none⟩) hab).trans (HAC.out i x HX.out)
          have d1 := (HBW.out.cell (p := ⟨bb, bo + j, none⟩) hbb).trans (HBC.out j y hy)
          have e0 := row_at HOWN.out hr
          have f0 := HOWN.out.frozenAt k
          obtain ⟨p, hp⟩ : ∃ p : Nat, p = x * y := ⟨_, rfl⟩
          have hp' : (x : Int) * (y : Int) = (p : Int) := by rw [hp, Int.natCast_mul]
          have hpl : p ≤ 18446744065119617025 := by rw [hp]; exact mul_lt hx32 hy32
          have HP := toHid hp
          have HY := toHid hy
          have HR := toHid hr
          have hw1 : IntKind.u64.wrap (p : Int) = p := by rw [wrap64]; omega
          have hw2 : IntKind.u64.wrap ((p : Int) + (r : Int)) = (p : Int) + (r : Int) := by rw [wrap64]; omega
          have hw3 : IntKind.u64.wrap ((cc : Int) + ((p : Int) + (r : Int))) = (cc : Int) + ((p : Int) + (r : Int)) := by rw [wrap64]; omega
          have hw4 : IntKind.i64.wrap (k : Int) = k := by rw [IntKind.wrap_i64]; omega
          have hjt' : (j : Int) < lb := by omega
          have hkN' : (k : Int) < N := by omega
          clear hk hp hy hr
          go_wp2_with fail
          go_quiet (fail)
          go_wp2_with fail
          go_roundg (lb - (j + 1))
          case measure => omega
          case rel =>
            have hst := fun q => ((show (wr.drewN q).ownsRow w.heap.size 85 1 (.slice (some ⟨w.heap.size, 0, none⟩) N N) N (rowU rs) from HOWN.out).stored k (.int .u32 ((((cc + (p + r)) % 4294967296 : Nat)) : Int))).1
            simp only [rowU_set] at hst
            have hbw := HBW.out
            refine ⟨j + 1, (cc + (p + r)) / 4294967296, rs.set k ((cc + (p + r)) % 4294967296), by omega, by omega, by rw [show ((cc : Int) + ((p : Int) + (r : Int))) / 4294967296 = (((cc + (p + r)) / 4294967296 : Nat) : Int) from by omega], by go_num, by omega, by rw [List.length_set]; exact HRL.out, HRW.out.set (by omega), ?_, ?_, ?_, ?_⟩
            · rw [show ((cc : Int) + ((p : Int) + (r : Int))) % 4294967296 = (((cc + (p + r)) % 4294967296 : Nat) : Int) from by omega]
              exact hst _
            · exact (below_drewN hbw _).setCell (p := ⟨w.heap.size, k, none⟩) (Nat.le_refl _) _
            · have hs := vW_set rs k r ((cc + (p + r)) % 4294967296) HR.out
              rw [HK.out] at hs ⊢
              rw [vW_take HY.out, ← Nat.add_assoc i j 1, Nat.pow_succ]
              refine mul_step (Nat.pow_add _ _ _) HV.out hs ?_
              rw [← HP.out]
              omega
            · intro m hm hmN
              exact set_keep (HZ.out m hm hmN) (by have := HK.out; omega)
        · have hjl : j = lb := by omega
          subst hjl
          obtain ⟨k, hk⟩ : ∃ k : Nat, k = i + j := ⟨_, rfl⟩
          have hk' : (i : Int) + (j : Int) = (k : Int) := by omega
          have hkN : k < N := by have := HN.out; omega
          have hr := HZ.out k (by omega) hkN
          have HK := toHid hk
          have HR := toHid hr
          have e0 := row_at HOWN.out hr
          have f0 := HOWN.out.frozenAt k
          have hkN' : (k : Int) < N := by omega
          clear hk hr
          go_wp2_with fail
          go_roundg (la - (i + 1))
          case measure => omega
          case rel =>
            have hst := (HOWN.out.stored k (.int .u32 ((cc : Nat) : Int))).1
            simp only [rowU_set] at hst
            have hbw := HBW.out
            refine ⟨i + 1, rs.set k cc, by omega, by omega, by go_num, by rw [List.length_set]; exact HRL.out, HRW.out.set (by omega), hst, ?_, ?_, ?_⟩
            · exact hbw.setCell (p := ⟨w.heap.size, k, none⟩) (Nat.le_refl _) _
            · have hs := vW_set rs k 0 cc HR.out
              rw [HK.out, Nat.mul_zero, Nat.add_zero, HV.out, List.take_of_length_le (by have := HYL.out; omega), HV0.out] at hs
              rw [HK.out, hs, vW_take HX.out, Nat.add_mul, Nat.mul_assoc]
            · intro m hm hmN
              exact set_keep (HZ.out m (by omega) hmN) (by have := HK.out; omega)
    · have hil : i = la := by omega
      subst hil
      obtain ⟨hwat, hwc1, hwc2⟩ := wat_of_row HOWN0.out HRW0.out (by omega)
      have HTR := toHid (trim_any rs0 (some ⟨w.heap.size, 0, none⟩) N N _ hwat hwc1 hwc2 (fun h => by cases h))
      have HVV := toHid (show vW rs0 = S by
        rw [HV0.out, List.take_of_length_le (by have := HXL.out; omega), HS.out])
      clear hwat hwc1 hwc2
      go_wp2_with fail
      refine HTR.out.mono ?_
      rintro e w2 ⟨⟨n, hn, rfl, h1, h2, h3⟩, rfl⟩
      have hnl : n ≤ N := by have := HRL0.out; omega
      have HE := toHid (show BigEnd w2 S (.returned (.slice (some ⟨w.heap.size, 0, none⟩) n N)) from ⟨_, n, N, _, rfl, h1, hnl, by omega, (fun h => by cases h), h2.trans HVV.out, h3⟩)
      clear h1 h2 h3 HTR
      go_wp2_with fail
      go_ret
      exact ⟨HE.out, HBW0.out⟩

theorem big_nil (w : World) {v : Nat} (h : v = 0) : BigEnd w v (.returned (.slice none 0 0)) :=
  ⟨none, 0, 0, [], rfl, ⟨rfl, by omega, (fun x hx => by cases hx), fun h => by omega⟩, Nat.le_refl _, by omega, fun _ => rfl, by rw [h]; rfl, fun m x hm _ => by simp at hm⟩

set_option maxHeartbeats 4000000 in
theorem mul_any (xs ys : List Nat) (a : Option Addr) (la ca : Nat) (b : Option Addr) (lb cb : Nat) (w : World) (hA : WAt w xs a la) (hB : WAt w ys b lb) (h100 : la ≤ 100) (h100b : lb ≤ 100) :
    Calls Tryz.prog 37 #[.slice a la ca, .slice b lb cb] w fun e w' => BigEnd w' (vW xs * vW ys) e ∧ Below w.heap.size w w' := by
  by_cases h1 : 0 < la
  · by_cases h2 : 0 < lb
    · exact mul_pos xs ys a la ca b lb cb w hA hB h100 h100b h1 h2
    · have h0 : lb = 0 := by omega
      subst h0
      have hla0 : ((la : Int) == 0) = false := by simp; omega
      have HE := toHid (big_nil w (v := vW xs * vW ys) (by rw [List.length_eq_zero_iff.1 hB.1.symm]; simp [vW]))
      clear hA hB
      go_enter Tryz.func37, Tryz.ntmps37
      go_wp2_with fail
      go_ret
      exact ⟨HE.out, Below.refl _ _⟩
  · have h0 : la = 0 := by omega
    subst h0
    have HE := toHid (big_nil w (v := vW xs * vW ys) (by rw [List.length_eq_zero_iff.1 hA.1.symm]; simp [vW]))
    clear hA hB
    go_enter Tryz.func37, Tryz.ntmps37
    go_wp2_with fail
    go_ret
    exact ⟨HE.out, Below.refl _ _⟩

end Go.Proofs.YtekkifljcppmlaaGreatDoor
