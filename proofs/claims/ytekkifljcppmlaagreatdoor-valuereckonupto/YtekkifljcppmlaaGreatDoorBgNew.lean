/-
  What is proved here: what espalierbig's SetInt64, NewInt, Add and Sub answer: whole numbers, their sum and difference.
-/
import Derived.Test.YtekkifljcppmlaaGreatDoorBgSum
namespace Go.Proofs.YtekkifljcppmlaaGreatDoor
open Go.RowKit
set_option linter.unusedVariables false

/-- A number that was given. -/
theorem give_int {u1 u2 : World} {zb : Nat} {rn : Bool} {ra : Option Addr} {rl rc : Nat} {rs : List Nat} {z : Int} (g1 : WAt u1 rs ra rl) (g2 : rl ≤ rc) (g3 : rc ≤ 9223372036854775807) (g4 : ra = none → rc = 0) (g5 : Trimmed rs) (g6 : z = sgn rn (vW rs))
    (m1 : u2.heap[zb]? = some (.cells #[.bool (rn && decide (0 < rl)), .slice ra rl rc] 43 (0, 0))) (m2 : u2.heap.size = u1.heap.size) (m3 : ∀ j, j ≠ zb → u2.heap[j]? = u1.heap[j]?) (hne : ∀ b off, ra = some ⟨b, off, none⟩ → 0 < rl → b ≠ zb) : IntAt u2 zb z := by
  refine ⟨_, ra, rl, rc, rs, m1, ⟨g1.1, g1.2.1, g1.2.2.1, fun h0 => ?_⟩, g2, g3, g4, g5, ?_, fun h => ?_⟩
  · obtain ⟨b, off, ha, hb, hc⟩ := g1.2.2.2 h0
    exact ⟨b, off, ha, by omega, fun i x hx => (World.cell?_of_block (a := ⟨b, off + i, none⟩) (m3 b (hne b off ha h0))).trans (hc i x hx)⟩
  · rw [g6]
    unfold sgn
    cases rn with
    | false => simp
    | true =>
      by_cases h0 : 0 < rl
      · simp [h0]
      · have hr : rs = [] := List.length_eq_zero_iff.1 (by have := g1.1; omega)
        subst hr
        simp [vW]
  · cases rn with
    | false => simp at h
    | true => simpa using h

/-- Words lie in no block of two other cells. -/
theorem row_old {w u1 : World} {zb : Nat} {z0 : Bool} {v0 : Value} {rs : List Nat} {ra : Option Addr} {rl : Nat} (k1 : Below w.heap.size w u1) (hzb : zb < w.heap.size) (hz : w.heap[zb]? = some (.cells #[.bool z0, v0] 43 (0, 0))) (h2 : ∀ x : Nat, v0 ≠ .int .u32 (x : Int)) (g1 : WAt u1 rs ra rl) : ∀ b off, ra = some ⟨b, off, none⟩ → 0 < rl → b ≠ zb := by
  intro b off ha h0 e
  subst e
  obtain ⟨b', off', ha', hb, hc⟩ := g1.2.2.2 h0
  rw [ha] at ha'
  injection ha' with ha'
  injection ha' with e1 e2
  subst e1 e2
  obtain ⟨x, hx⟩ : ∃ x, rs[0]? = some x := ⟨rs[0]'(by have := g1.1; omega), List.getElem?_eq_getElem _⟩
  have h1 := hc 0 x hx
  have h3 := (k1.block b hzb).trans hz
  rw [cell_of h3] at h1
  match off, h1 with
  | 0, h1 => simp at h1
  | 1, h1 => simp at h1; exact h2 x h1
  | off + 2, h1 => simp at h1

set_option maxHeartbeats 4000000 in
theorem setInt64_any (ib : Nat) (n0 : Bool) (a0 : Option Addr) (l0 c0 : Nat) (x : Int) (w : World) (hb : w.heap[ib]? = some (.cells #[.bool n0, .slice a0 l0 c0] 43 (0, 0))) (hx : -9223372036854775808 ≤ x ∧ x ≤ 9223372036854775807) :
    Calls Tryz.prog 34 #[.pointer (some ⟨ib, 0, none⟩), .int .i64 x] w fun e w' => e = .returned (.pointer (some ⟨ib, 0, none⟩)) ∧ IntAt w' ib x ∧ Below ib w w' := by
  have hib : ib < w.heap.size := (Array.getElem?_eq_some_iff.1 hb).1
  obtain ⟨m, hm⟩ : ∃ m : Nat, (m : Int) = if x < 0 then -x else x := ⟨x.natAbs, by split <;> omega⟩
  have hm64 : m < 18446744073709551616 := by split at hm <;> omega
  have HWD : Hid (∀ W, Calls Tryz.prog 55 #[.int .u64 (m : Int)] W fun e w' => BigEnd w' m e ∧ Below W.heap.size W w') := fun W => words_any m W hm64
  have HBB := toHid hb
  have fin : Hid (∀ (neg : Bool) (w1 w2 : World) (ra : Option Addr) (rl rc : Nat) (rs : List Nat), x = sgn neg m → Below w.heap.size w w1 → WAt w1 rs ra rl → rl ≤ rc → rc ≤ 9223372036854775807 → (ra = none → rc = 0) → vW rs = m → Trimmed rs → w2.heap[ib]? = some (.cells #[.bool (neg && decide (0 < rl)), .slice ra rl rc] 43 (0, 0)) → w2.heap.size = w1.heap.size → (∀ j, j ≠ ib → w2.heap[j]? = w1.heap[j]?) → IntAt w2 ib x) := by
    intro neg w1 w2 ra rl rc rs hxs k1 g1 g2 g3 g4 gv g5 m1 m2 m3
    exact give_int g1 g2 g3 g4 g5 (by rw [gv]; exact hxs) m1 m2 m3 (row_old k1 hib HBB.out (fun y h => by cases h) g1)
  clear hb
  by_cases h0 : x < 0
  · have hw : IntKind.u64.wrap (-(IntKind.u64.wrap x)) = (m : Int) := by rw [if_pos h0] at hm; simp only [wrap64]; omega
    have HS := toHid (show x = sgn true m by rw [if_pos h0] at hm; unfold sgn; simp; omega)
    clear hm
    go_enter Tryz.func34, Tryz.ntmps34
    go_wp2_with fail
    refine (HWD.out _).mono ?_
    rintro e w1 ⟨⟨ra, rl, rc, rs, rfl, g1, g2, g3, g4, g5, g6⟩, k1⟩
    have HG := toHid (give_any ib n0 (.slice a0 l0 c0) true ra rl rc w1 ((k1.block ib hib).trans HBB.out) (by have := g1.2.1; omega))
    have HF := toHid (fun w2 => fin.out true w1 w2 ra rl rc rs HS.out k1 g1 g2 g3 g4 g5 g6)
    clear g1 g2 g3 g4 g5 g6
    go_wp2_with fail
    refine HG.out.mono ?_
    rintro e w2 ⟨rfl, m1, m2, m3, m4⟩
    have HI := toHid (HF.out w2 m1 m2 m3)
    have HB := toHid ((k1.mono (Nat.le_of_lt hib)).trans m4)
    clear m1 m2 m3 m4 HG HF
    go_wp2_with fail
    go_ret
    exact ⟨rfl, HI.out, HB.out⟩
  · have hw : IntKind.u64.wrap x = (m : Int) := by rw [if_neg h0] at hm; simp only [wrap64]; omega
    have HS := toHid (show x = sgn false m by rw [if_neg h0] at hm; unfold sgn; simp; omega)
    clear hm
    go_enter Tryz.func34, Tryz.ntmps34
    go_wp2_with fail
    refine (HWD.out _).mono ?_
    rintro e w1 ⟨⟨ra, rl, rc, rs, rfl, g1, g2, g3, g4, g5, g6⟩, k1⟩
    have HG := toHid (give_any ib n0 (.slice a0 l0 c0) false ra rl rc w1 ((k1.block ib hib).trans HBB.out) (by have := g1.2.1; omega))
    have HF := toHid (fun w2 => fin.out false w1 w2 ra rl rc rs HS.out k1 g1 g2 g3 g4 g5 g6)
    clear g1 g2 g3 g4 g5 g6
    go_wp2_with fail
    refine HG.out.mono ?_
    rintro e w2 ⟨rfl, m1, m2, m3, m4⟩
    have HI := toHid (HF.out w2 m1 m2 m3)
    have HB := toHid ((k1.mono (Nat.le_of_lt hib)).trans m4)
    clear m1 m2 m3 m4 HG HF
    go_wp2_with fail
    go_ret
    exact ⟨rfl, HI.out, HB.out⟩

theorem newInt_any (x : Int) (w : World) (hx : -9223372036854775808 ≤ x ∧ x ≤ 9223372036854775807) :
    Calls Tryz.prog 15 #[.int .i64 x] w fun e w' => e = .returned (.pointer (some ⟨w.heap.size, 0, none⟩)) ∧ IntAt w' w.heap.size x ∧ Below w.heap.size w w' := by
  have HS := toHid (setInt64_any w.heap.size false none 0 0 x (w.alloc (.cells #[.bool false, .slice none 0 0] 43)) (alloc_new _ _) hx)
  have HB := toHid ((Below.refl w.heap.size w).alloc (Nat.le_refl _) (.cells #[.bool false, .slice none 0 0] 43))
  go_enter Tryz.func15, Tryz.ntmps15
  go_wp2_with fail
  refine HS.out.mono ?_
  rintro e w1 ⟨rfl, h1, k1⟩
  have HI := toHid h1
  have HK := toHid (HB.out.trans k1)
  clear h1 k1
  go_wp2_with fail
  go_ret
  exact ⟨rfl, HI.out, HK.out⟩

set_option maxHeartbeats 8000000 in
set_option maxRecDepth 100000 in
theorem add_int (zb xb yb : Nat) (z0 : Bool) (v0 : Value) (x y : Int) (w : World) (hz : w.heap[zb]? = some (.cells #[.bool z0, v0] 43 (0, 0))) (hv0 : ∀ x : Nat, v0 ≠ .int .u32 (x : Int)) (hx : IntAt w xb x) (hy : IntAt w yb y) (hbx : -9223372036854775808 ≤ x ∧ x ≤ 9223372036854775807) (hby : -9223372036854775808 ≤ y ∧ y ≤ 9223372036854775807) (hxz : xb ≠ zb) (hyz : yb ≠ zb) :
    Calls Tryz.prog 16 #[.pointer (some ⟨zb, 0, none⟩), .pointer (some ⟨xb, 0, none⟩), .pointer (some ⟨yb, 0, none⟩)] w fun e w' => e = .returned (.pointer (some ⟨zb, 0, none⟩)) ∧ IntAt w' zb (x + y) ∧ Below zb w w' := by
  obtain ⟨xn, xa, xl, xc, xs, hxc, hxw, hx1, hx2, hx3, hxt, hxv, _⟩ := hx
  obtain ⟨yn, ya, yl, yc, ys, hyc, hyw, hy1, hy2, hy3, hyt, hyv, _⟩ := hy
  have hxl : xl ≤ 2 := by rw [hxw.1]; exact len_two hxt (by rw [hxv] at hbx; split at hbx <;> omega)
  have hyl : yl ≤ 2 := by rw [hyw.1]; exact len_two hyt (by rw [hyv] at hby; split at hby <;> omega)
  have HSUM : Hid (∀ W, Below w.heap.size w W → Calls Tryz.prog 36 #[.bool xn, .slice xa xl xc, .bool yn, .slice ya yl yc] W fun e w' => SumEnd w' (x + y) e ∧ Below W.heap.size W w') := fun W k => by
    have := sum_any xn yn xs ys xa xl xc ya yl yc W (hxw.below k) (hyw.below k) hxt hyt (by omega) (by omega)
    rw [show x + y = sgn xn (vW xs) + sgn yn (vW ys) by rw [hxv, hyv]; unfold sgn; cases xn <;> cases yn <;> simp <;> omega]
    exact this
  have p0 := cell_of hxc 0
  have p1 := cell_of hxc 1
  have q0 := cell_of hyc 0
  have q1 := cell_of hyc 1
  simp at p0 p1 q0 q1
  have hxb : xb < w.heap.size := (Array.getElem?_eq_some_iff.1 hxc).1
  have hyb : yb < w.heap.size := (Array.getElem?_eq_some_iff.1 hyc).1
  have hzb : zb < w.heap.size := (Array.getElem?_eq_some_iff.1 hz).1
  have HZC := toHid hz
  clear hxc hyc hxw hyw hx1 hx2 hx3 hy1 hy2 hy3 hxt hyt hxv hyv hz hbx hby
  obtain ⟨zz, hzz⟩ : ∃ zz, zz = x + y := ⟨_, rfl⟩
  rw [← hzz] at HSUM ⊢
  clear hzz
  have D0 : Below w.heap.size w w.drew := (Below.refl _ _).drew
  go_enter Tryz.func16, Tryz.ntmps16
  go_wp2_with fail
  go_region_held3 (fun w' => w'.cell? ⟨xb, 0, none⟩ = some (.bool xn) ∧ w'.cell? ⟨xb, 1, none⟩ = some (.slice xa xl xc) ∧ w'.cell? ⟨yb, 0, none⟩ = some (.bool yn) ∧ w'.cell? ⟨yb, 1, none⟩ = some (.slice ya yl yc))
    (first
      | exact S2
      | exact S1
      | exact ⟨p0, p1, q0, q1⟩
      | go_keep)
    (first
      | (go_at_call 36; refine (HSUM.out _ D0).mono ?_; rintro e u1 ⟨⟨rn, ra, rl, rc, rs, rfl, g1, g2, g3, g4, g5, g6⟩, h1⟩; have k1 : Below w.heap.size w u1 := D0.trans h1; have HG1 := toHid g1; have HG5 := toHid g5; have HG6 := toHid g6; have HG4 := toHid g4; have HG2 := toHid g2; have HG3 := toHid g3; clear g1 g2 g3 g4 g5 g6; have S1 : u1.cell? ⟨xb, 0, none⟩ = some (.bool xn) ∧ u1.cell? ⟨xb, 1, none⟩ = some (.slice xa xl xc) ∧ u1.cell? ⟨yb, 0, none⟩ = some (.bool yn) ∧ u1.cell? ⟨yb, 1, none⟩ = some (.slice ya yl yc) := ⟨(k1.cell (p := ⟨xb, 0, none⟩) hxb).trans p0, (k1.cell (p := ⟨xb, 1, none⟩) hxb).trans p1, (k1.cell (p := ⟨yb, 0, none⟩) hyb).trans q0, (k1.cell (p := ⟨yb, 1, none⟩) hyb).trans q1⟩)
      | (go_at_call 35; refine (give_any zb z0 v0 rn ra rl rc u1 ((k1.block zb hzb).trans HZC.out) (by have := HG1.out.2.1; omega)).mono ?_; rintro e u2 ⟨rfl, m1, m2, m3, m4⟩; have S2 : u2.cell? ⟨xb, 0, none⟩ = some (.bool xn) ∧ u2.cell? ⟨xb, 1, none⟩ = some (.slice xa xl xc) ∧ u2.cell? ⟨yb, 0, none⟩ = some (.bool yn) ∧ u2.cell? ⟨yb, 1, none⟩ = some (.slice ya yl yc) := ⟨(World.cell?_of_block (a := ⟨xb, 0, none⟩) (m3 xb hxz)).trans S1.1, (World.cell?_of_block (a := ⟨xb, 1, none⟩) (m3 xb hxz)).trans S1.2.1, (World.cell?_of_block (a := ⟨yb, 0, none⟩) (m3 yb hyz)).trans S1.2.2.1, (World.cell?_of_block (a := ⟨yb, 1, none⟩) (m3 yb hyz)).trans S1.2.2.2⟩))
  all_goals
    go_wp2_with fail
    go_ret
    refine ⟨rfl, give_int HG1.out HG2.out HG3.out HG4.out HG5.out HG6.out m1 m2 m3 ?_, (k1.mono (Nat.le_of_lt hzb)).trans m4⟩
    exact row_old k1 hzb HZC.out hv0 HG1.out

set_option maxHeartbeats 8000000 in
set_option maxRecDepth 100000 in
theorem sub_int (zb xb yb : Nat) (z0 : Bool) (v0 : Value) (x y : Int) (w : World) (hz : w.heap[zb]? = some (.cells #[.bool z0, v0] 43 (0, 0))) (hv0 : ∀ x : Nat, v0 ≠ .int .u32 (x : Int)) (hx : IntAt w xb x) (hy : IntAt w yb y) (hbx : -9223372036854775808 ≤ x ∧ x ≤ 9223372036854775807) (hby : -9223372036854775808 ≤ y ∧ y ≤ 9223372036854775807) (hxz : xb ≠ zb) (hyz : yb ≠ zb) :
    Calls Tryz.prog 17 #[.pointer (some ⟨zb, 0, none⟩), .pointer (some ⟨xb, 0, none⟩), .pointer (some ⟨yb, 0, none⟩)] w fun e w' => e = .returned (.pointer (some ⟨zb, 0, none⟩)) ∧ IntAt w' zb (x - y) ∧ Below zb w w' := by
  obtain ⟨xn, xa, xl, xc, xs, hxc, hxw, hx1, hx2, hx3, hxt, hxv, _⟩ := hx
  obtain ⟨yn, ya, yl, yc, ys, hyc, hyw, hy1, hy2, hy3, hyt, hyv, _⟩ := hy
  have hxl : xl ≤ 2 := by rw [hxw.1]; exact len_two hxt (by rw [hxv] at hbx; split at hbx <;> omega)
  have hyl : yl ≤ 2 := by rw [hyw.1]; exact len_two hyt (by rw [hyv] at hby; split at hby <;> omega)
  have HSUM : Hid (∀ W, Below w.heap.size w W → Calls Tryz.prog 36 #[.bool xn, .slice xa xl xc, .bool (!yn), .slice ya yl yc] W fun e w' => SumEnd w' (x - y) e ∧ Below W.heap.size W w') := fun W k => by
    have := sum_any xn (!yn) xs ys xa xl xc ya yl yc W (hxw.below k) (hyw.below k) hxt hyt (by omega) (by omega)
    rw [show x - y = sgn xn (vW xs) + sgn (!yn) (vW ys) by rw [hxv, hyv]; unfold sgn; cases xn <;> cases yn <;> simp <;> omega]
    exact this
  have p0 := cell_of hxc 0
  have p1 := cell_of hxc 1
  have q0 := cell_of hyc 0
  have q1 := cell_of hyc 1
  simp at p0 p1 q0 q1
  have hxb : xb < w.heap.size := (Array.getElem?_eq_some_iff.1 hxc).1
  have hyb : yb < w.heap.size := (Array.getElem?_eq_some_iff.1 hyc).1
  have hzb : zb < w.heap.size := (Array.getElem?_eq_some_iff.1 hz).1
  have HZC := toHid hz
  clear hxc hyc hxw hyw hx1 hx2 hx3 hy1 hy2 hy3 hxt hyt hxv hyv hz hbx hby
  obtain ⟨zz, hzz⟩ : ∃ zz, zz = x - y := ⟨_, rfl⟩
  rw [← hzz] at HSUM ⊢
  clear hzz
  have D0 : Below w.heap.size w w.drew := (Below.refl _ _).drew
  go_enter Tryz.func17, Tryz.ntmps17
  go_wp2_with fail
  go_region_held3 (fun w' => w'.cell? ⟨xb, 0, none⟩ = some (.bool xn) ∧ w'.cell? ⟨xb, 1, none⟩ = some (.slice xa xl xc) ∧ w'.cell? ⟨yb, 0, none⟩ = some (.bool yn) ∧ w'.cell? ⟨yb, 1, none⟩ = some (.slice ya yl yc))
    (first
      | exact S2
      | exact S1
      | exact ⟨p0, p1, q0, q1⟩
      | go_keep)
    (first
      | (go_at_call 36; refine (HSUM.out _ D0).mono ?_; rintro e u1 ⟨⟨rn, ra, rl, rc, rs, rfl, g1, g2, g3, g4, g5, g6⟩, h1⟩; have k1 : Below w.heap.size w u1 := D0.trans h1; have HG1 := toHid g1; have HG5 := toHid g5; have HG6 := toHid g6; have HG4 := toHid g4; have HG2 := toHid g2; have HG3 := toHid g3; clear g1 g2 g3 g4 g5 g6; have S1 : u1.cell? ⟨xb, 0, none⟩ = some (.bool xn) ∧ u1.cell? ⟨xb, 1, none⟩ = some (.slice xa xl xc) ∧ u1.cell? ⟨yb, 0, none⟩ = some (.bool yn) ∧ u1.cell? ⟨yb, 1, none⟩ = some (.slice ya yl yc) := ⟨(k1.cell (p := ⟨xb, 0, none⟩) hxb).trans p0, (k1.cell (p := ⟨xb, 1, none⟩) hxb).trans p1, (k1.cell (p := ⟨yb, 0, none⟩) hyb).trans q0, (k1.cell (p := ⟨yb, 1, none⟩) hyb).trans q1⟩)
      | (go_at_call 35; refine (give_any zb z0 v0 rn ra rl rc u1 ((k1.block zb hzb).trans HZC.out) (by have := HG1.out.2.1; omega)).mono ?_; rintro e u2 ⟨rfl, m1, m2, m3, m4⟩; have S2 : u2.cell? ⟨xb, 0, none⟩ = some (.bool xn) ∧ u2.cell? ⟨xb, 1, none⟩ = some (.slice xa xl xc) ∧ u2.cell? ⟨yb, 0, none⟩ = some (.bool yn) ∧ u2.cell? ⟨yb, 1, none⟩ = some (.slice ya yl yc) := ⟨(World.cell?_of_block (a := ⟨xb, 0, none⟩) (m3 xb hxz)).trans S1.1, (World.cell?_of_block (a := ⟨xb, 1, none⟩) (m3 xb hxz)).trans S1.2.1, (World.cell?_of_block (a := ⟨yb, 0, none⟩) (m3 yb hyz)).trans S1.2.2.1, (World.cell?_of_block (a := ⟨yb, 1, none⟩) (m3 yb hyz)).trans S1.2.2.2⟩))
  all_goals
    go_wp2_with fail
    go_ret
    refine ⟨rfl, give_int HG1.out HG2.out HG3.out HG4.out HG5.out HG6.out m1 m2 m3 ?_, (k1.mono (Nat.le_of_lt hzb)).trans m4⟩
    exact row_old k1 hzb HZC.out hv0 HG1.out

end Go.Proofs.YtekkifljcppmlaaGreatDoor
