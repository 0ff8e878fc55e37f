/-
  What is proved here: what espalierbig's Mul answers.
-/
import Derived.Test.YtekkifljcppmlaaGreatDoorBgMul
namespace Go.Proofs.YtekkifljcppmlaaGreatDoor
open Go.RowKit
set_option linter.unusedVariables false

set_option maxHeartbeats 8000000 in
set_option maxRecDepth 100000 in
theorem mul_int (zb xb yb : Nat) (z0 : Bool) (v0 : Value) (x y : Int) (w : World) (hz : w.heap[zb]? = some (.cells #[.bool z0, v0] 43 (0, 0))) (hv0 : ∀ x : Nat, v0 ≠ .int .u32 (x : Int)) (hx : IntAt w xb x) (hy : IntAt w yb y) (hbx : -9223372036854775808 ≤ x ∧ x ≤ 9223372036854775807) (hby : -9223372036854775808 ≤ y ∧ y ≤ 9223372036854775807) (hxz : xb ≠ zb) (hyz : yb ≠ zb) :
    Calls Tryz.prog 18 #[.pointer (some ⟨zb, 0, none⟩), .pointer (some ⟨xb, 0, none⟩), .pointer (some ⟨yb, 0, none⟩)] w fun e w' => e = .returned (.pointer (some ⟨zb, 0, none⟩)) ∧ IntAt w' zb (x * y) ∧ Below zb w w' := by
  obtain ⟨xn, xa, xl, xc, xs, hxc, hxw, hx1, hx2, hx3, hxt, hxv, _⟩ := hx
  obtain ⟨yn, ya, yl, yc, ys, hyc, hyw, hy1, hy2, hy3, hyt, hyv, _⟩ := hy
  have hxl : xl ≤ 2 := by rw [hxw.1]; exact len_two hxt (by rw [hxv] at hbx; split at hbx <;> omega)
  have hyl : yl ≤ 2 := by rw [hyw.1]; exact len_two hyt (by rw [hyv] at hby; split at hby <;> omega)
  have HSUM : Hid (∀ W, Below w.heap.size w W → Calls Tryz.prog 37 #[.slice xa xl xc, .slice ya yl yc] W fun e w' => BigEnd w' (vW xs * vW ys) e ∧ Below W.heap.size W w') := fun W k => mul_any xs ys xa xl xc ya yl yc W (hxw.below k) (hyw.below k) (by omega) (by omega)
  have HZV := toHid (show x * y = sgn (xn != yn) (vW xs * vW ys) by rw [hxv, hyv]; unfold sgn; cases xn <;> cases yn <;> simp [Int.neg_mul, Int.mul_neg])
  generalize vW xs * vW ys = pv at HSUM HZV
  have p0 := cell_of hxc 0
  have p1 := cell_of hxc 1
  have q0 := cell_of hyc 0
  have q1 := cell_of hyc 1
  simp at p0 p1 q0 q1
  have hxb : xb < w.heap.size := (Array.getElem?_eq_some_iff.1 hxc).1
  have hyb : yb < w.heap.size := (Array.getElem?_eq_some_iff.1 hyc).1
  have hzb : zb < w.heap.size := (Array.getElem?_eq_some_iff.1 hz).1
  have HZC := toHid hz
  clear hxc hyc hxw hyw hx1 hx2 hx3 hy1 hy2 hy3 hxt hyt hxv hyv hz hbx hby
  obtain ⟨zz, hzz⟩ : ∃ zz, zz = x * y := ⟨_, rfl⟩
  rw [← hzz] at HZV ⊢
  clear hzz
  have D0 : Below w.heap.size w w.drew := (Below.refl _ _).drew
  go_enter Tryz.func18, Tryz.ntmps18
  go_wp2_with fail
  go_region_held3 (fun w' => w'.cell? ⟨xb, 0, none⟩ = some (.bool xn) ∧ w'.cell? ⟨xb, 1, none⟩ = some (.slice xa xl xc) ∧ w'.cell? ⟨yb, 0, none⟩ = some (.bool yn) ∧ w'.cell? ⟨yb, 1, none⟩ = some (.slice ya yl yc))
    (first
      | exact S2
      | exact S1
      | exact ⟨p0, p1, q0, q1⟩
      | go_keep)
    (first
      | (go_at_call 37; refine (HSUM.out _ D0).mono ?_; rintro e u1 ⟨⟨ra, rl, rc, rs, rfl, g1, g2, g3, g4, gv, g5⟩, h1⟩; have g6 : zz = sgn (xn != yn) (vW rs) := (gv ▸ HZV.out); have k1 : Below w.heap.size w u1 := D0.trans h1; have HG1 := toHid g1; have HG5 := toHid g5; have HG6 := toHid g6; clear gv; have HG4 := toHid g4; have HG2 := toHid g2; have HG3 := toHid g3; clear g1 g2 g3 g4 g5 g6; have S1 : u1.cell? ⟨xb, 0, none⟩ = some (.bool xn) ∧ u1.cell? ⟨xb, 1, none⟩ = some (.slice xa xl xc) ∧ u1.cell? ⟨yb, 0, none⟩ = some (.bool yn) ∧ u1.cell? ⟨yb, 1, none⟩ = some (.slice ya yl yc) := ⟨(k1.cell (p := ⟨xb, 0, none⟩) hxb).trans p0, (k1.cell (p := ⟨xb, 1, none⟩) hxb).trans p1, (k1.cell (p := ⟨yb, 0, none⟩) hyb).trans q0, (k1.cell (p := ⟨yb, 1, none⟩) hyb).trans q1⟩)
      | (go_at_call 35; refine (give_any zb z0 v0 (xn != yn) ra rl rc u1 ((k1.block zb hzb).trans HZC.out) (by have := HG1.out.2.1; omega)).mono ?_; rintro e u2 ⟨rfl, m1, m2, m3, m4⟩; have S2 : u2.cell? ⟨xb, 0, none⟩ = some (.bool xn) ∧ u2.cell? ⟨xb, 1, none⟩ = some (.slice xa xl xc) ∧ u2.cell? ⟨yb, 0, none⟩ = some (.bool yn) ∧ u2.cell? ⟨yb, 1, none⟩ = some (.slice ya yl yc) := ⟨(World.cell?_of_block (a := ⟨xb, 0, none⟩) (m3 xb hxz)).trans S1.1, (World.cell?_of_block (a := ⟨xb, 1, none⟩) (m3 xb hxz)).trans S1.2.1, (World.cell?_of_block (a := ⟨yb, 0, none⟩) (m3 yb hyz)).trans S1.2.2.1, (World.cell?_of_block (a := ⟨yb, 1, none⟩) (m3 yb hyz)).trans S1.2.2.2⟩))
  all_goals
    go_wp2_with fail
    go_ret
    refine ⟨rfl, give_int HG1.out HG2.out HG3.out HG4.out HG5.out HG6.out m1 m2 m3 ?_, (k1.mono (Nat.le_of_lt hzb)).trans m4⟩
    exact row_old k1 hzb HZC.out hv0 HG1.out

end Go.Proofs.YtekkifljcppmlaaGreatDoor
