/-
  What is proved here: the row of txn's do that puts what numbers mean in their place, walked in whatever order its operations come up.
-/
import Derived.Test.YtebbjmjgojekdaaGreatDoorQCBC
import Derived.Test.YtebbjmjgojekdaaGreatDoorHInv
import Derived.Laws.EntriesVeiled
import Derived.Deep.RegionHeld3
namespace Go.Proofs.YtebbjmjgojekdaaGreatDoor
open Go.RowKit
set_option linter.unusedVariables false

theorem meant_in (O : Nat → Prop) (b : Nat) (S : WS) (id : Int) (w : World) (h : WorkIn O w b S) (hid : -9223372036854775808 ≤ id) (hml : S.made.length ≤ 1000) :
    Calls Tryz.prog 78 #[.pointer (some ⟨b, 0, none⟩), .int .i64 id] w fun e w' => e = .returned (.int .i64 (meantI S.made id)) ∧ w' = w := by
  by_cases h0 : 0 ≤ id
  · exact meant_pos b S.made id w h0
  · obtain ⟨na, nc, ea, ec, ma, mc, PN, PE, PM, hw⟩ := h
    exact meant_neg b _ _ _ ma mc S.made id w hw.blk hw.mr (by omega) hid hml

theorem ActEnd.behind {O : Nat → Prop} {w w1 w2 : World} {b : Nat} {S S' : WS} {er : Int} {e : Ending} (h : WorkIn O w b S) (k1 : Below w.heap.size w w1) (k : ActEnd O w1 w2 b S' er e) : ActEnd O w w2 b S' er e :=
  ⟨k.1, (Rest.of_below k1).trans k.2.1 (fun _ _ q => q), fun q => StepEnd.behind h k1 (k.2.2 q)⟩

theorem getD_un {d : Array Bool} {i : Nat} (h : d.getD i true = false) : d.getD i false = false := by
  rcases Nat.lt_or_ge i d.size with h' | h'
  · simp [h'] at h ⊢
    exact h
  · simp [Array.getElem?_eq_none h'] at h

theorem getD_new {d : Array Bool} {i : Nat} (h : i < d.size) : (d.setIfInBounds i true).getD i false = true := by simp [h]

/-- The frame while that row's operations come up. -/
def doAct (b q : Nat) (A1 A4 A5 A6 A7 A8 A9 A10 A11 A12 A13 A14 f15 f16 f17 f18 f19 f20 f21 f22 f23 f24 f25 f26 f27 f28 f29 : Value) : Act := ⟨#[.pointer (some ⟨b, 0, none⟩), A1, undef, .pointer (some ⟨q, 0, none⟩), A4, A5, A6, A7, A8, A9, A10, A11, A12, A13, A14, f15, f16, f17, f18, f19, f20, f21, f22, f23, f24, f25, f26, f27, f28, f29, undef, undef, undef, undef, undef, undef, undef], []⟩

/-- The world, by which of the three stores have come up. -/
def st (W : World) (q : Nat) (v1 v2 v3 : Value) (b1 b2 b3 : Bool) : World :=
  if b3 then ((W.setCell ⟨q, 1, none⟩ v1).setCell ⟨q, 2, none⟩ v2).setCell ⟨q, 3, none⟩ v3 else if b2 then (W.setCell ⟨q, 1, none⟩ v1).setCell ⟨q, 2, none⟩ v2 else if b1 then W.setCell ⟨q, 1, none⟩ v1 else W

theorem st_below {w W : World} {q : Nat} (k : Below w.heap.size w W) (hq : w.heap.size ≤ q) (v1 v2 v3 : Value) (b1 b2 b3 : Bool) : Below w.heap.size w (st W q v1 v2 v3 b1 b2 b3) := by
  unfold st
  split
  · exact ((k.setCell (p := ⟨q, 1, none⟩) hq _).setCell (p := ⟨q, 2, none⟩) hq _).setCell (p := ⟨q, 3, none⟩) hq _
  · split
    · exact (k.setCell (p := ⟨q, 1, none⟩) hq _).setCell (p := ⟨q, 2, none⟩) hq _
    · split
      · exact k.setCell (p := ⟨q, 1, none⟩) hq _
      · exact k

def DoInv (b q : Nat) (A1 A4 A5 A6 A7 A8 A9 A10 A11 A12 A13 A14 : Value) (id frm dst i2 f2 d2 : Int) (W : World) (d : Array Bool) (a : Act) (u : World) : Prop :=
  ∃ (f15 f16 f17 f18 f19 f20 f21 f22 f23 f24 f25 f26 f27 f28 f29 : Value), a = doAct b q A1 A4 A5 A6 A7 A8 A9 A10 A11 A12 A13 A14 f15 f16 f17 f18 f19 f20 f21 f22 f23 f24 f25 f26 f27 f28 f29 ∧ d.size = 18 ∧ u = st W q (.int .i64 i2) (.int .i64 f2) (.int .i64 d2) (d.getD 13 false) (d.getD 15 false) (d.getD 17 false) ∧
    (d.getD 0 false = true → f15 = .pointer (some ⟨b, 0, none⟩)) ∧ (d.getD 1 false = true → f16 = .pointer (some ⟨q, 1, none⟩)) ∧ (d.getD 2 false = true → f17 = .int .i64 id) ∧ (d.getD 3 false = true → f18 = .int .i64 i2) ∧ (d.getD 4 false = true → f19 = .pointer (some ⟨b, 0, none⟩)) ∧ (d.getD 5 false = true → f20 = .pointer (some ⟨q, 2, none⟩)) ∧ (d.getD 6 false = true → f21 = .int .i64 frm) ∧ (d.getD 7 false = true → f22 = .int .i64 f2) ∧ (d.getD 8 false = true → f23 = .pointer (some ⟨b, 0, none⟩)) ∧ (d.getD 9 false = true → f24 = .pointer (some ⟨q, 3, none⟩)) ∧ (d.getD 10 false = true → f25 = .int .i64 dst) ∧ (d.getD 11 false = true → f26 = .int .i64 d2) ∧ (d.getD 12 false = true → f27 = .pointer (some ⟨q, 1, none⟩)) ∧ (d.getD 14 false = true → f28 = .pointer (some ⟨q, 2, none⟩)) ∧ (d.getD 16 false = true → f29 = .pointer (some ⟨q, 3, none⟩)) ∧ (d.getD 13 false = true → d.getD 2 false = true ∧ d.getD 6 false = true ∧ d.getD 10 false = true) ∧ (d.getD 15 false = true → d.getD 13 false = true) ∧ (d.getD 17 false = true → d.getD 15 false = true)

set_option maxHeartbeats 8000000 in
set_option maxRecDepth 100000 in
theorem do_of (kk : Int) (F : Nat) (hF : (kk = 1 ∧ F = 71) ∨ (kk = 2 ∧ F = 72) ∨ (kk = 3 ∧ F = 73) ∨ (kk = 4 ∧ F = 74) ∨ (kk = 5 ∧ F = 75) ∨ (kk = 6 ∧ F = 76) ∨ (kk = 7 ∧ F = 77)) (O : Nat → Prop) (b : Nat) (S S' : WS) (id frm dst : Int) (name : ByteArray) (vk vn : Int) (vs : ByteArray) (va : Option Addr) (vl vc : Nat) (la : Option Addr) (ll lc : Nat) (pa : Option Addr) (pl pc : Nat) (er : Int) (w : World)
    (hW : WorkIn O w b S) (hml : S.made.length ≤ 1000) (hid : -9223372036854775808 ≤ id) (hfr : -9223372036854775808 ≤ frm) (hds : -9223372036854775808 ≤ dst)
    (hA : ∀ W, Below w.heap.size w W → Calls Tryz.prog F #[.pointer (some ⟨b, 0, none⟩), .agg #[.int .i64 kk, .int .i64 (meantI S.made id), .int .i64 (meantI S.made frm), .int .i64 (meantI S.made dst), .string name, .int .i64 vk, .int .i64 vn, .string vs, .slice va vl vc, .slice la ll lc, .slice pa pl pc]] W fun e w' => ActEnd O W w' b S' er e) :
    Calls Tryz.prog 43 #[.pointer (some ⟨b, 0, none⟩), .agg #[.int .i64 kk, .int .i64 id, .int .i64 frm, .int .i64 dst, .string name, .int .i64 vk, .int .i64 vn, .string vs, .slice va vl vc, .slice la ll lc, .slice pa pl pc]] w fun e w' => ActEnd O w w' b S' er e := by
  have hk1 : ¬ kk < 1 := by omega
  have hk8 : ¬ (8 ≤ kk) := by omega
  have HF := toHid hF
  clear hF
  obtain ⟨i2, hi2⟩ : ∃ z, z = meantI S.made id := ⟨_, rfl⟩
  obtain ⟨f2, hf2⟩ : ∃ z, z = meantI S.made frm := ⟨_, rfl⟩
  obtain ⟨d2, hd2⟩ : ∃ z, z = meantI S.made dst := ⟨_, rfl⟩
  have HM : Hid (∀ W, Below w.heap.size w W → (Calls Tryz.prog 78 #[.pointer (some ⟨b, 0, none⟩), .int .i64 id] W fun e w' => e = .returned (.int .i64 i2) ∧ w' = W) ∧ (Calls Tryz.prog 78 #[.pointer (some ⟨b, 0, none⟩), .int .i64 frm] W fun e w' => e = .returned (.int .i64 f2) ∧ w' = W) ∧ (Calls Tryz.prog 78 #[.pointer (some ⟨b, 0, none⟩), .int .i64 dst] W fun e w' => e = .returned (.int .i64 d2) ∧ w' = W)) := fun W kW => by
    rw [hi2, hf2, hd2]
    exact ⟨meant_in O b S id W (hW.below kW) hid hml, meant_in O b S frm W (hW.below kW) hfr hml, meant_in O b S dst W (hW.below kW) hds hml⟩
  rw [← hi2, ← hf2, ← hd2] at hA
  have HA := toHid hA
  have HW := toHid hW
  clear hA hW hi2 hf2 hd2
  have b0 : Below w.heap.size w ((w.alloc (.cells #[.int .i64 kk, .int .i64 id, .int .i64 frm, .int .i64 dst, .string name, .int .i64 vk, .int .i64 vn, .string vs, .slice va vl vc, .slice la ll lc, .slice pa pl pc] 68)).alloc (.cells #[.nilFunc, .func (.func 71) #[] #[], .func (.func 72) #[] #[], .func (.func 73) #[] #[], .func (.func 74) #[] #[], .func (.func 75) #[] #[], .func (.func 76) #[] #[], .func (.func 77) #[] #[]] 139)) := ((Below.refl _ _).alloc (Nat.le_refl _) _).alloc (by simp) _
  have hx := (Below.heap_alloc (w.alloc (.cells #[.int .i64 kk, .int .i64 id, .int .i64 frm, .int .i64 dst, .string name, .int .i64 vk, .int .i64 vn, .string vs, .slice va vl vc, .slice la ll lc, .slice pa pl pc] 68)) (.cells #[.nilFunc, .func (.func 71) #[] #[], .func (.func 72) #[] #[], .func (.func 73) #[] #[], .func (.func 74) #[] #[], .func (.func 75) #[] #[], .func (.func 76) #[] #[], .func (.func 77) #[] #[]] 139) w.heap.size (by simp)).trans (alloc_new w (.cells #[.int .i64 kk, .int .i64 id, .int .i64 frm, .int .i64 dst, .string name, .int .i64 vk, .int .i64 vn, .string vs, .slice va vl vc, .slice la ll lc, .slice pa pl pc] 68))
  have hy := alloc_two w (.cells #[.int .i64 kk, .int .i64 id, .int .i64 frm, .int .i64 dst, .string name, .int .i64 vk, .int .i64 vn, .string vs, .slice va vl vc, .slice la ll lc, .slice pa pl pc] 68) (.cells #[.nilFunc, .func (.func 71) #[] #[], .func (.func 72) #[] #[], .func (.func 73) #[] #[], .func (.func 74) #[] #[], .func (.func 75) #[] #[], .func (.func 76) #[] #[], .func (.func 77) #[] #[]] 139)
  have z0 : ((w.alloc (.cells #[.int .i64 kk, .int .i64 id, .int .i64 frm, .int .i64 dst, .string name, .int .i64 vk, .int .i64 vn, .string vs, .slice va vl vc, .slice la ll lc, .slice pa pl pc] 68)).alloc (.cells #[.nilFunc, .func (.func 71) #[] #[], .func (.func 72) #[] #[], .func (.func 73) #[] #[], .func (.func 74) #[] #[], .func (.func 75) #[] #[], .func (.func 76) #[] #[], .func (.func 77) #[] #[]] 139)).heap.size = w.heap.size + 2 := by simp
  have HB := toHid b0
  have HX := toHid hx
  have HY := toHid hy
  have HZ := toHid z0
  clear b0 hx hy z0
  go_enter Tryz.func43, Tryz.ntmps43
  go_upto_region 4 with fail
  generalize (w.alloc (.cells #[.int .i64 kk, .int .i64 id, .int .i64 frm, .int .i64 dst, .string name, .int .i64 vk, .int .i64 vn, .string vs, .slice va vl vc, .slice la ll lc, .slice pa pl pc] 68)).alloc (.cells #[.nilFunc, .func (.func 71) #[] #[], .func (.func 72) #[] #[], .func (.func 73) #[] #[], .func (.func 74) #[] #[], .func (.func 75) #[] #[], .func (.func 76) #[] #[], .func (.func 77) #[] #[]] 139) = W at HB HX HY HZ ⊢
  have s0 : w.heap.size < W.heap.size := by rw [HZ.out]; omega
  have x1 := cell_of HX.out 1
  have x2 := cell_of HX.out 2
  have x3 := cell_of HX.out 3
  have y1 := free_of HX.out 1
  have y2 := free_of HX.out 2
  have y3 := free_of HX.out 3
  simp at x1 x2 x3
  have D0 : Below w.heap.size w W.drew := HB.out.drew
  go_cut [] (fun wx => wx.heap[w.heap.size]? = some (.cells #[.int .i64 kk, .int .i64 i2, .int .i64 f2, .int .i64 d2, .string name, .int .i64 vk, .int .i64 vn, .string vs, .slice va vl vc, .slice la ll lc, .slice pa pl pc] 68 (0, 0)) ∧ wx.heap[w.heap.size + 1]? = some (.cells #[.nilFunc, .func (.func 71) #[] #[], .func (.func 72) #[] #[], .func (.func 73) #[] #[], .func (.func 74) #[] #[], .func (.func 75) #[] #[], .func (.func 76) #[] #[], .func (.func 77) #[] #[]] 139 (0, 0)) ∧ Below w.heap.size w wx)
  case first =>
    refine wp_region_any (by kernel_rfl) ?_
    refine wpAny_inv (DoInv b w.heap.size (.agg #[.int .i64 kk, .int .i64 id, .int .i64 frm, .int .i64 dst, .string name, .int .i64 vk, .int .i64 vn, .string vs, .slice va vl vc, .slice la ll lc, .slice pa pl pc]) (.int .i64 0) (.pointer (some ⟨w.heap.size + 1, 0, none⟩)) (.agg #[.nilFunc, .func (.func 71) #[] #[], .func (.func 72) #[] #[], .func (.func 73) #[] #[], .func (.func 74) #[] #[], .func (.func 75) #[] #[], .func (.func 76) #[] #[], .func (.func 77) #[] #[]]) (.pointer (some ⟨w.heap.size, 0, none⟩)) (.int .i64 kk) (.bool false) (.bool false) (.pointer (some ⟨w.heap.size, 0, none⟩)) (.int .i64 kk) (.bool false) (.bool false) id frm dst i2 f2 d2 W.drew) ?step ?fin (ready_all (by kernel_rfl)) _ _ _ _ (Nat.le_of_eq (by kernel_rfl)) ?beg
    case beg =>
      refine ⟨undef, undef, undef, undef, undef, undef, undef, undef, undef, undef, undef, undef, undef, undef, undef, rfl, rfl, rfl, ?_⟩
      simp
    case fin =>
      intro d act u hI hall
      obtain ⟨f15, f16, f17, f18, f19, f20, f21, f22, f23, f24, f25, f26, f27, f28, f29, rfl, hsz, rfl, g0, g1, g2, g3, g4, g5, g6, g7, g8, g9, g10, g11, g12, g14, g16, w3, w15, w17⟩ := hI
      have fl : ∀ j, j < 18 → d.getD j false = true := fun j hj => by
        have h1 := hall j hj
        have h2 : j < d.size := by omega
        simp [h2] at h1 ⊢
        exact h1
      rw [fl 13 (by decide), fl 15 (by decide), fl 17 (by decide)]
      clear g0 g1 g2 g3 g4 g5 g6 g7 g8 g9 g10 g11 g12 g14 g16 w3 w15 w17 hall fl hsz
      unfold doAct st
      go_wp2_with fail
      go_meet
      exact ⟨putL_here [.int .i64 i2, .int .i64 f2, .int .i64 d2] 1 W _ HX.out, (putL_other _ [.int .i64 i2, .int .i64 f2, .int .i64 d2] 1 W (w.heap.size + 1) (by omega)).trans HY.out, (HB.out.trans (putL_bel w.heap.size [.int .i64 i2, .int .i64 f2, .int .i64 d2] 1 W)).drew⟩
    case step =>
      intro d act u hI i o ho hun hall
      obtain ⟨f15, f16, f17, f18, f19, f20, f21, f22, f23, f24, f25, f26, f27, f28, f29, rfl, hsz, rfl, g0, g1, g2, g3, g4, g5, g6, g7, g8, g9, g10, g11, g12, g14, g16, w3, w15, w17⟩ := hI
      have hi : i < 18 := (Array.getElem?_eq_some_iff.1 ho).1
      have hcases : i = 0 ∨ i = 1 ∨ i = 2 ∨ i = 3 ∨ i = 4 ∨ i = 5 ∨ i = 6 ∨ i = 7 ∨ i = 8 ∨ i = 9 ∨ i = 10 ∨ i = 11 ∨ i = 12 ∨ i = 13 ∨ i = 14 ∨ i = 15 ∨ i = 16 ∨ i = 17 := by omega
      rcases hcases with rfl | rfl | rfl | rfl | rfl | rfl | rfl | rfl | rfl | rfl | rfl | rfl | rfl | rfl | rfl | rfl | rfl | rfl
      all_goals
        refine wpOp_plain ho (by obtain rfl := Option.some.inj ho; rfl) (fun K' hK => ?_)
        obtain rfl := Option.some.inj ho
        clear ho
        simp only [List.getElem_toArray, List.getElem_cons_zero, List.getElem_cons_succ] at hall ⊢
        unfold doAct
      · generalize hu : st W.drew w.heap.size (.int .i64 i2) (.int .i64 f2) (.int .i64 d2) (d.getD 13 false) (d.getD 15 false) (d.getD 17 false) = u at ⊢
        have hlt : 0 < d.size := by omega
        have kf : ∀ j, 0 ≠ j → (d.setIfInBounds 0 true).getD j false = d.getD j false := fun j hj => getD_set_ne false hj
        go_simp
        refine hK _ _ ⟨(.pointer (some ⟨b, 0, none⟩)), f16, f17, f18, f19, f20, f21, f22, f23, f24, f25, f26, f27, f28, f29, rfl, by simp [hsz], by rw [kf 13 (by decide), kf 15 (by decide), kf 17 (by decide)]; exact hu.symm, ?_⟩
        simp only [kf 1 (by decide), kf 2 (by decide), kf 3 (by decide), kf 4 (by decide), kf 5 (by decide), kf 6 (by decide), kf 7 (by decide), kf 8 (by decide), kf 9 (by decide), kf 10 (by decide), kf 11 (by decide), kf 12 (by decide), kf 13 (by decide), kf 14 (by decide), kf 15 (by decide), kf 16 (by decide), kf 17 (by decide)]
        exact ⟨fun _ => trivial, g1, g2, g3, g4, g5, g6, g7, g8, g9, g10, g11, g12, g14, g16, w3, w15, w17⟩
      · generalize hu : st W.drew w.heap.size (.int .i64 i2) (.int .i64 f2) (.int .i64 d2) (d.getD 13 false) (d.getD 15 false) (d.getD 17 false) = u at ⊢
        have hlt : 1 < d.size := by omega
        have kf : ∀ j, 1 ≠ j → (d.setIfInBounds 1 true).getD j false = d.getD j false := fun j hj => getD_set_ne false hj
        go_simp
        refine hK _ _ ⟨f15, (.pointer (some ⟨w.heap.size, 1, none⟩)), f17, f18, f19, f20, f21, f22, f23, f24, f25, f26, f27, f28, f29, rfl, by simp [hsz], by rw [kf 13 (by decide), kf 15 (by decide), kf 17 (by decide)]; exact hu.symm, ?_⟩
        simp only [kf 0 (by decide), kf 2 (by decide), kf 3 (by decide), kf 4 (by decide), kf 5 (by decide), kf 6 (by decide), kf 7 (by decide), kf 8 (by decide), kf 9 (by decide), kf 10 (by decide), kf 11 (by decide), kf 12 (by decide), kf 13 (by decide), kf 14 (by decide), kf 15 (by decide), kf 16 (by decide), kf 17 (by decide)]
        exact ⟨g0, fun _ => trivial, g2, g3, g4, g5, g6, g7, g8, g9, g10, g11, g12, g14, g16, w3, w15, w17⟩
      · have e1 := g1 (hall { on := 1, ground := .data } (by simp) rfl)
        subst e1
        have n13 : d.getD 13 false = false := by
          cases h : d.getD 13 false with
          | false => rfl
          | true => rw [getD_un hun] at w3; simp [h] at w3
        have n15 : d.getD 15 false = false := by
          cases h : d.getD 15 false with
          | false => rfl
          | true => rw [w15 h] at n13; cases n13
        have n17 : d.getD 17 false = false := by
          cases h : d.getD 17 false with
          | false => rfl
          | true => rw [w17 h] at n15; cases n15
        have hu : st W.drew w.heap.size (.int .i64 i2) (.int .i64 f2) (.int .i64 d2) (d.getD 13 false) (d.getD 15 false) (d.getD 17 false) = W.drew := by rw [n13, n15, n17]; rfl
        rw [hu]
        have hlt : 2 < d.size := by omega
        have kf : ∀ j, 2 ≠ j → (d.setIfInBounds 2 true).getD j false = d.getD j false := fun j hj => getD_set_ne false hj
        go_simp
        refine hK _ _ ⟨f15, (.pointer (some ⟨w.heap.size, 1, none⟩)), (.int .i64 id), f18, f19, f20, f21, f22, f23, f24, f25, f26, f27, f28, f29, rfl, by simp [hsz], by rw [kf 13 (by decide), kf 15 (by decide), kf 17 (by decide), n13, n15, n17]; rfl, ?_⟩
        simp only [kf 0 (by decide), kf 1 (by decide), kf 3 (by decide), kf 4 (by decide), kf 5 (by decide), kf 6 (by decide), kf 7 (by decide), kf 8 (by decide), kf 9 (by decide), kf 10 (by decide), kf 11 (by decide), kf 12 (by decide), kf 13 (by decide), kf 14 (by decide), kf 15 (by decide), kf 16 (by decide), kf 17 (by decide)]
        exact ⟨g0, fun _ => trivial, fun _ => trivial, g3, g4, g5, g6, g7, g8, g9, g10, g11, g12, g14, g16, fun h => absurd h (by rw [n13]; decide), w15, w17⟩
      · have e0 := g0 (hall { on := 0, ground := .data } (by simp) rfl)
        subst e0
        have e2 := g2 (hall { on := 2, ground := .data } (by simp) rfl)
        subst e2
        have hb := st_below D0 (Nat.le_refl _) (.int .i64 i2) (.int .i64 f2) (.int .i64 d2) (d.getD 13 false) (d.getD 15 false) (d.getD 17 false)
        generalize hu : st W.drew w.heap.size (.int .i64 i2) (.int .i64 f2) (.int .i64 d2) (d.getD 13 false) (d.getD 15 false) (d.getD 17 false) = u at hb ⊢
        have hlt : 3 < d.size := by omega
        have kf : ∀ j, 3 ≠ j → (d.setIfInBounds 3 true).getD j false = d.getD j false := fun j hj => getD_set_ne false hj
        go_simp
        refine (HM.out _ hb).1.mono ?_
        rintro e u' ⟨rfl, rfl⟩
        refine hK _ _ ⟨(.pointer (some ⟨b, 0, none⟩)), f16, (.int .i64 id), (.int .i64 i2), f19, f20, f21, f22, f23, f24, f25, f26, f27, f28, f29, rfl, by simp [hsz], by rw [kf 13 (by decide), kf 15 (by decide), kf 17 (by decide)]; exact hu.symm, ?_⟩
        simp only [kf 0 (by decide), kf 1 (by decide), kf 2 (by decide), kf 4 (by decide), kf 5 (by decide), kf 6 (by decide), kf 7 (by decide), kf 8 (by decide), kf 9 (by decide), kf 10 (by decide), kf 11 (by decide), kf 12 (by decide), kf 13 (by decide), kf 14 (by decide), kf 15 (by decide), kf 16 (by decide), kf 17 (by decide)]
        exact ⟨fun _ => trivial, g1, fun _ => trivial, fun _ => trivial, g4, g5, g6, g7, g8, g9, g10, g11, g12, g14, g16, w3, w15, w17⟩
      · generalize hu : st W.drew w.heap.size (.int .i64 i2) (.int .i64 f2) (.int .i64 d2) (d.getD 13 false) (d.getD 15 false) (d.getD 17 false) = u at ⊢
        have hlt : 4 < d.size := by omega
        have kf : ∀ j, 4 ≠ j → (d.setIfInBounds 4 true).getD j false = d.getD j false := fun j hj => getD_set_ne false hj
        go_simp
        refine hK _ _ ⟨f15, f16, f17, f18, (.pointer (some ⟨b, 0, none⟩)), f20, f21, f22, f23, f24, f25, f26, f27, f28, f29, rfl, by simp [hsz], by rw [kf 13 (by decide), kf 15 (by decide), kf 17 (by decide)]; exact hu.symm, ?_⟩
        simp only [kf 0 (by decide), kf 1 (by decide), kf 2 (by decide), kf 3 (by decide), kf 5 (by decide), kf 6 (by decide), kf 7 (by decide), kf 8 (by decide), kf 9 (by decide), kf 10 (by decide), kf 11 (by decide), kf 12 (by decide), kf 13 (by decide), kf 14 (by decide), kf 15 (by decide), kf 16 (by decide), kf 17 (by decide)]
        exact ⟨g0, g1, g2, g3, fun _ => trivial, g5, g6, g7, g8, g9, g10, g11, g12, g14, g16, w3, w15, w17⟩
      · generalize hu : st W.drew w.heap.size (.int .i64 i2) (.int .i64 f2) (.int .i64 d2) (d.getD 13 false) (d.getD 15 false) (d.getD 17 false) = u at ⊢
        have hlt : 5 < d.size := by omega
        have kf : ∀ j, 5 ≠ j → (d.setIfInBounds 5 true).getD j false = d.getD j false := fun j hj => getD_set_ne false hj
        go_simp
        refine hK _ _ ⟨f15, f16, f17, f18, f19, (.pointer (some ⟨w.heap.size, 2, none⟩)), f21, f22, f23, f24, f25, f26, f27, f28, f29, rfl, by simp [hsz], by rw [kf 13 (by decide), kf 15 (by decide), kf 17 (by decide)]; exact hu.symm, ?_⟩
        simp only [kf 0 (by decide), kf 1 (by decide), kf 2 (by decide), kf 3 (by decide), kf 4 (by decide), kf 6 (by decide), kf 7 (by decide), kf 8 (by decide), kf 9 (by decide), kf 10 (by decide), kf 11 (by decide), kf 12 (by decide), kf 13 (by decide), kf 14 (by decide), kf 15 (by decide), kf 16 (by decide), kf 17 (by decide)]
        exact ⟨g0, g1, g2, g3, g4, fun _ => trivial, g6, g7, g8, g9, g10, g11, g12, g14, g16, w3, w15, w17⟩
      · have e5 := g5 (hall { on := 5, ground := .data } (by simp) rfl)
        subst e5
        have n13 : d.getD 13 false = false := by
          cases h : d.getD 13 false with
          | false => rfl
          | true => rw [getD_un hun] at w3; simp [h] at w3
        have n15 : d.getD 15 false = false := by
          cases h : d.getD 15 false with
          | false => rfl
          | true => rw [w15 h] at n13; cases n13
        have n17 : d.getD 17 false = false := by
          cases h : d.getD 17 false with
          | false => rfl
          | true => rw [w17 h] at n15; cases n15
        have hu : st W.drew w.heap.size (.int .i64 i2) (.int .i64 f2) (.int .i64 d2) (d.getD 13 false) (d.getD 15 false) (d.getD 17 false) = W.drew := by rw [n13, n15, n17]; rfl
        rw [hu]
        have hlt : 6 < d.size := by omega
        have kf : ∀ j, 6 ≠ j → (d.setIfInBounds 6 true).getD j false = d.getD j false := fun j hj => getD_set_ne false hj
        go_simp
        refine hK _ _ ⟨f15, f16, f17, f18, f19, (.pointer (some ⟨w.heap.size, 2, none⟩)), (.int .i64 frm), f22, f23, f24, f25, f26, f27, f28, f29, rfl, by simp [hsz], by rw [kf 13 (by decide), kf 15 (by decide), kf 17 (by decide), n13, n15, n17]; rfl, ?_⟩
        simp only [kf 0 (by decide), kf 1 (by decide), kf 2 (by decide), kf 3 (by decide), kf 4 (by decide), kf 5 (by decide), kf 7 (by decide), kf 8 (by decide), kf 9 (by decide), kf 10 (by decide), kf 11 (by decide), kf 12 (by decide), kf 13 (by decide), kf 14 (by decide), kf 15 (by decide), kf 16 (by decide), kf 17 (by decide)]
        exact ⟨g0, g1, g2, g3, g4, fun _ => trivial, fun _ => trivial, g7, g8, g9, g10, g11, g12, g14, g16, fun h => absurd h (by rw [n13]; decide), w15, w17⟩
      · have e4 := g4 (hall { on := 4, ground := .data } (by simp) rfl)
        subst e4
        have e6 := g6 (hall { on := 6, ground := .data } (by simp) rfl)
        subst e6
        have hb := st_below D0 (Nat.le_refl _) (.int .i64 i2) (.int .i64 f2) (.int .i64 d2) (d.getD 13 false) (d.getD 15 false) (d.getD 17 false)
        generalize hu : st W.drew w.heap.size (.int .i64 i2) (.int .i64 f2) (.int .i64 d2) (d.getD 13 false) (d.getD 15 false) (d.getD 17 false) = u at hb ⊢
        have hlt : 7 < d.size := by omega
        have kf : ∀ j, 7 ≠ j → (d.setIfInBounds 7 true).getD j false = d.getD j false := fun j hj => getD_set_ne false hj
        go_simp
        refine (HM.out _ hb).2.1.mono ?_
        rintro e u' ⟨rfl, rfl⟩
        refine hK _ _ ⟨f15, f16, f17, f18, (.pointer (some ⟨b, 0, none⟩)), f20, (.int .i64 frm), (.int .i64 f2), f23, f24, f25, f26, f27, f28, f29, rfl, by simp [hsz], by rw [kf 13 (by decide), kf 15 (by decide), kf 17 (by decide)]; exact hu.symm, ?_⟩
        simp only [kf 0 (by decide), kf 1 (by decide), kf 2 (by decide), kf 3 (by decide), kf 4 (by decide), kf 5 (by decide), kf 6 (by decide), kf 8 (by decide), kf 9 (by decide), kf 10 (by decide), kf 11 (by decide), kf 12 (by decide), kf 13 (by decide), kf 14 (by decide), kf 15 (by decide), kf 16 (by decide), kf 17 (by decide)]
        exact ⟨g0, g1, g2, g3, fun _ => trivial, g5, fun _ => trivial, fun _ => trivial, g8, g9, g10, g11, g12, g14, g16, w3, w15, w17⟩
      · generalize hu : st W.drew w.heap.size (.int .i64 i2) (.int .i64 f2) (.int .i64 d2) (d.getD 13 false) (d.getD 15 false) (d.getD 17 false) = u at ⊢
        have hlt : 8 < d.size := by omega
        have kf : ∀ j, 8 ≠ j → (d.setIfInBounds 8 true).getD j false = d.getD j false := fun j hj => getD_set_ne false hj
        go_simp
        refine hK _ _ ⟨f15, f16, f17, f18, f19, f20, f21, f22, (.pointer (some ⟨b, 0, none⟩)), f24, f25, f26, f27, f28, f29, rfl, by simp [hsz], by rw [kf 13 (by decide), kf 15 (by decide), kf 17 (by decide)]; exact hu.symm, ?_⟩
        simp only [kf 0 (by decide), kf 1 (by decide), kf 2 (by decide), kf 3 (by decide), kf 4 (by decide), kf 5 (by decide), kf 6 (by decide), kf 7 (by decide), kf 9 (by decide), kf 10 (by decide), kf 11 (by decide), kf 12 (by decide), kf 13 (by decide), kf 14 (by decide), kf 15 (by decide), kf 16 (by decide), kf 17 (by decide)]
        exact ⟨g0, g1, g2, g3, g4, g5, g6, g7, fun _ => trivial, g9, g10, g11, g12, g14, g16, w3, w15, w17⟩
      · generalize hu : st W.drew w.heap.size (.int .i64 i2) (.int .i64 f2) (.int .i64 d2) (d.getD 13 false) (d.getD 15 false) (d.getD 17 false) = u at ⊢
        have hlt : 9 < d.size := by omega
        have kf : ∀ j, 9 ≠ j → (d.setIfInBounds 9 true).getD j false = d.getD j false := fun j hj => getD_set_ne false hj
        go_simp
        refine hK _ _ ⟨f15, f16, f17, f18, f19, f20, f21, f22, f23, (.pointer (some ⟨w.heap.size, 3, none⟩)), f25, f26, f27, f28, f29, rfl, by simp [hsz], by rw [kf 13 (by decide), kf 15 (by decide), kf 17 (by decide)]; exact hu.symm, ?_⟩
        simp only [kf 0 (by decide), kf 1 (by decide), kf 2 (by decide), kf 3 (by decide), kf 4 (by decide), kf 5 (by decide), kf 6 (by decide), kf 7 (by decide), kf 8 (by decide), kf 10 (by decide), kf 11 (by decide), kf 12 (by decide), kf 13 (by decide), kf 14 (by decide), kf 15 (by decide), kf 16 (by decide), kf 17 (by decide)]
        exact ⟨g0, g1, g2, g3, g4, g5, g6, g7, g8, fun _ => trivial, g10, g11, g12, g14, g16, w3, w15, w17⟩
      · have e9 := g9 (hall { on := 9, ground := .data } (by simp) rfl)
        subst e9
        have n13 : d.getD 13 false = false := by
          cases h : d.getD 13 false with
          | false => rfl
          | true => rw [getD_un hun] at w3; simp [h] at w3
        have n15 : d.getD 15 false = false := by
          cases h : d.getD 15 false with
          | false => rfl
          | true => rw [w15 h] at n13; cases n13
        have n17 : d.getD 17 false = false := by
          cases h : d.getD 17 false with
          | false => rfl
          | true => rw [w17 h] at n15; cases n15
        have hu : st W.drew w.heap.size (.int .i64 i2) (.int .i64 f2) (.int .i64 d2) (d.getD 13 false) (d.getD 15 false) (d.getD 17 false) = W.drew := by rw [n13, n15, n17]; rfl
        rw [hu]
        have hlt : 10 < d.size := by omega
        have kf : ∀ j, 10 ≠ j → (d.setIfInBounds 10 true).getD j false = d.getD j false := fun j hj => getD_set_ne false hj
        go_simp
        refine hK _ _ ⟨f15, f16, f17, f18, f19, f20, f21, f22, f23, (.pointer (some ⟨w.heap.size, 3, none⟩)), (.int .i64 dst), f26, f27, f28, f29, rfl, by simp [hsz], by rw [kf 13 (by decide), kf 15 (by decide), kf 17 (by decide), n13, n15, n17]; rfl, ?_⟩
        simp only [kf 0 (by decide), kf 1 (by decide), kf 2 (by decide), kf 3 (by decide), kf 4 (by decide), kf 5 (by decide), kf 6 (by decide), kf 7 (by decide), kf 8 (by decide), kf 9 (by decide), kf 11 (by decide), kf 12 (by decide), kf 13 (by decide), kf 14 (by decide), kf 15 (by decide), kf 16 (by decide), kf 17 (by decide)]
        exact ⟨g0, g1, g2, g3, g4, g5, g6, g7, g8, fun _ => trivial, fun _ => trivial, g11, g12, g14, g16, fun h => absurd h (by rw [n13]; decide), w15, w17⟩
      · have e8 := g8 (hall { on := 8, ground := .data } (by simp) rfl)
        subst e8
        have e10 := g10 (hall { on := 10, ground := .data } (by simp) rfl)
        subst e10
        have hb := st_below D0 (Nat.le_refl _) (.int .i64 i2) (.int .i64 f2) (.int .i64 d2) (d.getD 13 false) (d.getD 15 false) (d.getD 17 false)
        generalize hu : st W.drew w.heap.size (.int .i64 i2) (.int .i64 f2) (.int .i64 d2) (d.getD 13 false) (d.getD 15 false) (d.getD 17 false) = u at hb ⊢
        have hlt : 11 < d.size := by omega
        have kf : ∀ j, 11 ≠ j → (d.setIfInBounds 11 true).getD j false = d.getD j false := fun j hj => getD_set_ne false hj
        go_simp
        refine (HM.out _ hb).2.2.mono ?_
        rintro e u' ⟨rfl, rfl⟩
        refine hK _ _ ⟨f15, f16, f17, f18, f19, f20, f21, f22, (.pointer (some ⟨b, 0, none⟩)), f24, (.int .i64 dst), (.int .i64 d2), f27, f28, f29, rfl, by simp [hsz], by rw [kf 13 (by decide), kf 15 (by decide), kf 17 (by decide)]; exact hu.symm, ?_⟩
        simp only [kf 0 (by decide), kf 1 (by decide), kf 2 (by decide), kf 3 (by decide), kf 4 (by decide), kf 5 (by decide), kf 6 (by decide), kf 7 (by decide), kf 8 (by decide), kf 9 (by decide), kf 10 (by decide), kf 12 (by decide), kf 13 (by decide), kf 14 (by decide), kf 15 (by decide), kf 16 (by decide), kf 17 (by decide)]
        exact ⟨g0, g1, g2, g3, g4, g5, g6, g7, fun _ => trivial, g9, fun _ => trivial, fun _ => trivial, g12, g14, g16, w3, w15, w17⟩
      · generalize hu : st W.drew w.heap.size (.int .i64 i2) (.int .i64 f2) (.int .i64 d2) (d.getD 13 false) (d.getD 15 false) (d.getD 17 false) = u at ⊢
        have hlt : 12 < d.size := by omega
        have kf : ∀ j, 12 ≠ j → (d.setIfInBounds 12 true).getD j false = d.getD j false := fun j hj => getD_set_ne false hj
        go_simp
        refine hK _ _ ⟨f15, f16, f17, f18, f19, f20, f21, f22, f23, f24, f25, f26, (.pointer (some ⟨w.heap.size, 1, none⟩)), f28, f29, rfl, by simp [hsz], by rw [kf 13 (by decide), kf 15 (by decide), kf 17 (by decide)]; exact hu.symm, ?_⟩
        simp only [kf 0 (by decide), kf 1 (by decide), kf 2 (by decide), kf 3 (by decide), kf 4 (by decide), kf 5 (by decide), kf 6 (by decide), kf 7 (by decide), kf 8 (by decide), kf 9 (by decide), kf 10 (by decide), kf 11 (by decide), kf 13 (by decide), kf 14 (by decide), kf 15 (by decide), kf 16 (by decide), kf 17 (by decide)]
        exact ⟨g0, g1, g2, g3, g4, g5, g6, g7, g8, g9, g10, g11, fun _ => trivial, g14, g16, w3, w15, w17⟩
      · have e12 := g12 (hall { on := 12, ground := .data } (by simp) rfl)
        subst e12
        have e3 := g3 (hall { on := 3, ground := .data } (by simp) rfl)
        subst e3
        have n13 := getD_un hun
        have n15 : d.getD 15 false = false := by
          cases h : d.getD 15 false with
          | false => rfl
          | true => rw [w15 h] at n13; cases n13
        have n17 : d.getD 17 false = false := by
          cases h : d.getD 17 false with
          | false => rfl
          | true => rw [w17 h] at n15; cases n15
        have h2 := toHid (hall { on := 2, ground := .phase } (by simp) rfl)
        have h6 := toHid (hall { on := 6, ground := .phase } (by simp) rfl)
        have h10 := toHid (hall { on := 10, ground := .phase } (by simp) rfl)
        have hu : st W.drew w.heap.size (.int .i64 i2) (.int .i64 f2) (.int .i64 d2) (d.getD 13 false) (d.getD 15 false) (d.getD 17 false) = W.drew := by rw [n13, n15, n17]; rfl
        rw [hu]
        have N13 := toHid n13
        have N15 := toHid n15
        have N17 := toHid n17
        clear n13 n15 n17 hu
        have hlt : 13 < d.size := by omega
        have kf : ∀ j, 13 ≠ j → (d.setIfInBounds 13 true).getD j false = d.getD j false := fun j hj => getD_set_ne false hj
        go_simp
        have hw : W.drew.setCell ⟨w.heap.size, 1, none⟩ (.int .i64 i2) = st W.drew w.heap.size (.int .i64 i2) (.int .i64 f2) (.int .i64 d2) true false false := rfl
        refine hK _ _ ⟨f15, f16, f17, (.int .i64 i2), f19, f20, f21, f22, f23, f24, f25, f26, (.pointer (some ⟨w.heap.size, 1, none⟩)), f28, f29, rfl, by simp [hsz], by rw [getD_new hlt, kf 15 (by decide), N15.out, kf 17 (by decide), N17.out]; rfl, ?_⟩
        simp only [kf 0 (by decide), kf 1 (by decide), kf 2 (by decide), kf 3 (by decide), kf 4 (by decide), kf 5 (by decide), kf 6 (by decide), kf 7 (by decide), kf 8 (by decide), kf 9 (by decide), kf 10 (by decide), kf 11 (by decide), kf 12 (by decide), kf 14 (by decide), kf 15 (by decide), kf 16 (by decide), kf 17 (by decide)]
        exact ⟨g0, g1, g2, fun _ => trivial, g4, g5, g6, g7, g8, g9, g10, g11, fun _ => trivial, g14, g16, fun _ => ⟨h2.out, h6.out, h10.out⟩, fun _ => getD_new hlt, w17⟩
      · generalize hu : st W.drew w.heap.size (.int .i64 i2) (.int .i64 f2) (.int .i64 d2) (d.getD 13 false) (d.getD 15 false) (d.getD 17 false) = u at ⊢
        have hlt : 14 < d.size := by omega
        have kf : ∀ j, 14 ≠ j → (d.setIfInBounds 14 true).getD j false = d.getD j false := fun j hj => getD_set_ne false hj
        go_simp
        refine hK _ _ ⟨f15, f16, f17, f18, f19, f20, f21, f22, f23, f24, f25, f26, f27, (.pointer (some ⟨w.heap.size, 2, none⟩)), f29, rfl, by simp [hsz], by rw [kf 13 (by decide), kf 15 (by decide), kf 17 (by decide)]; exact hu.symm, ?_⟩
        simp only [kf 0 (by decide), kf 1 (by decide), kf 2 (by decide), kf 3 (by decide), kf 4 (by decide), kf 5 (by decide), kf 6 (by decide), kf 7 (by decide), kf 8 (by decide), kf 9 (by decide), kf 10 (by decide), kf 11 (by decide), kf 12 (by decide), kf 13 (by decide), kf 15 (by decide), kf 16 (by decide), kf 17 (by decide)]
        exact ⟨g0, g1, g2, g3, g4, g5, g6, g7, g8, g9, g10, g11, g12, fun _ => trivial, g16, w3, w15, w17⟩
      · have e14 := g14 (hall { on := 14, ground := .data } (by simp) rfl)
        subst e14
        have e7 := g7 (hall { on := 7, ground := .data } (by simp) rfl)
        subst e7
        have n13 : d.getD 13 false = true := hall { on := 13, ground := .chain } (by simp) rfl
        have n15 := getD_un hun
        have n17 : d.getD 17 false = false := by
          cases h : d.getD 17 false with
          | false => rfl
          | true => rw [w17 h] at n15; cases n15
        have hX2 := set_here (w := W.drew) HX.out 1 (.int .i64 i2)
        have c2 := cell_of hX2 2
        have r2 := free_of hX2 2
        simp at c2
        have hu : st W.drew w.heap.size (.int .i64 i2) (.int .i64 f2) (.int .i64 d2) (d.getD 13 false) (d.getD 15 false) (d.getD 17 false) = (W.drew.setCell ⟨w.heap.size, 1, none⟩ (.int .i64 i2)) := by rw [n13, n15, n17]; rfl
        rw [hu]
        have N13 := toHid n13
        have N15 := toHid n15
        have N17 := toHid n17
        clear n13 n15 n17 hu
        have hlt : 15 < d.size := by omega
        have kf : ∀ j, 15 ≠ j → (d.setIfInBounds 15 true).getD j false = d.getD j false := fun j hj => getD_set_ne false hj
        go_simp
        have hw : (W.drew.setCell ⟨w.heap.size, 1, none⟩ (.int .i64 i2)).setCell ⟨w.heap.size, 2, none⟩ (.int .i64 f2) = st W.drew w.heap.size (.int .i64 i2) (.int .i64 f2) (.int .i64 d2) true true false := rfl
        refine hK _ _ ⟨f15, f16, f17, f18, f19, f20, f21, (.int .i64 f2), f23, f24, f25, f26, f27, (.pointer (some ⟨w.heap.size, 2, none⟩)), f29, rfl, by simp [hsz], by rw [kf 13 (by decide), N13.out, getD_new hlt, kf 17 (by decide), N17.out]; rfl, ?_⟩
        simp only [kf 0 (by decide), kf 1 (by decide), kf 2 (by decide), kf 3 (by decide), kf 4 (by decide), kf 5 (by decide), kf 6 (by decide), kf 7 (by decide), kf 8 (by decide), kf 9 (by decide), kf 10 (by decide), kf 11 (by decide), kf 12 (by decide), kf 13 (by decide), kf 14 (by decide), kf 16 (by decide), kf 17 (by decide)]
        exact ⟨g0, g1, g2, g3, g4, g5, g6, fun _ => trivial, g8, g9, g10, g11, g12, fun _ => trivial, g16, w3, fun _ => N13.out, fun _ => getD_new hlt⟩
      · generalize hu : st W.drew w.heap.size (.int .i64 i2) (.int .i64 f2) (.int .i64 d2) (d.getD 13 false) (d.getD 15 false) (d.getD 17 false) = u at ⊢
        have hlt : 16 < d.size := by omega
        have kf : ∀ j, 16 ≠ j → (d.setIfInBounds 16 true).getD j false = d.getD j false := fun j hj => getD_set_ne false hj
        go_simp
        refine hK _ _ ⟨f15, f16, f17, f18, f19, f20, f21, f22, f23, f24, f25, f26, f27, f28, (.pointer (some ⟨w.heap.size, 3, none⟩)), rfl, by simp [hsz], by rw [kf 13 (by decide), kf 15 (by decide), kf 17 (by decide)]; exact hu.symm, ?_⟩
        simp only [kf 0 (by decide), kf 1 (by decide), kf 2 (by decide), kf 3 (by decide), kf 4 (by decide), kf 5 (by decide), kf 6 (by decide), kf 7 (by decide), kf 8 (by decide), kf 9 (by decide), kf 10 (by decide), kf 11 (by decide), kf 12 (by decide), kf 13 (by decide), kf 14 (by decide), kf 15 (by decide), kf 17 (by decide)]
        exact ⟨g0, g1, g2, g3, g4, g5, g6, g7, g8, g9, g10, g11, g12, g14, fun _ => trivial, w3, w15, w17⟩
      · have e16 := g16 (hall { on := 16, ground := .data } (by simp) rfl)
        subst e16
        have e11 := g11 (hall { on := 11, ground := .data } (by simp) rfl)
        subst e11
        have n15 : d.getD 15 false = true := hall { on := 15, ground := .chain } (by simp) rfl
        have n13 := w15 n15
        have n17 := getD_un hun
        have hX3 := set_here (set_here (w := W.drew) HX.out 1 (.int .i64 i2)) 2 (.int .i64 f2)
        have c3 := cell_of hX3 3
        have r3 := free_of hX3 3
        simp at c3
        have hu : st W.drew w.heap.size (.int .i64 i2) (.int .i64 f2) (.int .i64 d2) (d.getD 13 false) (d.getD 15 false) (d.getD 17 false) = ((W.drew.setCell ⟨w.heap.size, 1, none⟩ (.int .i64 i2)).setCell ⟨w.heap.size, 2, none⟩ (.int .i64 f2)) := by rw [n13, n15, n17]; rfl
        rw [hu]
        have N13 := toHid n13
        have N15 := toHid n15
        have N17 := toHid n17
        clear n13 n15 n17 hu
        have hlt : 17 < d.size := by omega
        have kf : ∀ j, 17 ≠ j → (d.setIfInBounds 17 true).getD j false = d.getD j false := fun j hj => getD_set_ne false hj
        go_simp
        have hw : ((W.drew.setCell ⟨w.heap.size, 1, none⟩ (.int .i64 i2)).setCell ⟨w.heap.size, 2, none⟩ (.int .i64 f2)).setCell ⟨w.heap.size, 3, none⟩ (.int .i64 d2) = st W.drew w.heap.size (.int .i64 i2) (.int .i64 f2) (.int .i64 d2) true true true := rfl
        refine hK _ _ ⟨f15, f16, f17, f18, f19, f20, f21, f22, f23, f24, f25, (.int .i64 d2), f27, f28, (.pointer (some ⟨w.heap.size, 3, none⟩)), rfl, by simp [hsz], by rw [kf 13 (by decide), N13.out, kf 15 (by decide), N15.out, getD_new hlt]; rfl, ?_⟩
        simp only [kf 0 (by decide), kf 1 (by decide), kf 2 (by decide), kf 3 (by decide), kf 4 (by decide), kf 5 (by decide), kf 6 (by decide), kf 7 (by decide), kf 8 (by decide), kf 9 (by decide), kf 10 (by decide), kf 11 (by decide), kf 12 (by decide), kf 13 (by decide), kf 14 (by decide), kf 15 (by decide), kf 16 (by decide)]
        exact ⟨g0, g1, g2, g3, g4, g5, g6, g7, g8, g9, g10, fun _ => trivial, g12, g14, fun _ => trivial, w3, w15, fun _ => N15.out⟩
  case rest =>
    clear x1 x2 x3 y1 y2 y3 D0 s0 HB HX HY HZ
    obtain ⟨hq, ha, kc⟩ := hcut
    have s1 : w.heap.size + 1 < wc.heap.size := (Array.getElem?_eq_some_iff.1 ha).1
    have HQ := toHid hq
    have HQA := toHid ha
    have HKC := toHid kc
    rcases HF.out with ⟨rfl, rfl⟩ | ⟨rfl, rfl⟩ | ⟨rfl, rfl⟩ | ⟨rfl, rfl⟩ | ⟨rfl, rfl⟩ | ⟨rfl, rfl⟩ | ⟨rfl, rfl⟩
    · have HSS : Hid (∀ W' : World, Rest O wc W' → W'.cell? ⟨w.heap.size + 1, 1, none⟩ = some (.func (.func 71) #[] #[]) ∧ W'.cell? ⟨w.heap.size, 0, none⟩ = some (.int .i64 1) ∧ W'.cell? ⟨w.heap.size, 1, none⟩ = some (.int .i64 i2) ∧ W'.cell? ⟨w.heap.size, 2, none⟩ = some (.int .i64 f2) ∧ W'.cell? ⟨w.heap.size, 3, none⟩ = some (.int .i64 d2) ∧ W'.cell? ⟨w.heap.size, 4, none⟩ = some (.string name) ∧ W'.cell? ⟨w.heap.size, 5, none⟩ = some (.int .i64 vk) ∧ W'.cell? ⟨w.heap.size, 6, none⟩ = some (.int .i64 vn) ∧ W'.cell? ⟨w.heap.size, 7, none⟩ = some (.string vs) ∧ W'.cell? ⟨w.heap.size, 8, none⟩ = some (.slice va vl vc) ∧ W'.cell? ⟨w.heap.size, 9, none⟩ = some (.slice la ll lc) ∧ W'.cell? ⟨w.heap.size, 10, none⟩ = some (.slice pa pl pc)) := fun W' r => by
        have e1 : W'.heap[w.heap.size]? = wc.heap[w.heap.size]? := r.block _ (by omega) (fun q => Nat.lt_irrefl _ (HW.out.lts _ q))
        have e2 : W'.heap[w.heap.size + 1]? = wc.heap[w.heap.size + 1]? := r.block _ s1 (fun q => by have := HW.out.lts _ q; omega)
        have q1 : ∀ o, W'.cell? ⟨w.heap.size, o, none⟩ = _ := fun o => cell_of (e1.trans HQ.out) o
        have q2 : ∀ o, W'.cell? ⟨w.heap.size + 1, o, none⟩ = _ := fun o => cell_of (e2.trans HQA.out) o
        exact ⟨q2 1, q1 0, q1 1, q1 2, q1 3, q1 4, q1 5, q1 6, q1 7, q1 8, q1 9, q1 10⟩
      have R0 : Rest O wc wc.drew := Rest.of_below (Below.refl _ _).drew
      have hs00 := HSS.out wc (Rest.refl _ _)
      have DC : Below w.heap.size w wc.drew := HKC.out.drew
      clear hq ha kc
      obtain ⟨z, z0, z1, z2, z3, z4, z5, z6, z7, z8, z9, z10⟩ := hs00
      go_upto_region 5 with fail
      go_region_held3 (fun W' => W'.cell? ⟨w.heap.size + 1, 1, none⟩ = some (.func (.func 71) #[] #[]) ∧ W'.cell? ⟨w.heap.size, 0, none⟩ = some (.int .i64 1) ∧ W'.cell? ⟨w.heap.size, 1, none⟩ = some (.int .i64 i2) ∧ W'.cell? ⟨w.heap.size, 2, none⟩ = some (.int .i64 f2) ∧ W'.cell? ⟨w.heap.size, 3, none⟩ = some (.int .i64 d2) ∧ W'.cell? ⟨w.heap.size, 4, none⟩ = some (.string name) ∧ W'.cell? ⟨w.heap.size, 5, none⟩ = some (.int .i64 vk) ∧ W'.cell? ⟨w.heap.size, 6, none⟩ = some (.int .i64 vn) ∧ W'.cell? ⟨w.heap.size, 7, none⟩ = some (.string vs) ∧ W'.cell? ⟨w.heap.size, 8, none⟩ = some (.slice va vl vc) ∧ W'.cell? ⟨w.heap.size, 9, none⟩ = some (.slice la ll lc) ∧ W'.cell? ⟨w.heap.size, 10, none⟩ = some (.slice pa pl pc))
        (first
          | with_reducible exact HSS.out _ R1
          | with_reducible exact HSS.out _ R0
          | go_keep)
        (first
          | (go_at_call 71; refine (HA.out _ DC).mono ?_; rintro e u ⟨rfl, hr, hs⟩; have R1 : Rest O wc u := R0.trans hr (fun _ _ q => q)))
      all_goals
        go_wp2_with fail
        go_ret
        exact ActEnd.behind HW.out DC ⟨rfl, hr, hs⟩
    · have HSS : Hid (∀ W' : World, Rest O wc W' → W'.cell? ⟨w.heap.size + 1, 2, none⟩ = some (.func (.func 72) #[] #[]) ∧ W'.cell? ⟨w.heap.size, 0, none⟩ = some (.int .i64 2) ∧ W'.cell? ⟨w.heap.size, 1, none⟩ = some (.int .i64 i2) ∧ W'.cell? ⟨w.heap.size, 2, none⟩ = some (.int .i64 f2) ∧ W'.cell? ⟨w.heap.size, 3, none⟩ = some (.int .i64 d2) ∧ W'.cell? ⟨w.heap.size, 4, none⟩ = some (.string name) ∧ W'.cell? ⟨w.heap.size, 5, none⟩ = some (.int .i64 vk) ∧ W'.cell? ⟨w.heap.size, 6, none⟩ = some (.int .i64 vn) ∧ W'.cell? ⟨w.heap.size, 7, none⟩ = some (.string vs) ∧ W'.cell? ⟨w.heap.size, 8, none⟩ = some (.slice va vl vc) ∧ W'.cell? ⟨w.heap.size, 9, none⟩ = some (.slice la ll lc) ∧ W'.cell? ⟨w.heap.size, 10, none⟩ = some (.slice pa pl pc)) := fun W' r => by
        have e1 : W'.heap[w.heap.size]? = wc.heap[w.heap.size]? := r.block _ (by omega) (fun q => Nat.lt_irrefl _ (HW.out.lts _ q))
        have e2 : W'.heap[w.heap.size + 1]? = wc.heap[w.heap.size + 1]? := r.block _ s1 (fun q => by have := HW.out.lts _ q; omega)
        have q1 : ∀ o, W'.cell? ⟨w.heap.size, o, none⟩ = _ := fun o => cell_of (e1.trans HQ.out) o
        have q2 : ∀ o, W'.cell? ⟨w.heap.size + 1, o, none⟩ = _ := fun o => cell_of (e2.trans HQA.out) o
        exact ⟨q2 2, q1 0, q1 1, q1 2, q1 3, q1 4, q1 5, q1 6, q1 7, q1 8, q1 9, q1 10⟩
      have R0 : Rest O wc wc.drew := Rest.of_below (Below.refl _ _).drew
      have hs00 := HSS.out wc (Rest.refl _ _)
      have DC : Below w.heap.size w wc.drew := HKC.out.drew
      clear hq ha kc
      obtain ⟨z, z0, z1, z2, z3, z4, z5, z6, z7, z8, z9, z10⟩ := hs00
      go_upto_region 5 with fail
      go_region_held3 (fun W' => W'.cell? ⟨w.heap.size + 1, 2, none⟩ = some (.func (.func 72) #[] #[]) ∧ W'.cell? ⟨w.heap.size, 0, none⟩ = some (.int .i64 2) ∧ W'.cell? ⟨w.heap.size, 1, none⟩ = some (.int .i64 i2) ∧ W'.cell? ⟨w.heap.size, 2, none⟩ = some (.int .i64 f2) ∧ W'.cell? ⟨w.heap.size, 3, none⟩ = some (.int .i64 d2) ∧ W'.cell? ⟨w.heap.size, 4, none⟩ = some (.string name) ∧ W'.cell? ⟨w.heap.size, 5, none⟩ = some (.int .i64 vk) ∧ W'.cell? ⟨w.heap.size, 6, none⟩ = some (.int .i64 vn) ∧ W'.cell? ⟨w.heap.size, 7, none⟩ = some (.string vs) ∧ W'.cell? ⟨w.heap.size, 8, none⟩ = some (.slice va vl vc) ∧ W'.cell? ⟨w.heap.size, 9, none⟩ = some (.slice la ll lc) ∧ W'.cell? ⟨w.heap.size, 10, none⟩ = some (.slice pa pl pc))
        (first
          | with_reducible exact HSS.out _ R1
          | with_reducible exact HSS.out _ R0
          | go_keep)
        (first
          | (go_at_call 72; refine (HA.out _ DC).mono ?_; rintro e u ⟨rfl, hr, hs⟩; have R1 : Rest O wc u := R0.trans hr (fun _ _ q => q)))
      all_goals
        go_wp2_with fail
        go_ret
        exact ActEnd.behind HW.out DC ⟨rfl, hr, hs⟩
    · have HSS : Hid (∀ W' : World, Rest O wc W' → W'.cell? ⟨w.heap.size + 1, 3, none⟩ = some (.func (.func 73) #[] #[]) ∧ W'.cell? ⟨w.heap.size, 0, none⟩ = some (.int .i64 3) ∧ W'.cell? ⟨w.heap.size, 1, none⟩ = some (.int .i64 i2) ∧ W'.cell? ⟨w.heap.size, 2, none⟩ = some (.int .i64 f2) ∧ W'.cell? ⟨w.heap.size, 3, none⟩ = some (.int .i64 d2) ∧ W'.cell? ⟨w.heap.size, 4, none⟩ = some (.string name) ∧ W'.cell? ⟨w.heap.size, 5, none⟩ = some (.int .i64 vk) ∧ W'.cell? ⟨w.heap.size, 6, none⟩ = some (.int .i64 vn) ∧ W'.cell? ⟨w.heap.size, 7, none⟩ = some (.string vs) ∧ W'.cell? ⟨w.heap.size, 8, none⟩ = some (.slice va vl vc) ∧ W'.cell? ⟨w.heap.size, 9, none⟩ = some (.slice la ll lc) ∧ W'.cell? ⟨w.heap.size, 10, none⟩ = some (.slice pa pl pc)) := fun W' r => by
        have e1 : W'.heap[w.heap.size]? = wc.heap[w.heap.size]? := r.block _ (by omega) (fun q => Nat.lt_irrefl _ (HW.out.lts _ q))
        have e2 : W'.heap[w.heap.size + 1]? = wc.heap[w.heap.size + 1]? := r.block _ s1 (fun q => by have := HW.out.lts _ q; omega)
        have q1 : ∀ o, W'.cell? ⟨w.heap.size, o, none⟩ = _ := fun o => cell_of (e1.trans HQ.out) o
        have q2 : ∀ o, W'.cell? ⟨w.heap.size + 1, o, none⟩ = _ := fun o => cell_of (e2.trans HQA.out) o
        exact ⟨q2 3, q1 0, q1 1, q1 2, q1 3, q1 4, q1 5, q1 6, q1 7, q1 8, q1 9, q1 10⟩
      have R0 : Rest O wc wc.drew := Rest.of_below (Below.refl _ _).drew
      have hs00 := HSS.out wc (Rest.refl _ _)
      have DC : Below w.heap.size w wc.drew := HKC.out.drew
      clear hq ha kc
      obtain ⟨z, z0, z1, z2, z3, z4, z5, z6, z7, z8, z9, z10⟩ := hs00
      go_upto_region 5 with fail
      go_region_held3 (fun W' => W'.cell? ⟨w.heap.size + 1, 3, none⟩ = some (.func (.func 73) #[] #[]) ∧ W'.cell? ⟨w.heap.size, 0, none⟩ = some (.int .i64 3) ∧ W'.cell? ⟨w.heap.size, 1, none⟩ = some (.int .i64 i2) ∧ W'.cell? ⟨w.heap.size, 2, none⟩ = some (.int .i64 f2) ∧ W'.cell? ⟨w.heap.size, 3, none⟩ = some (.int .i64 d2) ∧ W'.cell? ⟨w.heap.size, 4, none⟩ = some (.string name) ∧ W'.cell? ⟨w.heap.size, 5, none⟩ = some (.int .i64 vk) ∧ W'.cell? ⟨w.heap.size, 6, none⟩ = some (.int .i64 vn) ∧ W'.cell? ⟨w.heap.size, 7, none⟩ = some (.string vs) ∧ W'.cell? ⟨w.heap.size, 8, none⟩ = some (.slice va vl vc) ∧ W'.cell? ⟨w.heap.size, 9, none⟩ = some (.slice la ll lc) ∧ W'.cell? ⟨w.heap.size, 10, none⟩ = some (.slice pa pl pc))
        (first
          | with_reducible exact HSS.out _ R1
          | with_reducible exact HSS.out _ R0
          | go_keep)
        (first
          | (go_at_call 73; refine (HA.out _ DC).mono ?_; rintro e u ⟨rfl, hr, hs⟩; have R1 : Rest O wc u := R0.trans hr (fun _ _ q => q)))
      all_goals
        go_wp2_with fail
        go_ret
        exact ActEnd.behind HW.out DC ⟨rfl, hr, hs⟩
    · have HSS : Hid (∀ W' : World, Rest O wc W' → W'.cell? ⟨w.heap.size + 1, 4, none⟩ = some (.func (.func 74) #[] #[]) ∧ W'.cell? ⟨w.heap.size, 0, none⟩ = some (.int .i64 4) ∧ W'.cell? ⟨w.heap.size, 1, none⟩ = some (.int .i64 i2) ∧ W'.cell? ⟨w.heap.size, 2, none⟩ = some (.int .i64 f2) ∧ W'.cell? ⟨w.heap.size, 3, none⟩ = some (.int .i64 d2) ∧ W'.cell? ⟨w.heap.size, 4, none⟩ = some (.string name) ∧ W'.cell? ⟨w.heap.size, 5, none⟩ = some (.int .i64 vk) ∧ W'.cell? ⟨w.heap.size, 6, none⟩ = some (.int .i64 vn) ∧ W'.cell? ⟨w.heap.size, 7, none⟩ = some (.string vs) ∧ W'.cell? ⟨w.heap.size, 8, none⟩ = some (.slice va vl vc) ∧ W'.cell? ⟨w.heap.size, 9, none⟩ = some (.slice la ll lc) ∧ W'.cell? ⟨w.heap.size, 10, none⟩ = some (.slice pa pl pc)) := fun W' r => by
        have e1 : W'.heap[w.heap.size]? = wc.heap[w.heap.size]? := r.block _ (by omega) (fun q => Nat.lt_irrefl _ (HW.out.lts _ q))
        have e2 : W'.heap[w.heap.size + 1]? = wc.heap[w.heap.size + 1]? := r.block _ s1 (fun q => by have := HW.out.lts _ q; omega)
        have q1 : ∀ o, W'.cell? ⟨w.heap.size, o, none⟩ = _ := fun o => cell_of (e1.trans HQ.out) o
        have q2 : ∀ o, W'.cell? ⟨w.heap.size + 1, o, none⟩ = _ := fun o => cell_of (e2.trans HQA.out) o
        exact ⟨q2 4, q1 0, q1 1, q1 2, q1 3, q1 4, q1 5, q1 6, q1 7, q1 8, q1 9, q1 10⟩
      have R0 : Rest O wc wc.drew := Rest.of_below (Below.refl _ _).drew
      have hs00 := HSS.out wc (Rest.refl _ _)
      have DC : Below w.heap.size w wc.drew := HKC.out.drew
      clear hq ha kc
      obtain ⟨z, z0, z1, z2, z3, z4, z5, z6, z7, z8, z9, z10⟩ := hs00
      go_upto_region 5 with fail
      go_region_held3 (fun W' => W'.cell? ⟨w.heap.size + 1, 4, none⟩ = some (.func (.func 74) #[] #[]) ∧ W'.cell? ⟨w.heap.size, 0, none⟩ = some (.int .i64 4) ∧ W'.cell? ⟨w.heap.size, 1, none⟩ = some (.int .i64 i2) ∧ W'.cell? ⟨w.heap.size, 2, none⟩ = some (.int .i64 f2) ∧ W'.cell? ⟨w.heap.size, 3, none⟩ = some (.int .i64 d2) ∧ W'.cell? ⟨w.heap.size, 4, none⟩ = some (.string name) ∧ W'.cell? ⟨w.heap.size, 5, none⟩ = some (.int .i64 vk) ∧ W'.cell? ⟨w.heap.size, 6, none⟩ = some (.int .i64 vn) ∧ W'.cell? ⟨w.heap.size, 7, none⟩ = some (.string vs) ∧ W'.cell? ⟨w.heap.size, 8, none⟩ = some (.slice va vl vc) ∧ W'.cell? ⟨w.heap.size, 9, none⟩ = some (.slice la ll lc) ∧ W'.cell? ⟨w.heap.size, 10, none⟩ = some (.slice pa pl pc))
        (first
          | with_reducible exact HSS.out _ R1
          | with_reducible exact HSS.out _ R0
          | go_keep)
        (first
          | (go_at_call 74; refine (HA.out _ DC).mono ?_; rintro e u ⟨rfl, hr, hs⟩; have R1 : Rest O wc u := R0.trans hr (fun _ _ q => q)))
      all_goals
        go_wp2_with fail
        go_ret
        exact ActEnd.behind HW.out DC ⟨rfl, hr, hs⟩
    · have HSS : Hid (∀ W' : World, Rest O wc W' → W'.cell? ⟨w.heap.size + 1, 5, none⟩ = some (.func (.func 75) #[] #[]) ∧ W'.cell? ⟨w.heap.size, 0, none⟩ = some (.int .i64 5) ∧ W'.cell? ⟨w.heap.size, 1, none⟩ = some (.int .i64 i2) ∧ W'.cell? ⟨w.heap.size, 2, none⟩ = some (.int .i64 f2) ∧ W'.cell? ⟨w.heap.size, 3, none⟩ = some (.int .i64 d2) ∧ W'.cell? ⟨w.heap.size, 4, none⟩ = some (.string name) ∧ W'.cell? ⟨w.heap.size, 5, none⟩ = some (.int .i64 vk) ∧ W'.cell? ⟨w.heap.size, 6, none⟩ = some (.int .i64 vn) ∧ W'.cell? ⟨w.heap.size, 7, none⟩ = some (.string vs) ∧ W'.cell? ⟨w.heap.size, 8, none⟩ = some (.slice va vl vc) ∧ W'.cell? ⟨w.heap.size, 9, none⟩ = some (.slice la ll lc) ∧ W'.cell? ⟨w.heap.size, 10, none⟩ = some (.slice pa pl pc)) := fun W' r => by
        have e1 : W'.heap[w.heap.size]? = wc.heap[w.heap.size]? := r.block _ (by omega) (fun q => Nat.lt_irrefl _ (HW.out.lts _ q))
        have e2 : W'.heap[w.heap.size + 1]? = wc.heap[w.heap.size + 1]? := r.block _ s1 (fun q => by have := HW.out.lts _ q; omega)
        have q1 : ∀ o, W'.cell? ⟨w.heap.size, o, none⟩ = _ := fun o => cell_of (e1.trans HQ.out) o
        have q2 : ∀ o, W'.cell? ⟨w.heap.size + 1, o, none⟩ = _ := fun o => cell_of (e2.trans HQA.out) o
        exact ⟨q2 5, q1 0, q1 1, q1 2, q1 3, q1 4, q1 5, q1 6, q1 7, q1 8, q1 9, q1 10⟩
      have R0 : Rest O wc wc.drew := Rest.of_below (Below.refl _ _).drew
      have hs00 := HSS.out wc (Rest.refl _ _)
      have DC : Below w.heap.size w wc.drew := HKC.out.drew
      clear hq ha kc
      obtain ⟨z, z0, z1, z2, z3, z4, z5, z6, z7, z8, z9, z10⟩ := hs00
      go_upto_region 5 with fail
      go_region_held3 (fun W' => W'.cell? ⟨w.heap.size + 1, 5, none⟩ = some (.func (.func 75) #[] #[]) ∧ W'.cell? ⟨w.heap.size, 0, none⟩ = some (.int .i64 5) ∧ W'.cell? ⟨w.heap.size, 1, none⟩ = some (.int .i64 i2) ∧ W'.cell? ⟨w.heap.size, 2, none⟩ = some (.int .i64 f2) ∧ W'.cell? ⟨w.heap.size, 3, none⟩ = some (.int .i64 d2) ∧ W'.cell? ⟨w.heap.size, 4, none⟩ = some (.string name) ∧ W'.cell? ⟨w.heap.size, 5, none⟩ = some (.int .i64 vk) ∧ W'.cell? ⟨w.heap.size, 6, none⟩ = some (.int .i64 vn) ∧ W'.cell? ⟨w.heap.size, 7, none⟩ = some (.string vs) ∧ W'.cell? ⟨w.heap.size, 8, none⟩ = some (.slice va vl vc) ∧ W'.cell? ⟨w.heap.size, 9, none⟩ = some (.slice la ll lc) ∧ W'.cell? ⟨w.heap.size, 10, none⟩ = some (.slice pa pl pc))
        (first
          | with_reducible exact HSS.out _ R1
          | with_reducible exact HSS.out _ R0
          | go_keep)
        (first
          | (go_at_call 75; refine (HA.out _ DC).mono ?_; rintro e u ⟨rfl, hr, hs⟩; have R1 : Rest O wc u := R0.trans hr (fun _ _ q => q)))
      all_goals
        go_wp2_with fail
        go_ret
        exact ActEnd.behind HW.out DC ⟨rfl, hr, hs⟩
    · have HSS : Hid (∀ W' : World, Rest O wc W' → W'.cell? ⟨w.heap.size + 1, 6, none⟩ = some (.func (.func 76) #[] #[]) ∧ W'.cell? ⟨w.heap.size, 0, none⟩ = some (.int .i64 6) ∧ W'.cell? ⟨w.heap.size, 1, none⟩ = some (.int .i64 i2) ∧ W'.cell? ⟨w.heap.size, 2, none⟩ = some (.int .i64 f2) ∧ W'.cell? ⟨w.heap.size, 3, none⟩ = some (.int .i64 d2) ∧ W'.cell? ⟨w.heap.size, 4, none⟩ = some (.string name) ∧ W'.cell? ⟨w.heap.size, 5, none⟩ = some (.int .i64 vk) ∧ W'.cell? ⟨w.heap.size, 6, none⟩ = some (.int .i64 vn) ∧ W'.cell? ⟨w.heap.size, 7, none⟩ = some (.string vs) ∧ W'.cell? ⟨w.heap.size, 8, none⟩ = some (.slice va vl vc) ∧ W'.cell? ⟨w.heap.size, 9, none⟩ = some (.slice la ll lc) ∧ W'.cell? ⟨w.heap.size, 10, none⟩ = some (.slice pa pl pc)) := fun W' r => by
        have e1 : W'.heap[w.heap.size]? = wc.heap[w.heap.size]? := r.block _ (by omega) (fun q => Nat.lt_irrefl _ (HW.out.lts _ q))
        have e2 : W'.heap[w.heap.size + 1]? = wc.heap[w.heap.size + 1]? := r.block _ s1 (fun q => by have := HW.out.lts _ q; omega)
        have q1 : ∀ o, W'.cell? ⟨w.heap.size, o, none⟩ = _ := fun o => cell_of (e1.trans HQ.out) o
        have q2 : ∀ o, W'.cell? ⟨w.heap.size + 1, o, none⟩ = _ := fun o => cell_of (e2.trans HQA.out) o
        exact ⟨q2 6, q1 0, q1 1, q1 2, q1 3, q1 4, q1 5, q1 6, q1 7, q1 8, q1 9, q1 10⟩
      have R0 : Rest O wc wc.drew := Rest.of_below (Below.refl _ _).drew
      have hs00 := HSS.out wc (Rest.refl _ _)
      have DC : Below w.heap.size w wc.drew := HKC.out.drew
      clear hq ha kc
      obtain ⟨z, z0, z1, z2, z3, z4, z5, z6, z7, z8, z9, z10⟩ := hs00
      go_upto_region 5 with fail
      go_region_held3 (fun W' => W'.cell? ⟨w.heap.size + 1, 6, none⟩ = some (.func (.func 76) #[] #[]) ∧ W'.cell? ⟨w.heap.size, 0, none⟩ = some (.int .i64 6) ∧ W'.cell? ⟨w.heap.size, 1, none⟩ = some (.int .i64 i2) ∧ W'.cell? ⟨w.heap.size, 2, none⟩ = some (.int .i64 f2) ∧ W'.cell? ⟨w.heap.size, 3, none⟩ = some (.int .i64 d2) ∧ W'.cell? ⟨w.heap.size, 4, none⟩ = some (.string name) ∧ W'.cell? ⟨w.heap.size, 5, none⟩ = some (.int .i64 vk) ∧ W'.cell? ⟨w.heap.size, 6, none⟩ = some (.int .i64 vn) ∧ W'.cell? ⟨w.heap.size, 7, none⟩ = some (.string vs) ∧ W'.cell? ⟨w.heap.size, 8, none⟩ = some (.slice va vl vc) ∧ W'.cell? ⟨w.heap.size, 9, none⟩ = some (.slice la ll lc) ∧ W'.cell? ⟨w.heap.size, 10, none⟩ = some (.slice pa pl pc))
        (first
          | with_reducible exact HSS.out _ R1
          | with_reducible exact HSS.out _ R0
          | go_keep)
        (first
          | (go_at_call 76; refine (HA.out _ DC).mono ?_; rintro e u ⟨rfl, hr, hs⟩; have R1 : Rest O wc u := R0.trans hr (fun _ _ q => q)))
      all_goals
        go_wp2_with fail
        go_ret
        exact ActEnd.behind HW.out DC ⟨rfl, hr, hs⟩
    · have HSS : Hid (∀ W' : World, Rest O wc W' → W'.cell? ⟨w.heap.size + 1, 7, none⟩ = some (.func (.func 77) #[] #[]) ∧ W'.cell? ⟨w.heap.size, 0, none⟩ = some (.int .i64 7) ∧ W'.cell? ⟨w.heap.size, 1, none⟩ = some (.int .i64 i2) ∧ W'.cell? ⟨w.heap.size, 2, none⟩ = some (.int .i64 f2) ∧ W'.cell? ⟨w.heap.size, 3, none⟩ = some (.int .i64 d2) ∧ W'.cell? ⟨w.heap.size, 4, none⟩ = some (.string name) ∧ W'.cell? ⟨w.heap.size, 5, none⟩ = some (.int .i64 vk) ∧ W'.cell? ⟨w.heap.size, 6, none⟩ = some (.int .i64 vn) ∧ W'.cell? ⟨w.heap.size, 7, none⟩ = some (.string vs) ∧ W'.cell? ⟨w.heap.size, 8, none⟩ = some (.slice va vl vc) ∧ W'.cell? ⟨w.heap.size, 9, none⟩ = some (.slice la ll lc) ∧ W'.cell? ⟨w.heap.size, 10, none⟩ = some (.slice pa pl pc)) := fun W' r => by
        have e1 : W'.heap[w.heap.size]? = wc.heap[w.heap.size]? := r.block _ (by omega) (fun q => Nat.lt_irrefl _ (HW.out.lts _ q))
        have e2 : W'.heap[w.heap.size + 1]? = wc.heap[w.heap.size + 1]? := r.block _ s1 (fun q => by have := HW.out.lts _ q; omega)
        have q1 : ∀ o, W'.cell? ⟨w.heap.size, o, none⟩ = _ := fun o => cell_of (e1.trans HQ.out) o
        have q2 : ∀ o, W'.cell? ⟨w.heap.size + 1, o, none⟩ = _ := fun o => cell_of (e2.trans HQA.out) o
        exact ⟨q2 7, q1 0, q1 1, q1 2, q1 3, q1 4, q1 5, q1 6, q1 7, q1 8, q1 9, q1 10⟩
      have R0 : Rest O wc wc.drew := Rest.of_below (Below.refl _ _).drew
      have hs00 := HSS.out wc (Rest.refl _ _)
      have DC : Below w.heap.size w wc.drew := HKC.out.drew
      clear hq ha kc
      obtain ⟨z, z0, z1, z2, z3, z4, z5, z6, z7, z8, z9, z10⟩ := hs00
      go_upto_region 5 with fail
      go_region_held3 (fun W' => W'.cell? ⟨w.heap.size + 1, 7, none⟩ = some (.func (.func 77) #[] #[]) ∧ W'.cell? ⟨w.heap.size, 0, none⟩ = some (.int .i64 7) ∧ W'.cell? ⟨w.heap.size, 1, none⟩ = some (.int .i64 i2) ∧ W'.cell? ⟨w.heap.size, 2, none⟩ = some (.int .i64 f2) ∧ W'.cell? ⟨w.heap.size, 3, none⟩ = some (.int .i64 d2) ∧ W'.cell? ⟨w.heap.size, 4, none⟩ = some (.string name) ∧ W'.cell? ⟨w.heap.size, 5, none⟩ = some (.int .i64 vk) ∧ W'.cell? ⟨w.heap.size, 6, none⟩ = some (.int .i64 vn) ∧ W'.cell? ⟨w.heap.size, 7, none⟩ = some (.string vs) ∧ W'.cell? ⟨w.heap.size, 8, none⟩ = some (.slice va vl vc) ∧ W'.cell? ⟨w.heap.size, 9, none⟩ = some (.slice la ll lc) ∧ W'.cell? ⟨w.heap.size, 10, none⟩ = some (.slice pa pl pc))
        (first
          | with_reducible exact HSS.out _ R1
          | with_reducible exact HSS.out _ R0
          | go_keep)
        (first
          | (go_at_call 77; refine (HA.out _ DC).mono ?_; rintro e u ⟨rfl, hr, hs⟩; have R1 : Rest O wc u := R0.trans hr (fun _ _ q => q)))
      all_goals
        go_wp2_with fail
        go_ret
        exact ActEnd.behind HW.out DC ⟨rfl, hr, hs⟩
end Go.Proofs.YtebbjmjgojekdaaGreatDoor
