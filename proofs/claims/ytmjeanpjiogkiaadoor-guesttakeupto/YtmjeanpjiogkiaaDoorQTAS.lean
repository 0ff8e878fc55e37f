/-
  What is proved here: what the texts GuTake, GuSame prove, in one text.
-/
import Derived.Test.YtmjeanpjiogkiaaDoorQTAR
import Derived.Test.YtmjeanpjiogkiaaDoorQTAQ
namespace Go.Proofs.YtmjeanpjiogkiaaDoor
open Go.RowKit
set_option linter.unusedVariables false

set_option linter.unusedSimpArgs false

/-- What is handed back is the bag of these, in blocks of this kind, or its error. -/
def ToldA (A : Nat → Prop) (w' : World) (f : List T → Int) (sa : Option Addr) (sl : Nat) (ze : Int) : Prop := ∃ Z, IsBag Z ∧ (∀ r, cnt Z r = f r) ∧ ((bagX Z = 0 ∧ ze = 0 ∧ RBA A w' Z sa sl) ∨ (bagX Z ≠ 0 ∧ ze = bagX Z ∧ sl = 0))

theorem ToldA.kept {A A' : Nat → Prop} {w w' : World} (k : Keep A A' w w') {f : List T → Int} {sa : Option Addr} {sl : Nat} {ze : Int} (h : ToldA A w f sa sl ze) : ToldA A' w' f sa sl ze := by
  obtain ⟨Z, z1, z2, z3⟩ := h
  exact ⟨Z, z1, z2, z3.imp (fun g => ⟨g.1, g.2.1, g.2.2.kept k⟩) id⟩

theorem ToldA.told {A : Nat → Prop} {B : Nat} {w : World} (hB : B ≤ w.heap.size) (hT : Tabs B w) {f : List T → Int} {sa : Option Addr} {sl : Nat} {ze : Int} (h : ToldA A w f sa sl ze) : Told w f sa sl ze := by
  obtain ⟨Z, z1, z2, z3⟩ := h
  exact ⟨Z, z1, z2, z3.imp (fun g => ⟨g.1, g.2.1, g.2.2.rb hB hT⟩) id⟩

theorem tal_toldA {B B1 : Nat} {w' : World} (hB : B ≤ w'.heap.size) (hT : Tabs B w') {Ls : List Cn} {e : Ending} (h : TalEnd B1 w' Ls e) : ∃ sa sl sc ze, e = .returned (.tuple #[.slice sa sl sc, .int .i64 ze]) ∧ ToldA (fun i => B1 ≤ i) w' (cnt Ls) sa sl ze := by
  have h0 := h
  obtain ⟨X, x1, x2, x3⟩ := tal_endX hB hT h0
  obtain ⟨O, h1, h2, h3, h4⟩ := h
  have hX : X = O.map fun y => y.1.cn := bag_ext _ _ x1 h1 fun r => by rw [x2, h2]
  rcases x3 with ⟨hx0, a, l, c, rfl, hr⟩ | ⟨hx0, rfl⟩
  · rcases h4 with ⟨hb, h4⟩ | ⟨hb, v, h4, hv⟩
    · exfalso
      have e1 := bagE_is fun x e hx => (h3 x e hx).1
      rw [← hX, hx0] at e1
      exact hb e1
    · have hv0 : v = .slice a l c := by
        injection h4 with h5
        injection h5 with h5
        injection h5 with h5
        injection h5 with h5 h6
        exact h5.symm
      subst hv0
      have e2 : (O.map (·.1)).map Ct.cn = X := by rw [hX, List.map_map]; rfl
      obtain ⟨a2, c2, e3, hr2⟩ := cts_rba (by rw [e2]; exact hr.1) hv
      injection e3 with e4 e5 e6
      subst e4
      rw [e2, ← e5] at hr2
      exact ⟨a, l, c, 0, rfl, X, x1, x2, .inl ⟨hx0, rfl, hr2⟩⟩
  · exact ⟨none, 0, 0, bagX X, rfl, X, x1, x2, .inr ⟨hx0, rfl, rfl⟩⟩

theorem absS_small {m : Nat} : ∀ X : List Ct, (∀ x ∈ X, x.n.natAbs ≤ m) → absS X ≤ X.length * m
  | [], _ => by simp [absS]
  | x :: X, h => by
    have h1 := h x (List.mem_cons_self ..)
    have h2 := absS_small X fun y hy => h y (List.mem_cons_of_mem _ hy)
    show x.n.natAbs + absS X ≤ _
    rw [List.length_cons, Nat.add_mul]
    omega

set_option maxHeartbeats 4000000 in
set_option maxRecDepth 100000 in
theorem due_any (B : Nat) (v : Int) (XS : List (List Cn)) (a : Option Addr) (l c : Nat) (f : Bool) (t : Int) (Y : List Cn) (ba : Option Addr) (bl bc : Nat) (w : World) (hB : B ≤ w.heap.size) (hT : Tabs B w) (hQ : GQ w XS a l) (hs : sumL XS ≤ 40) (hY : RB w Y ba bl) :
    Calls Tryd.prog 26 #[gV v a l c f t, .slice ba bl bc] w fun e w' => (∃ sa sl sc ze, e = .returned (.tuple #[.slice sa sl sc, .int .i64 ze]) ∧ (f = true → ze = 0 ∧ RBA (fun i => w.heap.size ≤ i) w' Y sa sl) ∧ (f = false → ToldA (fun i => w.heap.size ≤ i) w' (cnt XS.flatten) sa sl ze)) ∧ Below w.heap.size w w' := by
  have b0 : Below w.heap.size w (w.alloc (gObj v a l c f t)) := (Below.refl _ _).alloc (Nat.le_refl _) _
  have h0 := alloc_new w (gObj v a l c f t)
  have z0 : (w.alloc (gObj v a l c f t)).heap.size = w.heap.size + 1 := by simp
  have HQ := toHid (hQ.below b0)
  have HY := toHid (hY.below b0)
  have HSM := toHid hs
  have HTB := toHid hT
  have HB0 := toHid b0
  have HZ := toHid z0
  have H0 := toHid h0
  clear hQ hs hY hT b0 h0 z0
  cases f with
  | true =>
    go_enter Tryd.func26, Tryd.ntmps26
    go_upto_region 1 with fail
    generalize w.alloc (gObj v a l c true t) = W at HQ HY HB0 HZ H0 ⊢
    have x2 := cell_of H0.out 2
    simp at x2
    have hbl := blkB_lt H0.out
    have HF := toHid (fresh_rb Y ba bl bc W HY.out)
    go_wp2_with fail
    refine HF.out.mono ?_
    rintro e w1 ⟨⟨a1, c1, rfl, hr⟩, k1⟩
    have HR := toHid hr
    have HK := toHid (HB0.out.trans (k1.mono HB0.out.size))
    clear hr k1 x2 hbl HF
    go_wp2_with fail
    refine bodyPost_ret (v := .tuple #[.slice a1 bl c1, .int .i64 0]) (by simp [results, Tryd.results26, go_sem]) rfl ?_
    refine ⟨⟨a1, bl, c1, 0, rfl, fun _ => ⟨rfl, HR.out.kept ⟨Nat.le_refl _, fun i hi _ => ⟨?_, rfl⟩⟩⟩, fun h => (by cases h)⟩, HK.out⟩
    have h5 : W.heap.size ≤ i := hi
    have h6 := HZ.out
    omega
  | false =>
    have HTA : Hid (Calls Tryd.prog 32 #[.func (.func 41) #[] #[.pointer (some ⟨w.heap.size, 0, none⟩)]] (w.alloc (gObj v a l c false t)) fun e w' => TalEnd (w.alloc (gObj v a l c false t)).heap.size w' XS.flatten e ∧ Below (w.alloc (gObj v a l c false t)).heap.size (w.alloc (gObj v a l c false t)) w') := by
      refine talDu_any B _ XS.flatten _ (Nat.le_trans hB HB0.out.size) (HTB.out.below (HB0.out.mono hB)) fun W2 bo hbo hinv kk => ?_
      refine (due1_any (w.alloc (gObj v a l c false t)).heap.size bo w.heap.size v XS a l c false t (w.alloc (gObj v a l c false t)) W2 (Nat.le_refl _) kk kk.size (blkB_lt H0.out) hbo ((kk.block _ (blkB_lt H0.out)).trans H0.out) HQ.out (by have := HSM.out; omega) hinv).mono ?_
      rintro e w' ⟨rfl, M, v', hM, g1, g2⟩
      refine ⟨rfl, M, v', ⟨hM.1, fun x hx => ⟨(hM.2 x hx).1, (hM.2 x hx).2.1⟩, ?_, ?_⟩, g1, g2⟩
      · have h1 := absS_small (m := 1099511627776) M fun x hx => by
          have h := (hM.2 x hx).2.2
          have h2 := h.2.1
          have h3 := h.2.2
          omega
        have h2 := hM.len
        have h3 := HSM.out
        have h4 : M.length * 1099511627776 ≤ 40 * 1099511627776 := Nat.mul_le_mul_right _ (by omega)
        omega
      · rw [hM.len]
        have := HSM.out
        omega
    go_enter Tryd.func26, Tryd.ntmps26
    go_upto_region 1 with fail
    generalize w.alloc (gObj v a l c false t) = W at HQ HY HB0 HZ H0 HTA ⊢
    have x2 := cell_of H0.out 2
    simp at x2
    have hbl := blkB_lt H0.out
    generalize hLs : XS.flatten = Ls at HTA
    have HLS := toHid hLs
    clear hLs
    go_wp2_with fail
    refine HTA.out.mono ?_
    rintro e w1 ⟨hend, k1⟩
    have HK := toHid (HB0.out.trans (k1.mono HB0.out.size))
    obtain ⟨sa, sl, sc, ze, rfl, htd⟩ := tal_toldA (Nat.le_trans hB HK.out.size) (HTB.out.below (HK.out.mono hB)) hend
    have HTD := toHid htd
    clear hend htd k1 x2 hbl HTA
    go_wp2_with fail
    refine bodyPost_ret (v := .tuple #[.slice sa sl sc, .int .i64 ze]) (by simp [results, Tryd.results26, go_sem]) rfl ?_
    refine ⟨⟨sa, sl, sc, ze, rfl, fun h => (by cases h), fun _ => ?_⟩, HK.out⟩
    rw [HLS.out]
    exact HTD.out.kept ⟨Nat.le_refl _, fun i hi _ => ⟨by have h5 : W.heap.size ≤ i := hi; have h6 := HZ.out; omega, rfl⟩⟩

/-- What Take answers. -/
def TakeEnd (A : Nat → Prop) (w' : World) (v t u : Int) (f : Bool) (XS : List (List Cn)) (Y : List Cn) (R : Int) (e : Ending) : Prop := ∃ v' t' sa sl sc fr ze, e = .returned (.tuple #[gV v' none 0 0 false t', .slice sa sl sc, .bool fr, .int .i64 ze]) ∧
  ((R ≠ 0 ∧ ze = R) ∨ (R = 0 ∧ u < t ∧ ze = 9) ∨ (R = 0 ∧ t ≤ u ∧ f = true ∧ ze = 0 ∧ RBA A w' Y sa sl) ∨ (R = 0 ∧ t ≤ u ∧ f = false ∧ ToldA A w' (cnt XS.flatten) sa sl ze)) ∧
  (ze ≠ 0 → v' = 0 ∧ t' = 0 ∧ sl = 0 ∧ fr = false) ∧ (ze = 0 → v' = v ∧ t' = u ∧ fr = f)

set_option maxHeartbeats 8000000 in
set_option maxRecDepth 100000 in
theorem take_any (B : Nat) (v : Int) (Q : List Qd) (a : Option Addr) (l c : Nat) (f : Bool) (t : Int) (Y : List Cn) (zb R u : Int) (ba : Option Addr) (bl bc : Nat) (w : World) (hB : B ≤ w.heap.size) (hT : Tabs B w) (hQ : QIn w Q a l) (hb : BagZ w ba bl bc zb Y) (hR : R = if guE v t f Q = 0 then zb else guE v t f Q) :
    Calls Tryd.prog 13 #[gV v a l c f t, .slice ba bl bc, .int .i64 u] w fun e w' => TakeEnd (fun i => w.heap.size ≤ i) w' v t u f (Q.map (·.X)) Y R e ∧ Below w.heap.size w w' := by
  have b0 : Below w.heap.size w ((w.alloc (gObj v a l c f t)).alloc gZ) := ((Below.refl _ _).alloc (Nat.le_refl _) _).alloc (by simp) _
  have hx := (Below.heap_alloc (w.alloc (gObj v a l c f t)) gZ w.heap.size (by simp)).trans (alloc_new w (gObj v a l c f t))
  have hy := alloc_two w (gObj v a l c f t) gZ
  have z0 : ((w.alloc (gObj v a l c f t)).alloc gZ).heap.size = w.heap.size + 2 := by simp
  obtain ⟨z, hz⟩ : ∃ z, z = guE v t f Q := ⟨_, rfl⟩
  rw [← hz] at hR
  have HC1 : Hid (Calls Tryd.prog 9 #[gV v a l c f t] ((w.alloc (gObj v a l c f t)).alloc gZ) fun e w' => e = .returned (.int .i64 z) ∧ Below ((w.alloc (gObj v a l c f t)).alloc gZ).heap.size ((w.alloc (gObj v a l c f t)).alloc gZ) w') := by
    show Calls _ _ _ _ _
    rw [hz]
    exact checkG_any v Q a l c f t _ (hQ.below b0)
  have HQ := toHid hQ
  have HBG := toHid hb
  have HZE := toHid hz
  have HR := toHid hR
  have HTB := toHid hT
  have HB := toHid b0
  have HX := toHid hx
  have HY := toHid hy
  have HZ := toHid z0
  clear b0 hx hy z0 hQ hb hz hR hT
  go_enter Tryd.func13, Tryd.ntmps13
  go_upto_region 1 with fail
  generalize (w.alloc (gObj v a l c f t)).alloc gZ = W at HB HX HY HZ HC1 ⊢
  have x0 := cell_of HX.out 0
  have x1 := cell_of HX.out 1
  have x2 := cell_of HX.out 2
  have x3 := cell_of HX.out 3
  simp at x0 x1 x2 x3
  have hlx := blkB_lt HX.out
  go_wp2_with fail
  refine HC1.out.mono ?_
  rintro e w1 ⟨rfl, k1⟩
  have HC2 := toHid (HBG.out.prog w1 (HB.out.trans (k1.mono HB.out.size)))
  have KW1 := toHid k1
  clear k1 HC1 x0 x1 x2 x3 hlx
  go_wp2_with fail
  refine HC2.out.mono ?_
  rintro e w2 ⟨rfl, k2⟩
  have KW3 : Hid (Below W.heap.size W (w2.alloc (.cells #[.int .i64 z, .int .i64 zb] 27))) := (KW1.out.trans (k2.mono KW1.out.size)).alloc (KW1.out.trans (k2.mono KW1.out.size)).size _
  have HOR := toHid (or_two z zb R HR.out w2.heap.size (w2.alloc (.cells #[.int .i64 z, .int .i64 zb] 27)) (cell_of (alloc_new w2 _) 0) (cell_of (alloc_new w2 _) 1))
  clear k2 HC2 KW1
  go_wp2_with fail
  refine HOR.out.mono ?_
  rintro e w3 ⟨rfl, rfl⟩
  clear HOR
  generalize w2.alloc (.cells #[.int .i64 z, .int .i64 zb] 27) = w3 at KW3 ⊢
  have HX3 := toHid ((KW3.out.block w.heap.size (by have := HZ.out; omega)).trans HX.out)
  have HY3 := toHid ((KW3.out.block (w.heap.size + 1) (by have := HZ.out; omega)).trans HY.out)
  have HB3 := toHid (HB.out.trans (KW3.out.mono HB.out.size))
  have hs3 : w.heap.size + 2 ≤ w3.heap.size := by have := KW3.out.size; have := HZ.out; omega
  clear HX HY HZ KW3 HB
  by_cases hr : R = 0
  case neg =>
    have hr' : (R != 0) = true := by simp [hr]
    have HNE := toHid hr
    clear hr
    have r0 := cell_of HY3.out 0
    have r1 := cell_of HY3.out 1
    have r2 := cell_of HY3.out 2
    have r3 := cell_of HY3.out 3
    simp at r0 r1 r2 r3
    have g0 := free_of HY3.out 0
    have g1 := free_of HY3.out 1
    have g2 := free_of HY3.out 2
    have g3 := free_of HY3.out 3
    go_wp2_with fail
    have eP : ∀ X : World, (((X.setCell ⟨w.heap.size + 1, 0, none⟩ (.int .i64 0)).setCell ⟨w.heap.size + 1, 1, none⟩ (.slice none 0 0)).setCell ⟨w.heap.size + 1, 2, none⟩ (.bool false)).setCell ⟨w.heap.size + 1, 3, none⟩ (.int .i64 0) = putL X (w.heap.size + 1) 0 [.int .i64 0, .slice none 0 0, .bool false, .int .i64 0] := fun _ => rfl
    rw [eP]
    have E := putL_here [.int .i64 0, .slice none 0 0, .bool false, .int .i64 0] 0 w3 _ HY3.out
    have hbb : Below w.heap.size w (putL w3 (w.heap.size + 1) 0 [.int .i64 0, .slice none 0 0, .bool false, .int .i64 0]) := HB3.out.trans ((putL_bel (w.heap.size + 1) _ _ w3).mono (by omega))
    have hkp : Keep (fun i => w.heap.size + 2 ≤ i) (fun i => w.heap.size ≤ i) w3 (putL w3 (w.heap.size + 1) 0 [.int .i64 0, .slice none 0 0, .bool false, .int .i64 0]) := ⟨by rw [putL_size]; exact Nat.le_refl _, fun i hi _ => ⟨by omega, putL_other _ _ _ _ i (by omega)⟩⟩
    generalize putL w3 (w.heap.size + 1) 0 [.int .i64 0, .slice none 0 0, .bool false, .int .i64 0] = Y' at E hbb hkp ⊢
    have t0 := cell_of E 0
    have t1 := cell_of E 1
    have t2 := cell_of E 2
    have t3 := cell_of E 3
    simp [setL] at t0 t1 t2 t3
    refine bodyPost_ret (v := .tuple #[gV 0 none 0 0 false 0, .slice none 0 0, .bool false, .int .i64 R]) (by simp [results, Tryd.results13, go_sem, t0, t1, t2, t3]) rfl ⟨⟨_, _, _, _, _, _, _, rfl, .inl ⟨HNE.out, rfl⟩, fun _ => ⟨rfl, rfl, rfl, rfl⟩, fun h => absurd h HNE.out⟩, hbb⟩
  have hr' : (R != 0) = false := by simp [hr]
  have HR0 := toHid hr
  obtain ⟨hz0, hb0⟩ := guE_two HR.out hr
  obtain ⟨-, -, hqs, hN, -⟩ := guE_zero (HZE.out.symm.trans hz0)
  have hgq := HQ.out.gq fun q hq => (hqs q hq).1
  have HYR := toHid (HBG.out.right hb0)
  have HGQ := toHid hgq.1
  have HSX : Hid (sumL (Q.map (·.X)) ≤ 40) := by rw [hgq.2]; exact hN
  have x0 := cell_of HX3.out 0
  have x1 := cell_of HX3.out 1
  have x2 := cell_of HX3.out 2
  have x3 := cell_of HX3.out 3
  simp at x0 x1 x2 x3
  have hlx := blkB_lt HX3.out
  clear hr hz0 hb0 hqs hN hgq HR HZE HBG HQ
  by_cases hu : u < t
  case pos =>
    have HU := toHid hu
    have r0 := cell_of HY3.out 0
    have r1 := cell_of HY3.out 1
    have r2 := cell_of HY3.out 2
    have r3 := cell_of HY3.out 3
    simp at r0 r1 r2 r3
    have g0 := free_of HY3.out 0
    have g1 := free_of HY3.out 1
    have g2 := free_of HY3.out 2
    have g3 := free_of HY3.out 3
    go_wp2_with fail
    have eP : ∀ X : World, (((X.setCell ⟨w.heap.size + 1, 0, none⟩ (.int .i64 0)).setCell ⟨w.heap.size + 1, 1, none⟩ (.slice none 0 0)).setCell ⟨w.heap.size + 1, 2, none⟩ (.bool false)).setCell ⟨w.heap.size + 1, 3, none⟩ (.int .i64 0) = putL X (w.heap.size + 1) 0 [.int .i64 0, .slice none 0 0, .bool false, .int .i64 0] := fun _ => rfl
    rw [eP]
    have E := putL_here [.int .i64 0, .slice none 0 0, .bool false, .int .i64 0] 0 w3 _ HY3.out
    have hbb : Below w.heap.size w (putL w3 (w.heap.size + 1) 0 [.int .i64 0, .slice none 0 0, .bool false, .int .i64 0]) := HB3.out.trans ((putL_bel (w.heap.size + 1) _ _ w3).mono (by omega))
    have hkp : Keep (fun i => w.heap.size + 2 ≤ i) (fun i => w.heap.size ≤ i) w3 (putL w3 (w.heap.size + 1) 0 [.int .i64 0, .slice none 0 0, .bool false, .int .i64 0]) := ⟨by rw [putL_size]; exact Nat.le_refl _, fun i hi _ => ⟨by omega, putL_other _ _ _ _ i (by omega)⟩⟩
    generalize putL w3 (w.heap.size + 1) 0 [.int .i64 0, .slice none 0 0, .bool false, .int .i64 0] = Y' at E hbb hkp ⊢
    have t0 := cell_of E 0
    have t1 := cell_of E 1
    have t2 := cell_of E 2
    have t3 := cell_of E 3
    simp [setL] at t0 t1 t2 t3
    refine bodyPost_ret (v := .tuple #[gV 0 none 0 0 false 0, .slice none 0 0, .bool false, .int .i64 9]) (by simp [results, Tryd.results13, go_sem, t0, t1, t2, t3]) rfl ⟨⟨_, _, _, _, _, _, _, rfl, .inr (.inl ⟨HR0.out, HU.out, rfl⟩), fun _ => ⟨rfl, rfl, rfl, rfl⟩, fun h => absurd h (by decide)⟩, hbb⟩
  have HU : Hid (t ≤ u) := by show _ ≤ _; omega
  have HDU := toHid (due_any B v (Q.map (·.X)) a l c f t Y ba bl bc w3 (Nat.le_trans hB HB3.out.size) (HTB.out.below (HB3.out.mono hB)) (HGQ.out.below HB3.out) HSX.out (HYR.out.below HB3.out))
  clear HGQ HSX HYR
  go_wp2_with fail
  refine HDU.out.mono ?_
  rintro e w4 ⟨⟨sa, sl, sc, ze, rfl, hd1, hd2⟩, k4⟩
  have HD1 := toHid hd1
  have HD2 := toHid hd2
  have HX4 := toHid ((k4.block w.heap.size (by omega)).trans HX3.out)
  have HY4 := toHid ((k4.block (w.heap.size + 1) (by omega)).trans HY3.out)
  have HB4 := toHid (HB3.out.trans (k4.mono HB3.out.size))
  have hs4 : w.heap.size + 2 ≤ w4.heap.size := by have := k4.size; omega
  clear hd1 hd2 k4 HDU x0 x1 x2 x3 hlx
  by_cases hze : ze = 0
  case neg =>
    have hze' : (ze != 0) = true := by simp [hze]
    have HNE := toHid hze
    have HFF : Hid (f = false) := by
      cases f with
      | true => exact absurd (HD1.out rfl).1 hze
      | false => rfl
    clear hze
    have r0 := cell_of HY4.out 0
    have r1 := cell_of HY4.out 1
    have r2 := cell_of HY4.out 2
    have r3 := cell_of HY4.out 3
    simp at r0 r1 r2 r3
    have g0 := free_of HY4.out 0
    have g1 := free_of HY4.out 1
    have g2 := free_of HY4.out 2
    have g3 := free_of HY4.out 3
    go_wp2_with fail
    have eP : ∀ X : World, (((X.setCell ⟨w.heap.size + 1, 0, none⟩ (.int .i64 0)).setCell ⟨w.heap.size + 1, 1, none⟩ (.slice none 0 0)).setCell ⟨w.heap.size + 1, 2, none⟩ (.bool false)).setCell ⟨w.heap.size + 1, 3, none⟩ (.int .i64 0) = putL X (w.heap.size + 1) 0 [.int .i64 0, .slice none 0 0, .bool false, .int .i64 0] := fun _ => rfl
    rw [eP]
    have E := putL_here [.int .i64 0, .slice none 0 0, .bool false, .int .i64 0] 0 w4 _ HY4.out
    have hbb : Below w.heap.size w (putL w4 (w.heap.size + 1) 0 [.int .i64 0, .slice none 0 0, .bool false, .int .i64 0]) := HB4.out.trans ((putL_bel (w.heap.size + 1) _ _ w4).mono (by omega))
    have hkp : Keep (fun i => w.heap.size + 2 ≤ i) (fun i => w.heap.size ≤ i) w4 (putL w4 (w.heap.size + 1) 0 [.int .i64 0, .slice none 0 0, .bool false, .int .i64 0]) := ⟨by rw [putL_size]; exact Nat.le_refl _, fun i hi _ => ⟨by omega, putL_other _ _ _ _ i (by omega)⟩⟩
    have hqq := (HD2.out HFF.out).kept (A' := fun i => w.heap.size ≤ i) (w' := putL w4 (w.heap.size + 1) 0 [.int .i64 0, .slice none 0 0, .bool false, .int .i64 0]) ⟨by rw [putL_size]; exact Nat.le_refl _, fun i hi _ => ⟨by have h5 : w3.heap.size ≤ i := hi; omega, putL_other _ _ _ _ i (by have h5 : w3.heap.size ≤ i := hi; omega)⟩⟩
    generalize putL w4 (w.heap.size + 1) 0 [.int .i64 0, .slice none 0 0, .bool false, .int .i64 0] = Y' at E hbb hkp hqq ⊢
    have t0 := cell_of E 0
    have t1 := cell_of E 1
    have t2 := cell_of E 2
    have t3 := cell_of E 3
    simp [setL] at t0 t1 t2 t3
    refine bodyPost_ret (v := .tuple #[gV 0 none 0 0 false 0, .slice none 0 0, .bool false, .int .i64 ze]) (by simp [results, Tryd.results13, go_sem, t0, t1, t2, t3]) rfl ⟨⟨_, _, _, _, _, _, _, rfl, .inr (.inr (.inr ⟨HR0.out, HU.out, HFF.out, ?_⟩)), fun _ => ⟨rfl, rfl, rfl, rfl⟩, fun h => absurd h HNE.out⟩, hbb⟩
    obtain ⟨Z, z1, z2, z3⟩ := hqq
    rcases z3 with ⟨_, h6, _⟩ | ⟨h5, h6, _⟩
    · exact absurd h6 HNE.out
    · exact ⟨Z, z1, z2, .inr ⟨h5, h6, rfl⟩⟩
  have hze' : (ze != 0) = false := by simp [hze]
  have HZ0 := toHid hze
  have x0 := cell_of HX4.out 0
  have x1 := cell_of HX4.out 1
  have x2 := cell_of HX4.out 2
  have x3 := cell_of HX4.out 3
  simp at x0 x1 x2 x3
  have r0 := cell_of HY4.out 0
  have r1 := cell_of HY4.out 1
  have r2 := cell_of HY4.out 2
  have r3 := cell_of HY4.out 3
  simp at r0 r1 r2 r3
  have g0 := free_of HY4.out 0
  have g1 := free_of HY4.out 1
  have g2 := free_of HY4.out 2
  have g3 := free_of HY4.out 3
  have hlx := blkB_lt HX4.out
  have hly := blkB_lt HY4.out
  clear hze
  go_upto_region 9 with fail
  go_region
  all_goals
    go_wp2_with fail
    have eP : ∀ X : World, (((X.setCell ⟨w.heap.size + 1, 0, none⟩ (.int .i64 v)).setCell ⟨w.heap.size + 1, 1, none⟩ (.slice none 0 0)).setCell ⟨w.heap.size + 1, 2, none⟩ (.bool false)).setCell ⟨w.heap.size + 1, 3, none⟩ (.int .i64 u) = putL X (w.heap.size + 1) 0 [.int .i64 v, .slice none 0 0, .bool false, .int .i64 u] := fun _ => rfl
    rw [eP]
    have E : ((putL w4 (w.heap.size + 1) 0 [.int .i64 v, .slice none 0 0, .bool false, .int .i64 u]).drew).heap[w.heap.size + 1]? = _ := putL_here [.int .i64 v, .slice none 0 0, .bool false, .int .i64 u] 0 w4 _ HY4.out
    have hbb : Below w.heap.size w (putL w4 (w.heap.size + 1) 0 [.int .i64 v, .slice none 0 0, .bool false, .int .i64 u]).drew := (HB4.out.trans ((putL_bel (w.heap.size + 1) _ _ w4).mono (by omega))).drew
    have hkp : Keep (fun i => w3.heap.size ≤ i) (fun i => w.heap.size ≤ i) w4 (putL w4 (w.heap.size + 1) 0 [.int .i64 v, .slice none 0 0, .bool false, .int .i64 u]).drew := ⟨by show _ ≤ (putL w4 (w.heap.size + 1) 0 [.int .i64 v, .slice none 0 0, .bool false, .int .i64 u]).heap.size; rw [putL_size]; exact Nat.le_refl _, fun i hi _ => ⟨by omega, putL_other _ _ _ _ i (by omega)⟩⟩
    generalize (putL w4 (w.heap.size + 1) 0 [.int .i64 v, .slice none 0 0, .bool false, .int .i64 u]).drew = Y' at E hbb hkp ⊢
    have t0 := cell_of E 0
    have t1 := cell_of E 1
    have t2 := cell_of E 2
    have t3 := cell_of E 3
    simp [setL] at t0 t1 t2 t3
    refine bodyPost_ret (v := .tuple #[gV v none 0 0 false u, .slice sa sl sc, .bool f, .int .i64 0]) (by simp [results, Tryd.results13, go_sem, t0, t1, t2, t3]) rfl ⟨⟨_, _, _, _, _, _, _, rfl, ?_, fun h => absurd rfl h, fun _ => ⟨rfl, rfl, rfl⟩⟩, hbb⟩
    cases f with
    | true =>
      obtain ⟨h5, h6⟩ := HD1.out rfl
      exact .inr (.inr (.inl ⟨HR0.out, HU.out, rfl, rfl, h6.kept hkp⟩))
    | false =>
      have h6 := HD2.out rfl
      rw [HZ0.out] at h6
      exact .inr (.inr (.inr ⟨HR0.out, HU.out, rfl, h6.kept hkp⟩))

set_option linter.unusedSimpArgs false

theorem firstE_zero : ∀ E : List Int, (∀ e ∈ E, e = 0) → firstE E = 0
  | [], _ => rfl
  | e :: E, h => by
    show (if e = 0 then firstE E else e) = 0
    rw [if_pos (h e (List.mem_cons_self ..)), firstE_zero E fun x hx => h x (List.mem_cons_of_mem _ hx)]

theorem inL_mem : ∀ (L : List T), InL L → ∀ t ∈ L, InT t
  | [], _, t, h => by cases h
  | x :: L, hi, t, h => by
    unfold InL at hi
    rcases List.mem_cons.1 h with rfl | h
    · exact hi.1
    · exact inL_mem L hi.2 t h

theorem rowTE_right {L : List T} (h : RightR L) : rowTE L = 0 := by
  unfold rowTE rowErr
  rw [List.length_map, if_neg (by have := h.1; omega)]
  refine firstE_zero _ fun e he => ?_
  obtain ⟨t, ht, rfl⟩ := List.mem_map.1 he
  exact (chk_ck 6 t (inL_mem L h.2.2 t ht)).2 (h.2.1 t ht)

theorem cntX_right : ∀ (X : List Cn) (p : Option (List T)), (∀ q, p = some q → ∀ c ∈ X, ordL q c.1 < 0) → (X.Pairwise fun x y => ordL x.1 y.1 < 0) → (∀ c ∈ X, c.2 ≠ 0) → (∀ c ∈ X, RightR c.1) → (∀ c ∈ X, -1099511627776 ≤ c.2 ∧ c.2 ≤ 1099511627776) → cntX p X = 0
  | [], _, _, _, _, _, _ => rfl
  | c :: X, p, hp, hr, hz, hw, hs => by
    have h1 := rowTE_right (hw c (List.mem_cons_self ..))
    have h2 := hz c (List.mem_cons_self ..)
    have h3 := hs c (List.mem_cons_self ..)
    obtain ⟨h4, h5⟩ := List.pairwise_cons.1 hr
    have ih := cntX_right X (some c.1) (fun q hq x hx => by injection hq with hq; rw [← hq]; exact h4 x hx) h5 (fun x hx => hz x (List.mem_cons_of_mem _ hx)) (fun x hx => hw x (List.mem_cons_of_mem _ hx)) fun x hx => hs x (List.mem_cons_of_mem _ hx)
    have h7 : (c.2 == 0) = false := by simp [h2]
    cases p with
    | none =>
      unfold cntX
      rw [if_neg (by rw [h1]; simp), ih, h7, if_neg (by simp), if_neg (by omega)]
    | some q =>
      have h8 := hp q rfl c (List.mem_cons_self ..)
      have h9 : decide (0 ≤ ordL q c.1) = false := by
        simp only [decide_eq_false_iff_not]
        omega
      unfold cntX
      rw [if_neg (by rw [h1]; simp), ih, h7]
      show (if (false || decide (0 ≤ ordL q c.1)) = true then 6 else _) = (0 : Int)
      rw [h9, if_neg (by simp), if_neg (by omega)]

theorem bagX_fit {X : List Cn} (h : Fit X) : bagX X = 0 := by
  unfold bagX
  rw [if_neg (by have := h.len; omega)]
  exact cntX_right X none (fun q hq => by cases hq) h.bag.rises h.bag.nz h.rows h.small

set_option maxHeartbeats 4000000 in
set_option maxRecDepth 100000 in
theorem equalQ_any (XS : List (List Cn)) (a a' : Option Addr) (l c l' c' : Nat) (w : World) (h : GQ w XS a l) (h' : GQ w XS a' l') :
    Calls Tryd.prog 25 #[.slice a l c, .slice a' l' c', .func (.func 15) #[] #[]] w fun e w' => e = .returned (.bool true) ∧ Below w.heap.size w w' := by
  obtain ⟨Q, q1, q2, q3⟩ := h
  obtain ⟨Q', q1', q2', q3'⟩ := h'
  have hll : l = l' := by
    rw [q2.at'.1, q2'.at'.1]
    have h1 := congrArg List.length (q1.trans q1'.symm)
    rw [List.length_map, List.length_map] at h1
    exact h1
  subst hll
  have hmx : l ≤ 2000000 := q2.at'.2.1
  have HQ := toHid q2.at'
  have HQ' := toHid q2'.at'
  have HR : Hid (∀ q ∈ Q, RB w q.X q.a q.l) := fun q hq => (q2.bags q hq).right (q3 q hq)
  have HR' : Hid (∀ q ∈ Q', RB w q.X q.a q.l) := fun q hq => (q2'.bags q hq).right (q3' q hq)
  have HXX := toHid (q1.trans q1'.symm)
  have HL := toHid q2.at'.1
  have HL' := toHid q2'.at'.1
  clear q1 q2 q3 q1' q2' q3'
  go_enter Tryd.func25, Tryd.ntmps25
  go_wp2_with fail
  go_loopg [17] l (fun g s17 wr => ∃ i : Nat, i ≤ l ∧ l - i ≤ g ∧ s17 = .int .i64 i ∧ Below w.heap.size w wr)
  case atStart => exact ⟨0, Nat.zero_le _, by omega, rfl, Below.refl _ _⟩
  case round =>
    obtain ⟨i, hi, hg, rfl, hbw⟩ := hrel
    have HBW := toHid hbw
    clear hbw
    by_cases hlt : i < l
    · have hil : (i : Int) < l := by omega
      obtain ⟨b, off, rfl, hb, hc⟩ := HQ.out.2.2 (by omega)
      obtain ⟨b', off', rfl, hb', hc'⟩ := HQ'.out.2.2 (by omega)
      obtain ⟨q, hq, _⟩ := drop_get (L := Q) (i := i) (by have := HL.out; omega)
      obtain ⟨q', hq', _⟩ := drop_get (L := Q') (i := i) (by have := HL'.out; omega)
      have d0 := (HBW.out.cell (p := ⟨b, off + i, none⟩) hb).trans (hc i q hq)
      have e0 := (HBW.out.cell (p := ⟨b', off' + i, none⟩) hb').trans (hc' i q' hq')
      have hbl : b < wr.heap.size := Nat.lt_of_lt_of_le hb HBW.out.size
      have hbl' : b' < wr.heap.size := Nat.lt_of_lt_of_le hb' HBW.out.size
      have hXq : q.X = q'.X := by
        have h1 : (Q.map (·.X))[i]? = (Q'.map (·.X))[i]? := by rw [HXX.out]
        rw [List.getElem?_map, List.getElem?_map, hq, hq'] at h1
        injection h1
      have hr := (HR.out q (List.mem_of_getElem? hq)).below HBW.out
      have hr' := (HR'.out q' (List.mem_of_getElem? hq')).below HBW.out
      rw [← hXq] at hr'
      have HC := toHid (same_rb (c := q.c) (c' := q'.c) hr hr')
      clear hc hc' hq hq' hr hr' hXq hb hb'
      go_wp2_with fail
      refine HC.out.mono ?_
      rintro e w1 ⟨rfl, k1⟩
      have HB1 := toHid (HBW.out.trans (k1.mono HBW.out.size))
      clear k1 d0 e0
      go_wp2_with fail
      go_roundg (l - (i + 1))
      case measure => omega
      case rel => exact ⟨i + 1, by omega, Nat.le_refl _, by go_num, HB1.out⟩
    · have he : i = l := by omega
      subst he
      go_wp2_with fail
      go_ret
      exact ⟨rfl, HBW.out⟩

set_option maxHeartbeats 4000000 in
set_option maxRecDepth 100000 in
theorem sameG_any (XS : List (List Cn)) (v t : Int) (f : Bool) (a a' : Option Addr) (l c l' c' : Nat) (w : World) (h : GQ w XS a l) (h' : GQ w XS a' l') :
    Calls Tryd.prog 11 #[gV v a l c f t, gV v a' l' c' f t] w fun e w' => e = .returned (.bool true) ∧ Below w.heap.size w w' := by
  have b0 : Below w.heap.size w ((w.alloc (gObj v a l c f t)).alloc (gObj v a' l' c' f t)) := ((Below.refl _ _).alloc (Nat.le_refl _) _).alloc (by simp) _
  have hx := (Below.heap_alloc (w.alloc (gObj v a l c f t)) (gObj v a' l' c' f t) w.heap.size (by simp)).trans (alloc_new w (gObj v a l c f t))
  have hy := alloc_two w (gObj v a l c f t) (gObj v a' l' c' f t)
  have HE := toHid (equalQ_any XS a a' l c l' c' ((w.alloc (gObj v a l c f t)).alloc (gObj v a' l' c' f t)) (h.below b0) (h'.below b0))
  have HB := toHid b0
  clear h h' b0
  go_enter Tryd.func11, Tryd.ntmps11
  go_upto_region 1 with fail
  generalize (w.alloc (gObj v a l c f t)).alloc (gObj v a' l' c' f t) = W at HB HE hx hy ⊢
  have x0 := cell_of hx 0
  have x1 := cell_of hx 1
  have x2 := cell_of hx 2
  have x3 := cell_of hx 3
  have y0 := cell_of hy 0
  have y1 := cell_of hy 1
  have y2 := cell_of hy 2
  have y3 := cell_of hy 3
  simp at x0 x1 x2 x3 y0 y1 y2 y3
  have hlx := blkB_lt hx
  have hly := blkB_lt hy
  clear hx hy
  have hff : (f == f) = true := by simp
  go_wp2_with fail
  refine HE.out.mono ?_
  rintro e w1 ⟨rfl, k1⟩
  have HB1 := toHid (HB.out.trans (k1.mono HB.out.size))
  clear k1 x0 x1 x2 x3 y0 y1 y2 y3 hlx hly
  go_wp2_with fail
  go_ret
  exact ⟨rfl, HB1.out⟩

theorem nilQ_none (w : World) (l c : Nat) : (binOp .eql 22 (.slice none l c) (.slice none 0 0)).run Tryd.prog w = .ok (.bool true) w := by kernel_rfl
theorem nilQ_some (w : World) (ad : Addr) (l c : Nat) : (binOp .eql 22 (.slice (some ad) l c) (.slice none 0 0)).run Tryd.prog w = .ok (.bool false) w := by kernel_rfl

theorem qRow_one (Q : List Qd) : ∀ u ∈ qRow Q, u.oneCell' = true := fun u hu => by
  unfold qRow at hu
  obtain ⟨x, _, rfl⟩ := List.mem_map.1 hu
  rfl

theorem QAt.news {w : World} {Q : List Qd} {a : Option Addr} {l : Nat} (h : QAt w Q a l) : ∀ j u, (qRow Q)[j]? = some u → ∃ ad, a = some ad ∧ w.cell? (ad.add j) = some u := by
  intro j u hu
  unfold qRow at hu
  rw [List.getElem?_map] at hu
  obtain ⟨q, hq, rfl⟩ := Option.map_eq_some_iff.1 hu
  have hi := (List.getElem?_eq_some_iff.1 hq).1
  obtain ⟨b, off, ha, hb, hcc⟩ := h.2.2 (by rw [h.1]; omega)
  refine ⟨_, ha, ?_⟩
  rw [add_none]
  exact hcc j q hq

set_option maxHeartbeats 4000000 in
set_option maxRecDepth 100000 in
theorem cloneQ_any (Q : List Qd) (a : Option Addr) (l c : Nat) (w : World) (h : QAt w Q a l) :
    Calls Tryd.prog 12 #[.slice a l c] w fun e w' => (∃ v, e = .returned v ∧ w'.ownsRow w.heap.size 26 1 v Q.length (qRow Q)) ∧ Below w.heap.size w w' := by
  have HN : Hid (∀ W, Below w.heap.size w W → ∀ j u, (qRow Q)[j]? = some u → ∃ ad, a = some ad ∧ W.cell? (ad.add j) = some u) := fun W k => (h.below k).news
  have HL := toHid h.1
  have hl : l ≤ 2000000 := h.2.1
  have HFL : Hid ((qRow Q).length = l * 1) := by
    show _ = _
    rw [HL.out]
    simp [qRow]
  have HO := toHid (qRow_one Q)
  obtain ⟨i0, hi0, hiz, his, hib⟩ := bag_info
  have HI0 := toHid hi0
  have HIZ := toHid hiz
  have HIS := toHid his
  have HIB := toHid hib
  clear hi0 hiz his hib h
  cases a with
  | none =>
    have hr : qRow Q = [] := by
      cases hc : qRow Q with
      | nil => rfl
      | cons u us =>
        obtain ⟨_, e1, _⟩ := HN.out w (Below.refl _ _) 0 u (by rw [hc]; rfl)
        cases e1
    have h0 : l = 0 := by have := HFL.out; rw [hr] at this; simp at this; omega
    subst h0
    have HNN : Hid (Q.length = 0) := HL.out.symm
    have HR := toHid hr
    have hnil : ∀ w, (binOp .eql 22 (.slice none 0 c) (.slice none 0 0)).run Tryd.prog w = .ok (.bool true) w := fun w => nilQ_none w 0 c
    clear hr
    go_enter Tryd.func12, Tryd.ntmps12
    go_wp2_with fail
    go_ret
    refine ⟨⟨_, rfl, ?_⟩, Below.refl _ _⟩
    rw [HR.out, HNN.out]
    exact World.ownsRow_nil _ _ _ _
  | some ad =>
    have HB1 : l ≤ maxLen := by unfold maxLen; omega
    have hnil : ∀ w, (binOp .eql 22 (.slice (some ad) l c) (.slice none 0 0)).run Tryd.prog w = .ok (.bool false) w := fun w => nilQ_some w ad l c
    go_enter Tryd.func12, Tryd.ntmps12
    go_wp2_with (at_builtin; refine wpList_append_both _ rfl _ _ 22 rfl w.heap.size 26 i0 _ 1 24 Tryd.underlying22 HI0.out HIZ.out HIS.out HIB.out rfl (by omega) (.slice (some ⟨w.heap.size, 0, none⟩) 0 0) 0 [] (by rfl) (World.ownsRow_made _ #[] 0 (Nat.le_refl _) (by decide) rfl) (some ad) l c (qRow Q) (by rfl) HFL.out (HN.out _ ((Below.refl w.heap.size w).alloc (Nat.le_refl _) _)) HO.out (by omega) (by omega) (by simp) ?_)
    intro v' w' h1 h2 h3
    have hb : Below w.heap.size w w' := ((Below.refl w.heap.size w).alloc (Nat.le_refl _) _).grown h2 (by simp) (fun k hk => by
      have : w.heap.size = k := by simpa [Value.ownBlock] using hk
      omega)
    have HBB := toHid hb
    have HOW := toHid h1
    clear hb h1 h2 h3
    go_wp2_with fail
    go_ret
    refine ⟨⟨v', rfl, ?_⟩, HBB.out⟩
    rw [← HL.out]
    simpa using HOW.out
end Go.Proofs.YtmjeanpjiogkiaaDoor
