/-
  What is proved here: what the texts BTalOf, BOf, BSameB, BIdxJ, BNull, BJnb, BMeet0 prove, in one text.
-/
import Derived.Test.YtbjkpbeijkmoeaaGreatDoorQBAK
import Derived.Test.YtbjkpbeijkmoeaaGreatDoorQBAD
namespace Go.Proofs.YtbjkpbeijkmoeaaGreatDoor
open Go.RowKit
set_option linter.unusedVariables false

set_option linter.unusedSimpArgs false

set_option maxHeartbeats 8000000 in
set_option maxRecDepth 100000 in
theorem talOf_any (B : Nat) (cp0 : Value) (Ls : List Cn) (w : World) (hB : B ≤ w.heap.size) (hT : Tabs B w)
    (hv : ∀ (W : World) (bo : Nat), w.heap.size ≤ bo → TInv w.heap.size bo [] W (.slice none 0 0) → Below w.heap.size w W → Calls Tryz.prog 23 #[.func (.func 53) #[] #[.pointer (some ⟨bo, 0, none⟩)], cp0] W fun e w' => e = .returned (.tuple #[]) ∧ ∃ M v', Good Ls M ∧ TInv w.heap.size bo M w' v' ∧ TStep bo (.slice none 0 0) v' W w') :
    Calls Tryz.prog 22 #[.func (.func 23) #[] #[cp0]] w fun e w' => TalEnd w.heap.size w' Ls e ∧ Below w.heap.size w w' := by
  have b0 : Below w.heap.size w (w.alloc (.cells #[.slice none 0 0] 24)) := (Below.refl _ _).alloc (Nat.le_refl _) _
  have h0 := alloc_new w (.cells #[.slice none 0 0] 24)
  have HV := toHid (hv _ w.heap.size (Nat.le_refl _) ⟨h0, World.ownsRow_nil _ _ _ _, by simp [Value.ownBlock], fun x hx => by cases hx⟩ b0)
  have HB0 := toHid b0
  have HTB := toHid hT
  clear hv b0 h0 hT
  go_enter Tryz.func22, Tryz.ntmps22
  go_wp2_with (go_at_call 23; refine HV.out.mono ?_)
  rintro e w1 ⟨rfl, M, v1, hgood, hinv, hst⟩
  have HG := toHid hgood
  have HI := toHid hinv
  have HB1 : Hid (Below w.heap.size w w1) := HB0.out.trans (hst.toBelow (Nat.le_refl _) (fun g hg => by cases hg) (by simp))
  have y0 := cell_of hinv.box 0
  simp at y0
  have hbo := blkB_lt hinv.box
  have HS := toHid (sortC_any w1 w.heap.size v1 M hinv.row (Nat.le_trans hgood.len (by decide)) fun x hx => ⟨LieA.kept (Nat.le_refl _) (fun i hi _ => ⟨hi.2, rfl⟩) _ _ _ (hinv.rows x hx), (hgood.ok x hx).2⟩)
  clear hgood hinv hst HV HB0
  go_wp2_with (go_at_call 54; refine HS.out.mono ?_)
  rintro e w2 ⟨rfl, M2, hperm, hsort, hrow2, hgrow⟩
  have y2 : w2.cell? ⟨w.heap.size, 0, none⟩ = some v1 := (World.cell?_of_block (hgrow.block w.heap.size hbo fun e => HI.out.nbo e.symm)).trans y0
  have hbo2 : w.heap.size < w2.heap.size := Nat.lt_of_lt_of_le hbo hgrow.size
  have HB2 : Hid (Below w.heap.size w w2) := ⟨hgrow.os.trans HB1.out.os, hgrow.tape.trans HB1.out.tape, hgrow.output.trans HB1.out.output, Nat.le_trans HB1.out.size hgrow.size, fun k hk => (hgrow.block k (Nat.lt_of_lt_of_le hk HB1.out.size) fun e => by have := (rowLt HI.out.row e.symm).1; omega).trans (HB1.out.block k hk)⟩
  have HOK : Hid (∀ x ∈ M2, (LiesS w2 x.L x.a x.l ∧ InL x.L) ∧ wtL x.L ≤ 1099511627776) := fun x hx => by
    have hm := hperm.mem_iff.1 hx
    exact ⟨⟨LieA.lies _ _ _ (LieA.kept hgrow.size (A' := fun _ => True) (fun i hi hl => ⟨trivial, hgrow.block i hl fun e => hi.2 e.symm⟩) _ _ _ (HI.out.rows x hm)), (HG.out.ok x hm).1⟩, (HG.out.ok x hm).2⟩
  have hlen2 : M2.length = M.length := hperm.length_eq
  obtain ⟨va, vn, vc, rfl⟩ : ∃ va vn vc, v1 = .slice va vn vc := by
    rcases hrow2.2 with ⟨h0, _⟩ | ⟨g', cap', cur, h0, _⟩
    · exact ⟨_, _, _, h0⟩
    · exact ⟨_, _, _, h0⟩
  have hTG := together_any del_ok M2 va vn vc w2 (ctsOwn (by rw [hlen2]; exact hrow2) (by rw [hlen2]; exact Nat.le_trans HG.out.len (by decide))) (fun x hx => ⟨(HOK.out x hx).1.1, (HOK.out x hx).2⟩) (by rw [absS_perm hperm]; exact HG.out.abs)
  have HBAG := toHid (tal_bag HG.out hperm hsort)
  have hF := tal_ok (P := fun x => (LiesS w2 x.L x.a x.l ∧ InL x.L) ∧ wtL x.L ≤ 1099511627776) (fun p n h => h) HOK.out
  have hFL : ((tgCs M2).filter fun c => !(c.n == 0)).length ≤ 900000 := by
    have h1 := tgCs_len M2 M2.length
    rw [List.take_length] at h1
    exact Nat.le_trans (List.length_filter_le _ _) (Nat.le_trans h1 (by rw [hlen2]; exact HG.out.len))
  generalize (tgCs M2).filter (fun c => !(c.n == 0)) = F at hTG HBAG hF hFL
  have HTG := toHid hTG
  have HF := toHid hF
  clear hTG hF hperm hsort hrow2 hgrow y0 hbo hlen2 HS HI HG HB1 HOK
  go_wp2_with (go_at_call 57; refine HTG.out.mono ?_)
  rintro e w3 ⟨v3, rfl, hrow3, k3⟩
  have HB3 := toHid (HB2.out.trans (k3.mono HB2.out.size))
  obtain ⟨va3, vn3, vc3, rfl⟩ : ∃ va vn vc, v3 = .slice va vn vc := by
    rcases hrow3.2 with ⟨h0, _⟩ | ⟨g', cap', cur, h0, _⟩
    · exact ⟨_, _, _, h0⟩
    · exact ⟨_, _, _, h0⟩
  have hF3 : ∀ x ∈ F, LiesS w3 x.L x.a x.l ∧ InL x.L ∧ wtL x.L ≤ 1099511627776 := fun x hx => ⟨LiesS.below k3 _ _ _ (HF.out x hx).1.1, (HF.out x hx).1.2, (HF.out x hx).2⟩
  obtain ⟨O, hO1, hO2, hO3⟩ := told_all B w3 (Nat.le_trans hB HB3.out.size) (HTB.out.below (HB3.out.mono hB)) F hF3
  have hat := ctsOwn hrow3 (Nat.le_trans hFL (by decide))
  have HC := toHid (check_bag O va3 vn3 vc3 w3 w3 ⟨by rw [hO1]; exact hat, hO2⟩ (Below.refl _ _))
  have HAT := toHid hat
  have HF3 := toHid hF3
  have HO1 := toHid hO1
  have HO3 : Hid (∀ x e, (x, e) ∈ O → RowTold x.L e ∧ wtL x.L ≤ 1099511627776) := fun x e hx => ⟨hO3 x e hx, (hF3 x (by rw [← hO1]; exact List.mem_map.2 ⟨_, hx, rfl⟩)).2.2⟩
  have HBG : Hid (IsBag (O.map fun y => y.1.cn) ∧ ∀ r, cnt (O.map fun y => y.1.cn) r = cnt Ls r) := by
    have e1 : (O.map fun y => y.1.cn) = F.map Ct.cn := by rw [← hO1, List.map_map]; rfl
    show _ ∧ _
    rw [e1]
    exact HBAG.out
  generalize hz0 : bagE O = z at HC
  have HZ0 := toHid hz0
  clear hrow3 k3 hF3 hO1 hO2 hO3 hat hz0 y2 hbo2 HTG HB2 HBAG HF
  go_wp2_with (go_at_call 28; refine HC.out.mono ?_)
  rintro e w4 ⟨rfl, k4⟩
  have HB4 := toHid (HB3.out.trans (k4.mono HB3.out.size))
  by_cases hz : z = 0
  · have hz' : (z != 0) = false := by simp [hz]
    have HE := toHid (freshBag_any F va3 vn3 vc3 w4 (HAT.out.below k4) fun x hx => ⟨LiesS.below k4 _ _ _ (HF3.out x hx).1, (HF3.out x hx).2.2⟩)
    have HZ := toHid hz
    clear hz k4 HC
    go_wp2_with (go_at_call 58; refine HE.out.mono ?_)
    rintro e w5 ⟨⟨v5, rfl, hv5⟩, k5⟩
    have HB5 := toHid (HB4.out.trans (k5.mono HB4.out.size))
    have HV5 : Hid (CtsNew w.heap.size w5 (O.map (·.1)) v5) := by
      rw [HO1.out]
      obtain ⟨P, p1, p2⟩ := hv5
      refine ⟨P, ⟨p1.1, p1.2.elim .inl fun ⟨g, cap, cur, e1, e2, e3⟩ => .inr ⟨g, cap, cur, e1, Nat.le_trans HB4.out.size e2, e3⟩⟩, p2.mono fun p x _ _ h => h.kept ⟨Nat.le_refl _, fun i hi _ => ⟨⟨Nat.le_trans HB4.out.size hi.1, hi.2⟩, rfl⟩⟩⟩
    clear hv5 k5
    go_wp2_with fail
    refine bodyPost_ret (v := .tuple #[v5, .int .i64 0]) (by simp [results, Tryz.results22, go_sem]) rfl ?_
    exact ⟨⟨O, HBG.out.1, HBG.out.2, HO3.out, .inr ⟨HZ0.out.trans HZ.out, v5, rfl, HV5.out⟩⟩, HB5.out⟩
  · have hz' : (z != 0) = true := by simp [hz]
    have HZ := toHid hz
    clear hz k4 HC
    go_wp2_with fail
    refine bodyPost_ret (v := .tuple #[.slice none 0 0, .int .i64 z]) (by simp [results, Tryz.results22, go_sem]) rfl ?_
    exact ⟨⟨O, HBG.out.1, HBG.out.2, HO3.out, .inl ⟨by rw [HZ0.out]; exact HZ.out, by rw [HZ0.out]⟩⟩, HB4.out⟩

set_option linter.unusedSimpArgs false

theorem lie_low {w : World} {L : List T} {a : Option Addr} {l : Nat} (h : LiesS w L a l) : LieA (fun i => i < w.heap.size) w L a l := LieA.kept (Nat.le_refl _) (fun i _ hi => ⟨hi, rfl⟩) _ _ _ (LiesS.lie _ _ _ h)

theorem absS_ones : ∀ X : List Ct, (∀ x ∈ X, x.n = 1) → absS X = X.length
  | [], _ => rfl
  | x :: X, h => by
    show x.n.natAbs + absS X = X.length + 1
    rw [absS_ones X fun y hy => h y (List.mem_cons_of_mem _ hy), h x (List.mem_cons_self ..)]
    omega

set_option maxHeartbeats 4000000 in
set_option maxRecDepth 100000 in
theorem of_any (B : Nat) (X : List Ct) (a : Option Addr) (l c : Nat) (w : World) (hB : B ≤ w.heap.size) (hT : Tabs B w) (hX : RowsAt AnyB w X a l) (hok : ∀ x ∈ X, LiesS w x.L x.a x.l ∧ InL x.L ∧ wtL x.L ≤ 1099511627776) :
    Calls Tryz.prog 7 #[.slice a l c] w fun e w' => ((2000 < l ∧ e = .returned (.tuple #[.slice none 0 0, .int .i64 2])) ∨ (l ≤ 2000 ∧ ∃ B1, w.heap.size ≤ B1 ∧ TalEnd B1 w' (X.map Ct.cn) e)) ∧ Below w.heap.size w w' := by
  have b0 : Below w.heap.size w (w.alloc (.cells #[.slice a l c] 22)) := (Below.refl _ _).alloc (Nat.le_refl _) _
  have h0 := alloc_new w (.cells #[.slice a l c] 22)
  have z0 : (w.alloc (.cells #[.slice a l c] 22)).heap.size = w.heap.size + 1 := by simp
  have hlx : l = X.length := hX.1
  have hlm : l ≤ 900000 := hX.2.1
  have y0 := cell_of h0 0
  simp at y0
  have HB0 := toHid b0
  have H0 := toHid h0
  have HZ := toHid z0
  have HOF : Hid (Calls Tryz.prog 22 #[.func (.func 23) #[] #[.pointer (some ⟨w.heap.size, 0, none⟩)]] (w.alloc (.cells #[.slice a l c] 22)) fun e w' => TalEnd (w.alloc (.cells #[.slice a l c] 22)).heap.size w' (X.map Ct.cn) e ∧ Below (w.alloc (.cells #[.slice a l c] 22)).heap.size (w.alloc (.cells #[.slice a l c] 22)) w') := by
    refine talOf_any B _ (X.map Ct.cn) _ (Nat.le_trans hB b0.size) (hT.below (b0.mono hB)) fun W bo hbo hinv k => ?_
    have kw : Below w.heap.size w W := b0.trans (k.mono b0.size)
    have hR : RowsAt (fun i => i < (w.alloc (.cells #[.slice a l c] 22)).heap.size) W X a l := by
      refine ⟨hX.1, hX.2.1, hX.2.2.1, fun hl => ?_⟩
      obtain ⟨b, off, e1, _, e3, e4⟩ := hX.2.2.2 hl
      exact ⟨b, off, e1, by rw [z0]; omega, Nat.lt_of_lt_of_le e3 kw.size, fun i x hx => (kw.cell (p := ⟨b, off + i, none⟩) e3).trans (e4 i x hx)⟩
    refine (of1_any _ bo w.heap.size X a l c W k.size (by rw [z0]; omega) hbo ((k.block _ (by rw [z0]; omega)).trans h0) hR (fun x hx => LieA.kept kw.size (fun i hi hl => ⟨by rw [z0]; omega, kw.block i hi⟩) _ _ _ (lie_low (hok x hx).1)) hinv).mono ?_
    rintro e w' ⟨rfl, v', h1, h2⟩
    exact ⟨rfl, X, v', ⟨rfl, fun x hx => (hok x hx).2, by rw [absS_ones X hX.2.2.1]; omega, by omega⟩, h1, h2⟩
  clear b0 h0 z0 hX hok hT
  by_cases hl : 2000 < l
  · have hl' : (2000 : Int) < l := by omega
    have HLL := toHid hl
    clear hlx hl
    go_enter Tryz.func7, Tryz.ntmps7
    go_wp2_with fail
    refine bodyPost_ret (v := .tuple #[.slice none 0 0, .int .i64 2]) (by simp [results, Tryz.results7, go_sem]) rfl ?_
    exact ⟨.inl ⟨HLL.out, rfl⟩, HB0.out⟩
  · have hl' : ¬ ((2000 : Int) < l) := by omega
    have HLL : Hid (l ≤ 2000) := by show _ ≤ _; omega
    clear hlx hl
    generalize X.map Ct.cn = Ls at HOF ⊢
    go_enter Tryz.func7, Tryz.ntmps7
    go_wp2_with (go_at_call 22; refine HOF.out.mono ?_)
    intro e w1 hend k1
    have HB1 := toHid (HB0.out.trans (k1.mono (Nat.le_succ _)))
    have HEND := toHid hend
    obtain ⟨O, _, _, _, ⟨_, rfl⟩ | ⟨_, v, rfl, _⟩⟩ := hend
    all_goals
      clear k1
      go_wp2_with fail
      refine bodyPost_ret (by simp [results, Tryz.results7, go_sem]; rfl) rfl ?_
      exact ⟨.inr ⟨HLL.out, _, Nat.le_succ _, HEND.out⟩, HB1.out⟩

set_option linter.unusedSimpArgs false

set_option maxHeartbeats 4000000 in
set_option maxRecDepth 100000 in
theorem same1_any (x y : Ct) (b : Bool) (hb : b = (x.n == y.n && ordL x.L y.L == 0)) (w : World) (hx : LiesS w x.L x.a x.l ∧ wtL x.L ≤ 1099511627776) (hy : LiesS w y.L y.a y.l ∧ wtL y.L ≤ 1099511627776) :
    Calls Tryz.prog 33 #[.agg #[.slice x.a x.l x.c, .int .i64 x.n], .agg #[.slice y.a y.l y.c, .int .i64 y.n]] w fun e w' => e = .returned (.bool b) ∧ Below w.heap.size w w' := by
  have HC : Hid (∀ W', Below w.heap.size w W' → Calls Tryz.prog 26 #[.slice x.a x.l x.c, .slice y.a y.l y.c] W' fun e w' => e = .returned (.int .i64 (ordL x.L y.L)) ∧ Below W'.heap.size W' w') := fun W' k => compareRows_ref x.L y.L x.a x.l x.c y.a y.l y.c W' (LiesS.below k _ _ _ hx.1) (LiesS.below k _ _ _ hy.1) hx.2 hy.2
  generalize ordL x.L y.L = z at HC hb
  have HBB := toHid hb
  clear hx hy hb
  have HTWO : Hid (∀ o1 o2 : Obj, Below w.heap.size w ((w.alloc o1).alloc o2)) := fun o1 o2 => ((Below.refl _ _).alloc (Nat.le_refl _) _).alloc (by simp) _
  by_cases hn : x.n = y.n
  · have HZ : Hid (b = (z == 0)) := by show _ = _; rw [HBB.out]; simp [hn]
    clear HBB
    rw [hn]
    clear hn
    go_enter Tryz.func33, Tryz.ntmps33
    go_wp2_with fail
    refine (HC.out _ (HTWO.out _ _)).mono ?_
    rintro e w1 ⟨rfl, k1⟩
    have HB := toHid ((HTWO.out _ _).trans (k1.mono (HTWO.out _ _).size))
    clear k1
    go_wp2_with fail
    go_ret
    exact ⟨by rw [HZ.out]; rfl, HB.out⟩
  · have hn' : (x.n == y.n) = false := by simp [hn]
    have HZ : Hid (b = false) := by show _ = _; rw [HBB.out]; simp [hn]
    clear hn HBB
    go_enter Tryz.func33, Tryz.ntmps33
    go_wp2_with fail
    go_ret
    exact ⟨by rw [HZ.out]; rfl, HTWO.out _ _⟩

/-- The rows of counts from here on are alike. -/
def likeB : List Ct → List Ct → Bool
  | [], [] => true
  | x :: X, y :: Y => (x.n == y.n && ordL x.L y.L == 0) && likeB X Y
  | _, _ => false

theorem like_cn : ∀ X Y : List Ct, likeB X Y = true ↔ X.map Ct.cn = Y.map Ct.cn
  | [], [] => by simp [likeB]
  | [], y :: Y => by simp [likeB]
  | x :: X, [] => by simp [likeB]
  | x :: X, y :: Y => by
    have ih := like_cn X Y
    simp only [likeB, Bool.and_eq_true, ih, List.map_cons, List.cons.injEq, beq_iff_eq]
    have : x.cn = y.cn ↔ x.n = y.n ∧ ordL x.L y.L = 0 := by
      unfold Ct.cn
      rw [Prod.mk.injEq]
      refine ⟨fun h => ⟨h.2, by rw [h.1]; exact ordL_self _⟩, fun h => ⟨ordL_eq _ _ h.2, h.1⟩⟩
    rw [this]

theorem like_len {X Y : List Ct} (h : X.length ≠ Y.length) : likeB X Y = false := by
  cases hb : likeB X Y with
  | false => rfl
  | true =>
    have := congrArg List.length ((like_cn X Y).1 hb)
    rw [List.length_map, List.length_map] at this
    exact absurd this h

theorem like_drop {X Y : List Ct} {i : Nat} {x y : Ct} (hx : X.drop i = x :: X.drop (i + 1)) (hy : Y.drop i = y :: Y.drop (i + 1)) : likeB (X.drop i) (Y.drop i) = ((x.n == y.n && ordL x.L y.L == 0) && likeB (X.drop (i + 1)) (Y.drop (i + 1))) := by
  rw [hx, hy]
  rfl

set_option maxHeartbeats 4000000 in
set_option maxRecDepth 100000 in
theorem equalB_any (X Y : List Ct) (a a' : Option Addr) (l c l' c' : Nat) (w : World) (hX : CtsAt w X a l) (hY : CtsAt w Y a' l') (hx : ∀ x ∈ X, LiesS w x.L x.a x.l ∧ wtL x.L ≤ 1099511627776) (hy : ∀ x ∈ Y, LiesS w x.L x.a x.l ∧ wtL x.L ≤ 1099511627776) :
    Calls Tryz.prog 32 #[.slice a l c, .slice a' l' c', .func (.func 33) #[] #[]] w fun e w' => e = .returned (.bool (likeB X Y)) ∧ Below w.heap.size w w' := by
  have HX := toHid hX
  have HY := toHid hY
  have HRX := toHid hx
  have HRY := toHid hy
  have hmx : l ≤ 1000000 := hX.2.1
  have hmy : l' ≤ 1000000 := hY.2.1
  obtain ⟨R, hR⟩ : ∃ R, R = likeB X Y := ⟨_, rfl⟩
  rw [← hR]
  by_cases hll : l = l'
  · subst hll
    have H0 := toHid (show R = likeB (X.drop 0) (Y.drop 0) from hR)
    clear hX hY hx hy hR
    go_enter Tryz.func32, Tryz.ntmps32
    go_wp2_with fail
    go_loopg [17] l (fun g s17 wr => ∃ i : Nat, i ≤ l ∧ l - i ≤ g ∧ s17 = .int .i64 i ∧ R = likeB (X.drop i) (Y.drop i) ∧ Below w.heap.size w wr)
    case atStart => exact ⟨0, Nat.zero_le _, by omega, rfl, H0.out, Below.refl _ _⟩
    case round =>
      clear H0
      obtain ⟨i, hi, hg, rfl, hre, hbw⟩ := hrel
      have HRE := toHid hre
      have HBW := toHid hbw
      clear hre hbw
      by_cases hlt : i < l
      · have hil : (i : Int) < l := by omega
        obtain ⟨b, off, rfl, hb, hc⟩ := HX.out.2.2 (by omega)
        obtain ⟨b', off', rfl, hb', hc'⟩ := HY.out.2.2 (by omega)
        obtain ⟨x, hx, hdx⟩ := drop_get (L := X) (i := i) (by have := HX.out.1; omega)
        obtain ⟨y, hy, hdy⟩ := drop_get (L := Y) (i := i) (by have := HY.out.1; omega)
        obtain ⟨c0, c1⟩ := hc i x hx
        obtain ⟨e0, e1⟩ := hc' i y hy
        have d0 := (HBW.out.cell (p := ⟨b, off + i * 2, none⟩) hb).trans c0
        have d1 := (HBW.out.cell (p := ⟨b, off + i * 2 + 1, none⟩) hb).trans c1
        have f0 := (HBW.out.cell (p := ⟨b', off' + i * 2, none⟩) hb').trans e0
        have f1 := (HBW.out.cell (p := ⟨b', off' + i * 2 + 1, none⟩) hb').trans e1
        have hbl' : b' < wr.heap.size := Nat.lt_of_lt_of_le hb' HBW.out.size
        have hbl : b < wr.heap.size := Nat.lt_of_lt_of_le hb HBW.out.size
        have HA := toHid ((HBW.out.alloc HBW.out.size (cObj x)).alloc (HBW.out.alloc HBW.out.size (cObj x)).size (cObj y))
        obtain ⟨r, hr⟩ : ∃ r, r = (x.n == y.n && ordL x.L y.L == 0) := ⟨_, rfl⟩
        have hxr := HRX.out x (List.mem_of_getElem? hx)
        have hyr := HRY.out y (List.mem_of_getElem? hy)
        have HC := toHid (same1_any x y r hr ((wr.alloc (cObj x)).alloc (cObj y)) ⟨LiesS.below HA.out _ _ _ hxr.1, hxr.2⟩ ⟨LiesS.below HA.out _ _ _ hyr.1, hyr.2⟩)
        have HRL := toHid (HRE.out.trans (by rw [like_drop hdx hdy, ← hr]))
        clear c0 c1 e0 e1 hc hc' hx hy hdx hdy hr hxr hyr HRE
        go_wp2_with fail
        refine HC.out.mono ?_
        rintro e w1 ⟨rfl, k1⟩
        have HB1 := toHid (HA.out.trans (k1.mono HA.out.size))
        clear k1 d0 d1 f0 f1
        cases r with
        | true =>
          go_wp2_with fail
          go_roundg (l - (i + 1))
          case measure => omega
          case rel =>
            refine ⟨i + 1, by omega, Nat.le_refl _, by go_num, ?_, HB1.out⟩
            rw [HRL.out]
            rfl
        | false =>
          go_wp2_with fail
          go_ret
          refine ⟨?_, HB1.out⟩
          rw [HRL.out]
          rfl
      · have he : i = l := by omega
        subst he
        have hr1 : R = true := by
          rw [HRE.out, List.drop_eq_nil_of_le (by have := HX.out.1; omega), List.drop_eq_nil_of_le (by have := HY.out.1; omega)]
          rfl
        have HR1 := toHid hr1
        clear hr1
        go_wp2_with fail
        go_ret
        exact ⟨by rw [HR1.out]; rfl, HBW.out⟩
  · have hR0 : R = false := by rw [hR]; exact like_len (by rw [← hX.1, ← hY.1]; exact hll)
    have HR0 := toHid hR0
    have hne : ((l : Int) != (l' : Int)) = true := by simp; omega
    have hne2 : ¬ ((l : Int) = (l' : Int)) := by omega
    clear hX hY hx hy hR hR0
    go_enter Tryz.func32, Tryz.ntmps32
    go_wp2_with fail
    go_ret
    exact ⟨by rw [HR0.out]; rfl, Below.refl _ _⟩

set_option maxHeartbeats 4000000 in
set_option maxRecDepth 100000 in
theorem sameBag_ref (X Y : List Ct) (a a' : Option Addr) (l c l' c' : Nat) (w : World) (hX : CtsAt w X a l) (hY : CtsAt w Y a' l') (hx : ∀ x ∈ X, LiesS w x.L x.a x.l ∧ wtL x.L ≤ 1099511627776) (hy : ∀ x ∈ Y, LiesS w x.L x.a x.l ∧ wtL x.L ≤ 1099511627776) :
    Calls Tryz.prog 14 #[.slice a l c, .slice a' l' c'] w fun e w' => e = .returned (.bool (likeB X Y)) ∧ Below w.heap.size w w' := by
  have HE := toHid (equalB_any X Y a a' l c l' c' w hX hY hx hy)
  clear hX hY hx hy
  go_enter Tryz.func14, Tryz.ntmps14
  go_wp2_with fail
  refine HE.out.mono ?_
  rintro e w1 ⟨rfl, k1⟩
  have HB := toHid k1
  clear k1
  go_wp2_with fail
  go_ret
  exact ⟨rfl, HB.out⟩

set_option linter.unusedSimpArgs false

set_option maxHeartbeats 4000000 in
set_option maxRecDepth 100000 in
theorem idxJ_any (cp0 : Value) (p : Ct → Bool) (O : List Ct) (a : Option Addr) (l c : Nat) (w : World) (hO : CtsAt w O a l) (hp : ∀ q ∈ O, ∀ W, Below w.heap.size w W → Calls Tryz.prog 68 #[.agg #[.slice q.a q.l q.c, .int .i64 q.n], cp0] W fun e w' => e = .returned (.bool (p q)) ∧ Below W.heap.size W w') :
    Calls Tryz.prog 65 #[.slice a l c, .func (.func 68) #[] #[cp0]] w fun e w' => (∃ r : Int, e = .returned (.int .i64 r) ∧ (decide (0 ≤ r) = O.any p)) ∧ Below w.heap.size w w' := by
  have HO := toHid hO
  have hmx : l ≤ 1000000 := hO.2.1
  have HP := toHid hp
  clear hO hp
  go_enter Tryz.func65, Tryz.ntmps65
  go_wp2_with fail
  go_loopg [8] l (fun g s8 wr => ∃ i : Nat, i ≤ l ∧ l - i ≤ g ∧ s8 = .int .i64 i ∧ Below w.heap.size w wr ∧ O.any p = (O.drop i).any p)
  case atStart => exact ⟨0, Nat.zero_le _, by omega, rfl, Below.refl _ _, rfl⟩
  case round =>
    obtain ⟨i, hi, hg, rfl, hbw, hno⟩ := hrel
    have HNO := toHid hno
    have HBW := toHid hbw
    clear hno hbw
    by_cases hlt : i < l
    · obtain ⟨b, off, ha, hb, hc⟩ := HO.out.2.2 (by omega)
      subst ha
      obtain ⟨q, hq, hdq⟩ := drop_get (L := O) (i := i) (by have := HO.out.1; omega)
      obtain ⟨c0, c1⟩ := hc i q hq
      have d0 := (HBW.out.cell (p := ⟨b, off + i * 2, none⟩) hb).trans c0
      have d1 := (HBW.out.cell (p := ⟨b, off + i * 2 + 1, none⟩) hb).trans c1
      have HC := toHid (HP.out q (List.mem_of_getElem? hq) wr HBW.out)
      have HD : Hid (O.any p = (p q || (O.drop (i + 1)).any p)) := by
        show _ = _
        rw [HNO.out, hdq]
        rfl
      clear hc hq c0 c1 hb hdq HNO
      generalize p q = r at HC HD
      have hil : (i : Int) < l := by omega
      go_wp2_with fail
      refine HC.out.mono ?_
      rintro e w1 ⟨rfl, k1⟩
      have HB1 := toHid (HBW.out.trans (k1.mono HBW.out.size))
      clear k1 d0 d1
      cases r with
      | true =>
        go_wp2_with fail
        go_ret
        refine ⟨⟨(i : Int), rfl, ?_⟩, HB1.out⟩
        rw [HD.out]
        simp
      | false =>
        go_wp2_with fail
        go_roundg (l - (i + 1))
        case measure => omega
        case rel => exact ⟨i + 1, by omega, Nat.le_refl _, by go_num, HB1.out, by rw [HD.out]; rfl⟩
    · have he : i = l := by omega
      subst he
      have HN : Hid (O.any p = false) := by
        show _ = _
        rw [HNO.out, List.drop_eq_nil_of_le (by have := HO.out.1; omega)]
        rfl
      go_wp2_with fail
      go_ret
      refine ⟨⟨-1, rfl, ?_⟩, HBW.out⟩
      rw [HN.out]
      rfl

set_option maxHeartbeats 4000000 in
set_option maxRecDepth 100000 in
theorem holdsJ_any (cp0 : Value) (p : Ct → Bool) (O : List Ct) (a : Option Addr) (l c : Nat) (w : World) (hO : CtsAt w O a l) (hp : ∀ q ∈ O, ∀ W, Below w.heap.size w W → Calls Tryz.prog 68 #[.agg #[.slice q.a q.l q.c, .int .i64 q.n], cp0] W fun e w' => e = .returned (.bool (p q)) ∧ Below W.heap.size W w') :
    Calls Tryz.prog 34 #[.slice a l c, .func (.func 68) #[] #[cp0]] w fun e w' => e = .returned (.bool (O.any p)) ∧ Below w.heap.size w w' := by
  have HE := toHid (idxJ_any cp0 p O a l c w hO hp)
  generalize O.any p = r at HE ⊢
  clear hO hp
  go_enter Tryz.func34, Tryz.ntmps34
  go_wp2_with fail
  refine HE.out.mono ?_
  rintro e w1 ⟨⟨z, rfl, hz⟩, k1⟩
  have HB := toHid k1
  have HZ := toHid hz
  clear k1 hz
  go_wp2_with fail
  go_ret
  exact ⟨by rw [← HZ.out]; rfl, HB.out⟩

set_option linter.unusedSimpArgs false

def nullT : T → Bool
  | .node k _ _ _ => k == 0

set_option maxHeartbeats 4000000 in
set_option maxRecDepth 100000 in
theorem isNull_any (k n : Int) (s : ByteArray) (a : Option Addr) (l c : Nat) (b : Bool) (hb : (k == 0) = b) (w : World) :
    Calls Tryz.prog 70 #[.agg #[.int .i64 k, .int .i64 n, .string s, .slice a l c]] w fun e w' => e = .returned (.bool b) ∧ Below w.heap.size w w' := by
  have HB : Hid (Below w.heap.size w (w.alloc (vObj k n s a l c))) := (Below.refl _ _).alloc (Nat.le_refl _) _
  have HBB := toHid hb
  clear hb
  go_enter Tryz.func70, Tryz.ntmps70
  go_wp2_with fail
  go_ret
  exact ⟨by rw [← HBB.out]; rfl, HB.out⟩

set_option maxHeartbeats 4000000 in
set_option maxRecDepth 100000 in
theorem idxN_any (L : List T) (a : Option Addr) (l c : Nat) (w : World) (hL : LiesS w L a l) :
    Calls Tryz.prog 101 #[.slice a l c, .func (.func 70) #[] #[]] w fun e w' => (∃ r : Int, e = .returned (.int .i64 r) ∧ (decide (0 ≤ r) = L.any nullT)) ∧ Below w.heap.size w w' := by
  have HL := toHid hL
  have hmx := hL.length.2
  clear hL
  go_enter Tryz.func101, Tryz.ntmps101
  go_wp2_with fail
  go_loopg [8] l (fun g s8 wr => ∃ i : Nat, i ≤ l ∧ l - i ≤ g ∧ s8 = .int .i64 i ∧ Below w.heap.size w wr ∧ L.any nullT = (L.drop i).any nullT)
  case atStart => exact ⟨0, Nat.zero_le _, by omega, rfl, Below.refl _ _, rfl⟩
  case round =>
    obtain ⟨i, hi, hg, rfl, hbw, hno⟩ := hrel
    have HNO := toHid hno
    have HBW := toHid hbw
    clear hno hbw
    by_cases hlt : i < l
    · obtain ⟨b, off, _, ha, _⟩ := HL.out.get hlt
      subst ha
      obtain ⟨kt, nt, st, Lt, at', lt, ct, hb, hdr, p0, p1, p2, p3, hltc, hLt, hwt⟩ := HL.out.at hlt
      have q0 := (HBW.out.cell (p := ⟨b, off + i * 4, none⟩) hb).trans p0
      have q1 := (HBW.out.cell (p := ⟨b, off + i * 4 + 1, none⟩) hb).trans p1
      have q2 := (HBW.out.cell (p := ⟨b, off + i * 4 + 1 + 1, none⟩) hb).trans p2
      have q3 := (HBW.out.cell (p := ⟨b, off + i * 4 + 1 + 1 + 1, none⟩) hb).trans p3
      obtain ⟨r, hr⟩ : ∃ r, (kt == 0) = r := ⟨_, rfl⟩
      have HC := toHid (isNull_any kt nt st at' lt ct r hr wr)
      have HD : Hid (L.any nullT = (r || (L.drop (i + 1)).any nullT)) := by
        show _ = _
        rw [HNO.out, hdr, ← hr]
        rfl
      clear p0 p1 p2 p3 hdr hLt hwt hr HNO
      have hil : (i : Int) < l := by omega
      go_wp2_with fail
      refine HC.out.mono ?_
      rintro e w1 ⟨rfl, k1⟩
      have HB1 := toHid (HBW.out.trans (k1.mono HBW.out.size))
      clear k1 q0 q1 q2 q3
      cases r with
      | true =>
        go_wp2_with fail
        go_ret
        refine ⟨⟨(i : Int), rfl, ?_⟩, HB1.out⟩
        rw [HD.out]
        simp
      | false =>
        go_wp2_with fail
        go_roundg (l - (i + 1))
        case measure => omega
        case rel => exact ⟨i + 1, by omega, Nat.le_refl _, by go_num, HB1.out, by rw [HD.out]; rfl⟩
    · have he : i = l := by omega
      subst he
      have HN : Hid (L.any nullT = false) := by
        show _ = _
        rw [HNO.out, List.drop_eq_nil_of_le (by have := HL.out.length.1; omega)]
        rfl
      go_wp2_with fail
      go_ret
      refine ⟨⟨-1, rfl, ?_⟩, HBW.out⟩
      rw [HN.out]
      rfl

set_option maxHeartbeats 4000000 in
set_option maxRecDepth 100000 in
theorem holdsN_any (L : List T) (a : Option Addr) (l c : Nat) (w : World) (hL : LiesS w L a l) :
    Calls Tryz.prog 69 #[.slice a l c, .func (.func 70) #[] #[]] w fun e w' => e = .returned (.bool (L.any nullT)) ∧ Below w.heap.size w w' := by
  have HE := toHid (idxN_any L a l c w hL)
  generalize L.any nullT = r at HE ⊢
  clear hL
  go_enter Tryz.func69, Tryz.ntmps69
  go_wp2_with fail
  refine HE.out.mono ?_
  rintro e w1 ⟨⟨z, rfl, hz⟩, k1⟩
  have HB := toHid k1
  have HZ := toHid hz
  clear k1 hz
  go_wp2_with fail
  go_ret
  exact ⟨by rw [← HZ.out]; rfl, HB.out⟩

/-- A row's first values lie where it lies. -/
theorem LiesS.take {w : World} : ∀ {L : List T} {a : Option Addr} {l : Nat} (h : LiesS w L a l) {k : Nat} (hk : k ≤ l), LiesS w (L.take k) a k
  | [], a, l, h, k, hk => by
    unfold LiesS at h
    have : k = 0 := by omega
    subst this
    rfl
  | t :: ts, a, l, h, 0, hk => rfl
  | t :: ts, a, l, h, k + 1, hk => by
    unfold LiesS at h
    obtain ⟨b, off, e, hl, hm, hb, hT, hS⟩ := h
    have ih := LiesS.take hS (k := k) (by omega)
    rw [List.take_succ_cons]
    unfold LiesS
    have e1 : (ts.take k).length = k := by rw [List.length_take]; omega
    exact ⟨b, off, e, by rw [e1], by omega, hb, hT, by rw [e1]; exact ih⟩

/-- Those behind them lie behind them. -/
theorem LiesS.drop {w : World} : ∀ {L : List T} {b off l : Nat} (h : LiesS w L (some ⟨b, off, none⟩) l) {k : Nat} (hk : k < l), LiesS w (L.drop k) (some ⟨b, off + k * 4, none⟩) (l - k)
  | [], b, off, l, h, k, hk => by
    unfold LiesS at h
    omega
  | t :: ts, b, off, l, h, 0, hk => by simpa using h
  | t :: ts, b, off, l, h, k + 1, hk => by
    unfold LiesS at h
    obtain ⟨b', off', e, hl, hm, hb, hT, hS⟩ := h
    simp only [Option.some.injEq, Addr.mk.injEq, and_true] at e
    obtain ⟨rfl, rfl⟩ := e
    have ih := LiesS.drop hS (k := k) (by omega)
    rw [List.drop_succ_cons, show off + (k + 1) * 4 = off + 4 + k * 4 by omega, show l - (k + 1) = ts.length - k by omega]
    exact ih

set_option linter.unusedSimpArgs false

set_option maxHeartbeats 4000000 in
set_option maxRecDepth 100000 in
theorem short_any (q : Ct) (bk : Nat) (k : Int) (w : World) (hb : w.heap[bk]? = some (.cells #[.int .i64 k] 3 (0, 0))) :
    Calls Tryz.prog 68 #[.agg #[.slice q.a q.l q.c, .int .i64 q.n], .pointer (some ⟨bk, 0, none⟩)] w fun e w' => e = .returned (.bool (decide ((q.l : Int) < k))) ∧ Below w.heap.size w w' := by
  have HB : Hid (Below w.heap.size w (w.alloc (cObj q))) := (Below.refl _ _).alloc (Nat.le_refl _) _
  have y0 := cell_of hb 0
  simp at y0
  have hbl := blkB_lt hb
  clear hb
  go_enter Tryz.func68, Tryz.ntmps68
  go_wp2_with fail
  go_ret
  exact ⟨rfl, HB.out⟩

def shortC (k : Int) (q : Ct) : Bool := decide ((q.l : Int) < k)

/-- What is wrong with that which Join is handed. -/
def joinE (X Y : List (Ct × Int)) (k : Int) : Int :=
  if k < 0 ∨ 30 < k then 9 else if ((X.map (·.1)).any (shortC k) || (Y.map (·.1)).any (shortC k)) = true then 9 else if 0 < X.length ∧ (20000 / X.length : Nat) < Y.length then 2 else if bagE X = 0 then bagE Y else bagE X

set_option maxHeartbeats 4000000 in
set_option maxRecDepth 100000 in
theorem joinable_any (X Y : List (Ct × Int)) (k : Int) (a a' : Option Addr) (l c l' c' : Nat) (w : World) (hX : BagIn w X a l) (hY : BagIn w Y a' l') :
    Calls Tryz.prog 39 #[.slice a l c, .slice a' l' c', .int .i64 k] w fun e w' => e = .returned (.int .i64 (joinE X Y k)) ∧ Below w.heap.size w w' := by
  have HX := toHid hX
  have HY := toHid hY
  have hmx : l ≤ 1000000 := hX.at'.2.1
  have hmy : l' ≤ 1000000 := hY.at'.2.1
  have HLX : Hid (X.length = l) := by have := hX.at'.1; rw [List.length_map] at this; exact this.symm
  have HLY : Hid (Y.length = l') := by have := hY.at'.1; rw [List.length_map] at this; exact this.symm
  have b0 : Below w.heap.size w (w.alloc (.cells #[.int .i64 k] 3)) := (Below.refl _ _).alloc (Nat.le_refl _) _
  have HB0 := toHid b0
  have H0 := toHid (alloc_new w (.cells #[.int .i64 k] 3))
  obtain ⟨R, hR⟩ : ∃ R, R = joinE X Y k := ⟨_, rfl⟩
  rw [← hR]
  have HR := toHid hR
  clear hX hY b0 hR
  by_cases h1 : k < 0
  · have HR9 : Hid (R = 9) := by
      show _ = _
      rw [HR.out]
      unfold joinE
      rw [if_pos (.inl h1)]
    clear HR
    go_enter Tryz.func39, Tryz.ntmps39
    go_wp2_with fail
    go_ret
    exact ⟨ret_int HR9.out.symm, HB0.out⟩
  · by_cases h2 : 30 < k
    · have HR9 : Hid (R = 9) := by
        show _ = _
        rw [HR.out]
        unfold joinE
        rw [if_pos (.inr h2)]
      clear HR
      go_enter Tryz.func39, Tryz.ntmps39
      go_wp2_with fail
      go_ret
      exact ⟨ret_int HR9.out.symm, HB0.out⟩
    · obtain ⟨sx, hsx⟩ : ∃ sx, sx = (X.map (·.1)).any (shortC k) := ⟨_, rfl⟩
      obtain ⟨sy, hsy⟩ : ∃ sy, sy = (Y.map (·.1)).any (shortC k) := ⟨_, rfl⟩
      obtain ⟨zx, hzx⟩ : ∃ zx, zx = bagE X := ⟨_, rfl⟩
      obtain ⟨zy, hzy⟩ : ∃ zy, zy = bagE Y := ⟨_, rfl⟩
      have HR1 : Hid (R = if (sx || sy) = true then 9 else if 0 < l ∧ (20000 / l : Nat) < l' then 2 else if zx = 0 then zy else zx) := by
        show _ = _
        rw [HR.out]
        unfold joinE
        rw [if_neg (by omega), ← hsx, ← hsy, ← hzx, ← hzy, HLX.out, HLY.out]
      have HCX : Hid (∀ W, Below w.heap.size w W → W.heap[w.heap.size]? = some (.cells #[.int .i64 k] 3 (0, 0)) → Calls Tryz.prog 34 #[.slice a l c, .func (.func 68) #[] #[.pointer (some ⟨w.heap.size, 0, none⟩)]] W fun e w' => e = .returned (.bool sx) ∧ Below W.heap.size W w') := fun W kW hW => by
        rw [hsx]
        exact holdsJ_any _ (shortC k) (X.map (·.1)) a l c W (HX.out.at'.below kW) fun q hq W2 k2 => short_any q _ k W2 ((k2.block _ (blkB_lt hW)).trans hW)
      have HCY : Hid (∀ W, Below w.heap.size w W → W.heap[w.heap.size]? = some (.cells #[.int .i64 k] 3 (0, 0)) → Calls Tryz.prog 34 #[.slice a' l' c', .func (.func 68) #[] #[.pointer (some ⟨w.heap.size, 0, none⟩)]] W fun e w' => e = .returned (.bool sy) ∧ Below W.heap.size W w') := fun W kW hW => by
        rw [hsy]
        exact holdsJ_any _ (shortC k) (Y.map (·.1)) a' l' c' W (HY.out.at'.below kW) fun q hq W2 k2 => short_any q _ k W2 ((k2.block _ (blkB_lt hW)).trans hW)
      have HKX : Hid (∀ W, Below w.heap.size w W → Calls Tryz.prog 28 #[.slice a l c] W fun e w' => e = .returned (.int .i64 zx) ∧ Below W.heap.size W w') := fun W kW => by
        rw [hzx]
        exact check_bag X a l c w W HX.out kW
      have HKY : Hid (∀ W, Below w.heap.size w W → Calls Tryz.prog 28 #[.slice a' l' c'] W fun e w' => e = .returned (.int .i64 zy) ∧ Below W.heap.size W w') := fun W kW => by
        rw [hzy]
        exact check_bag Y a' l' c' w W HY.out kW
      clear HR hsx hsy hzx hzy HX HY HLX HLY
      go_enter Tryz.func39, Tryz.ntmps39
      go_wp2_with fail
      refine (HCX.out _ HB0.out H0.out).mono ?_
      rintro e w1 ⟨rfl, k1⟩
      have HB1 := toHid (HB0.out.trans (k1.mono HB0.out.size))
      have H1 := toHid ((k1.block _ (blkB_lt H0.out)).trans H0.out)
      clear k1 HB0 H0 HCX
      cases sx with
      | true =>
        go_wp2_with fail
        go_ret
        exact ⟨ret_int (by rw [HR1.out]; rfl), HB1.out⟩
      | false =>
        go_wp2_with fail
        refine (HCY.out _ HB1.out H1.out).mono ?_
        rintro e w2 ⟨rfl, k2⟩
        have HB2 := toHid (HB1.out.trans (k2.mono HB1.out.size))
        clear k2 HB1 H1 HCY
        cases sy with
        | true =>
          go_wp2_with fail
          go_ret
          exact ⟨ret_int (by rw [HR1.out]; rfl), HB2.out⟩
        | false =>
          have HR2 : Hid (R = if 0 < l ∧ (20000 / l : Nat) < l' then 2 else if zx = 0 then zy else zx) := HR1.out
          clear HR1
          by_cases hl0 : 0 < l
          · have hl0' : (0 : Int) < l := by omega
            have hne : ((l : Int) == 0) = false := by simp; omega
            have hne2 : ¬ ((l : Int) = 0) := by omega
            have e1 : ((20000 / l : Nat) : Int) = (20000 : Int) / (l : Int) := by simp
            by_cases hq : (20000 : Int) / (l : Int) < (l' : Int)
            · have HR3 : Hid (R = 2) := by
                show _ = _
                rw [HR2.out, if_pos ⟨hl0, by omega⟩]
              clear e1
              go_wp2_with fail
              go_ret
              exact ⟨ret_int HR3.out.symm, HB2.out⟩
            · have HR3 : Hid (R = if zx = 0 then zy else zx) := by
                show _ = _
                rw [HR2.out, if_neg (by omega)]
              clear e1
              go_wp2_with (go_at_call 28; refine (HKX.out _ HB2.out).mono ?_)
              rintro e w3 ⟨rfl, k3⟩
              have HB3 := toHid (HB2.out.trans (k3.mono HB2.out.size))
              clear k3 HB2
              go_wp2_with (go_at_call 28; refine (HKY.out _ HB3.out).mono ?_)
              rintro e w4 ⟨rfl, k4⟩
              have HB4 := toHid (HB3.out.trans (k4.mono HB3.out.size))
              have HN := alloc_new w4 (.cells #[.int .i64 zx, .int .i64 zy] 25)
              have HO := toHid (or_two zx zy R HR3.out _ _ ((cell_of HN 0).trans rfl) ((cell_of HN 1).trans rfl))
              have HB5 := toHid (HB4.out.alloc HB4.out.size (.cells #[.int .i64 zx, .int .i64 zy] 25))
              clear k4 HB3 HN
              go_wp2_with fail
              refine HO.out.mono ?_
              rintro e w5 ⟨rfl, rfl⟩
              go_wp2_with fail
              go_ret
              exact ⟨rfl, HB5.out⟩
          · have hl0' : ¬ ((0 : Int) < l) := by omega
            have HR3 : Hid (R = if zx = 0 then zy else zx) := by
              show _ = _
              rw [HR2.out, if_neg (by omega)]
            go_wp2_with (go_at_call 28; refine (HKX.out _ HB2.out).mono ?_)
            rintro e w3 ⟨rfl, k3⟩
            have HB3 := toHid (HB2.out.trans (k3.mono HB2.out.size))
            clear k3 HB2
            go_wp2_with (go_at_call 28; refine (HKY.out _ HB3.out).mono ?_)
            rintro e w4 ⟨rfl, k4⟩
            have HB4 := toHid (HB3.out.trans (k4.mono HB3.out.size))
            have HN := alloc_new w4 (.cells #[.int .i64 zx, .int .i64 zy] 25)
            have HO := toHid (or_two zx zy R HR3.out _ _ ((cell_of HN 0).trans rfl) ((cell_of HN 1).trans rfl))
            have HB5 := toHid (HB4.out.alloc HB4.out.size (.cells #[.int .i64 zx, .int .i64 zy] 25))
            clear k4 HB3 HN
            go_wp2_with fail
            refine HO.out.mono ?_
            rintro e w5 ⟨rfl, rfl⟩
            go_wp2_with fail
            go_ret
            exact ⟨rfl, HB5.out⟩

set_option linter.unusedSimpArgs false

/-- A count whose row can be cut here. -/
structure RowOk (w : World) (k : Nat) (x : Ct) : Prop where
  lies : LiesS w x.L x.a x.l
  wt : wtL x.L ≤ 1099511627776
  cut : k ≤ x.l
  cap : x.l ≤ x.c

/-- Those that meet one. -/
def meetY (k : Nat) (x : Ct) (Y : List Ct) : List (Ct × Ct) := if (x.L.take k).any nullT = true then [] else (Y.filter fun y => ordL (x.L.take k) (y.L.take k) == 0).map fun y => (x, y)

def meetL (k : Nat) (X Y : List Ct) : List (Ct × Ct) := X.flatMap fun x => meetY k x Y

theorem meetY_len (k : Nat) (x : Ct) (Y : List Ct) : (meetY k x Y).length ≤ Y.length := by
  unfold meetY
  split
  · simp
  · rw [List.length_map]
    exact List.length_filter_le _ _

theorem meetL_len (k : Nat) (Y : List Ct) : ∀ X : List Ct, (meetL k X Y).length ≤ X.length * Y.length
  | [] => by simp [meetL]
  | x :: X => by
    have ih := meetL_len k Y X
    have h1 := meetY_len k x Y
    have e : (meetL k (x :: X) Y).length = (meetY k x Y).length + (meetL k X Y).length := by simp [meetL]
    rw [e, List.length_cons, Nat.add_mul]
    omega

theorem meetL_take {k : Nat} {X Y : List Ct} {i : Nat} {x : Ct} (h : X[i]? = some x) : meetL k (X.take (i + 1)) Y = meetL k (X.take i) Y ++ meetY k x Y := by
  unfold meetL
  rw [List.take_add_one, h, Option.toList_some, List.flatMap_append]
  simp

theorem meetY_take {k : Nat} {x : Ct} (hn : (x.L.take k).any nullT = false) {Y : List Ct} {j : Nat} {y : Ct} (h : Y[j]? = some y) : meetY k x (Y.take (j + 1)) = meetY k x (Y.take j) ++ (if ordL (x.L.take k) (y.L.take k) = 0 then [(x, y)] else []) := by
  unfold meetY
  rw [hn, if_neg (by simp), if_neg (by simp), List.take_add_one, h, Option.toList_some, List.filter_append, List.map_append]
  by_cases hz : ordL (x.L.take k) (y.L.take k) = 0
  · simp [hz]
  · simp [hz]

theorem meet_mem {k : Nat} {X Y : List Ct} {x y : Ct} (hx : x ∈ X) (hy : y ∈ Y) (hn : (x.L.take k).any nullT = false) (ho : ordL (x.L.take k) (y.L.take k) = 0) : (x, y) ∈ meetL k X Y := by
  unfold meetL
  refine List.mem_flatMap.2 ⟨x, hx, ?_⟩
  unfold meetY
  rw [hn, if_neg (by simp)]
  exact List.mem_map.2 ⟨y, List.mem_filter.2 ⟨hy, by simp [ho]⟩, rfl⟩

theorem wtL_take : ∀ (L : List T) (k : Nat), wtL (L.take k) ≤ wtL L
  | [], k => by simp
  | t :: ts, 0 => by
    show wtL [] ≤ wtL (t :: ts)
    have := wtL_pos ts
    unfold wtL
    omega
  | t :: ts, k + 1 => by
    have := wtL_take ts k
    rw [List.take_succ_cons]
    unfold wtL
    omega
end Go.Proofs.YtbjkpbeijkmoeaaGreatDoor
