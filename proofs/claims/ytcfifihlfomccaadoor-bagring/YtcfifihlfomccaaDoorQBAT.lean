/-
  What is proved here: what the texts BAdd, BLawOn, BLong, BLack prove, in one text.
-/
import Derived.Test.YtcfifihlfomccaaDoorQBAS
import Derived.Test.YtcfifihlfomccaaDoorQBAQ
import Derived.Test.YtcfifihlfomccaaDoorQBAR
import Derived.Test.YtcfifihlfomccaaDoorQBAM
import Derived.Test.YtcfifihlfomccaaDoorQBAI
namespace Go.Proofs.YtcfifihlfomccaaDoor
open Go.RowKit
set_option linter.unusedVariables false

set_option linter.unusedSimpArgs false

def mulX (k : Int) (X : List Cn) : List Cn := X.map fun c => (c.1, k * c.2)

theorem cnt_mul (k : Int) (X : List Cn) (r : List T) : cnt (mulX k X) r = k * cnt X r := by
  induction X with
  | nil => show (0 : Int) = k * 0; omega
  | cons c X ih =>
    show (if ordL c.1 r = 0 then k * c.2 else 0) + cnt (mulX k X) r = k * ((if ordL c.1 r = 0 then c.2 else 0) + cnt X r)
    rw [ih, Int.mul_add]
    split
    · rfl
    · rw [Int.mul_zero]

theorem absS_le {m : Nat} : ∀ X : List Ct, (∀ x ∈ X, x.n.natAbs ≤ m) → absS X ≤ X.length * m
  | [], _ => by simp [absS]
  | x :: X, h => by
    have h1 := h x (List.mem_cons_self ..)
    have h2 := absS_le X fun y hy => h y (List.mem_cons_of_mem _ hy)
    show x.n.natAbs + absS X ≤ _
    rw [List.length_cons, Nat.add_mul]
    omega

/-- What Add answers of right bags. -/
def AddEnd (w' : World) (X Y : List Cn) (k : Int) (e : Ending) : Prop := ∃ Z, IsBag Z ∧ (∀ r, cnt Z r = cnt X r + k * cnt Y r) ∧ ((Fit Z ∧ ∃ a l c, e = .returned (.tuple #[.slice a l c, .int .i64 0]) ∧ RB w' Z a l) ∨ (¬ Fit Z ∧ ∃ z, z ≠ 0 ∧ e = .returned (.tuple #[.slice none 0 0, .int .i64 z])))

set_option maxHeartbeats 8000000 in
set_option maxRecDepth 100000 in
theorem add_tal (B : Nat) (X Y : List Cn) (k : Int) (zx zy R : Int) (a a' : Option Addr) (l c l' c' : Nat) (w : World) (hB : B ≤ w.heap.size) (hT : Tabs B w) (hk : -1000 ≤ k ∧ k ≤ 1000) (hR : R = if zx = 0 then zy else zx)
    (hCX : ∀ W, Below w.heap.size w W → Calls Tryd.prog 7 #[.slice a l c] W fun e w' => e = .returned (.int .i64 zx) ∧ Below W.heap.size W w')
    (hCY : ∀ W, Below w.heap.size w W → Calls Tryd.prog 7 #[.slice a' l' c'] W fun e w' => e = .returned (.int .i64 zy) ∧ Below W.heap.size W w')
    (hX : R = 0 → RB w X a l) (hY : R = 0 → RB w Y a' l') :
    Calls Tryd.prog 11 #[.slice a l c, .slice a' l' c', .int .i64 k] w fun e w' => ((R ≠ 0 ∧ e = .returned (.tuple #[.slice none 0 0, .int .i64 R])) ∨ (R = 0 ∧ ∃ B1, w.heap.size ≤ B1 ∧ TalEnd B1 w' (X ++ mulX k Y) e)) ∧ Below w.heap.size w w' := by
  have HCX := toHid hCX
  have HCY := toHid hCY
  have HER := toHid hR
  have HX := toHid hX
  have HY := toHid hY
  have HTB := toHid hT
  have hk1 : ¬ (k < (-1000 : Int)) := by omega
  have hk2 : ¬ ((1000 : Int) < k) := by omega
  have HKK := toHid hk
  clear hCX hCY hR hX hY hT hk
  have b0 : Below w.heap.size w (((w.alloc (.cells #[.slice a l c] 23)).alloc (.cells #[.slice a' l' c'] 23)).alloc (.cells #[.int .i64 k] 3)) := (((Below.refl _ _).alloc (Nat.le_refl _) _).alloc (by simp) _).alloc (by simp; omega) _
  have z0 : (((w.alloc (.cells #[.slice a l c] 23)).alloc (.cells #[.slice a' l' c'] 23)).alloc (.cells #[.int .i64 k] 3)).heap.size = w.heap.size + 3 := by simp
  obtain ⟨W, hW⟩ : ∃ W, W = ((w.alloc (.cells #[.slice a l c] 23)).alloc (.cells #[.slice a' l' c'] 23)).alloc (.cells #[.int .i64 k] 3) := ⟨_, rfl⟩
  have q0 : W.heap[w.heap.size]? = some (.cells #[.slice a l c] 23 (0, 0)) := by
    rw [hW, Below.heap_alloc _ _ _ (by simp; omega), Below.heap_alloc _ _ _ (by simp)]
    exact alloc_new w _
  have q1 : W.heap[w.heap.size + 1]? = some (.cells #[.slice a' l' c'] 23 (0, 0)) := by
    rw [hW, Below.heap_alloc _ _ _ (by simp)]
    exact alloc_two w _ _
  have q2 : W.heap[w.heap.size + 1 + 1]? = some (.cells #[.int .i64 k] 3 (0, 0)) := by
    have h := alloc_new ((w.alloc (.cells #[.slice a l c] 23)).alloc (.cells #[.slice a' l' c'] 23)) (.cells #[.int .i64 k] 3)
    rw [show ((w.alloc (.cells #[.slice a l c] 23)).alloc (.cells #[.slice a' l' c'] 23)).heap.size = w.heap.size + 1 + 1 by simp] at h
    rw [hW]
    exact h
  rw [← hW] at b0 z0
  have HB := toHid b0
  have HZ := toHid z0
  have HA1 := toHid q0
  have HA2 := toHid q1
  have HA3 := toHid q2
  clear b0 z0 q0 q1 q2
  go_enter Tryd.func11, Tryd.ntmps11
  go_upto_region 1 with fail
  rw [← hW]
  have x2 := cell_of HA3.out 0
  simp at x2
  have hb3 := blkB_lt HA3.out
  clear hW
  go_upto_region 3 with fail
  have HS : Hid (∀ W' : World, Below W.heap.size W W' → W'.cell? ⟨w.heap.size, 0, none⟩ = some (.slice a l c) ∧ W'.cell? ⟨w.heap.size + 1, 0, none⟩ = some (.slice a' l' c')) := by
    intro W' k
    have q : ∀ o, W'.cell? ⟨w.heap.size, o, none⟩ = _ := fun o => (k.cell (p := ⟨w.heap.size, o, none⟩) (by rw [HZ.out]; show w.heap.size < _; omega)).trans (cell_of HA1.out o)
    have q' : ∀ o, W'.cell? ⟨w.heap.size + 1, o, none⟩ = _ := fun o => (k.cell (p := ⟨w.heap.size + 1, o, none⟩) (by rw [HZ.out]; show w.heap.size + 1 < _; omega)).trans (cell_of HA2.out o)
    exact ⟨q 0, q' 0⟩
  have S0 := HS.out W (Below.refl _ _)
  have D0 : Below W.heap.size W W.drew := (Below.refl _ _).drew
  obtain ⟨x0, x1⟩ := S0
  clear x2 hb3
  go_cut [8] (fun s8 wx => s8 = .int .i64 R ∧ Below W.heap.size W wx)
  case first =>
    go_region_held3 (fun w' => w'.cell? ⟨w.heap.size, 0, none⟩ = some (.slice a l c) ∧ w'.cell? ⟨w.heap.size + 1, 0, none⟩ = some (.slice a' l' c'))
      (first
        | exact S3
        | exact S2
        | exact S1
        | exact ⟨x0, x1⟩
        | go_keep)
      (first
        | (go_at_call 23; refine (or_two zx zy R HER.out u2.heap.size (u2.alloc (.cells #[.int .i64 zx, .int .i64 zy] 27)) (cell_of (alloc_new u2 _) 0) (cell_of (alloc_new u2 _) 1)).mono ?_; rintro e u4 ⟨rfl, rfl⟩)
        | (go_at_call 7; refine (HCY.out _ (HB.out.trans (k1.mono HB.out.size))).mono ?_; rintro e u2 ⟨rfl, h2⟩; have k2 : Below W.heap.size W u2 := k1.trans (h2.mono k1.size); have S2 := HS.out u2 k2; have k3 : Below W.heap.size W (u2.alloc (.cells #[.int .i64 zx, .int .i64 zy] 27)) := k2.alloc k2.size _; have S3 := HS.out _ k3)
        | (go_at_call 7; refine (HCX.out _ (HB.out.trans (D0.mono HB.out.size))).mono ?_; rintro e u1 ⟨rfl, h1⟩; have k1 : Below W.heap.size W u1 := D0.trans h1; have S1 := HS.out u1 k1))
    all_goals
      go_wp2_with fail
      go_meet
      exact ⟨rfl, k3⟩
  case rest =>
    obtain ⟨rfl, kc⟩ := hcut
    have HBC := toHid (HB.out.trans (kc.mono HB.out.size))
    have p1 := (kc.block w.heap.size (blkB_lt HA1.out)).trans HA1.out
    have p2 := (kc.block (w.heap.size + 1) (blkB_lt HA2.out)).trans HA2.out
    have p3 := (kc.block (w.heap.size + 1 + 1) (blkB_lt HA3.out)).trans HA3.out
    clear x0 x1 kc D0
    by_cases her : R = 0
    · have her' : (R != 0) = false := by simp [her]
      have HE0 := toHid her
      obtain ⟨F, hF, hat, hlx, hok⟩ := (HX.out her).cts
      obtain ⟨G, hG, hat', hly, hok'⟩ := (HY.out her).cts
      have hl2 : l ≤ 2000 := by rw [hlx]; exact (HX.out her).1.len
      have hl2' : l' ≤ 2000 := by rw [hly]; exact (HY.out her).1.len
      have hFl : F.length = l := hat.1.symm
      have hGl : G.length = l' := hat'.1.symm
      have HTA : Hid (Calls Tryd.prog 24 #[.func (.func 25) #[] #[.pointer (some ⟨w.heap.size, 0, none⟩), .pointer (some ⟨w.heap.size + 1, 0, none⟩), .pointer (some ⟨w.heap.size + 1 + 1, 0, none⟩)]] wc fun e w' => TalEnd wc.heap.size w' ((F ++ G.map (mulC k)).map Ct.cn) e ∧ Below wc.heap.size wc w') := by
        refine talAd_any B _ _ _ ((F ++ G.map (mulC k)).map Ct.cn) wc (Nat.le_trans hB HBC.out.size) (HTB.out.below (HBC.out.mono hB)) fun W2 bo hbo hinv kk => ?_
        have kw := HBC.out.trans (kk.mono HBC.out.size)
        refine (add1_any wc.heap.size bo w.heap.size (w.heap.size + 1) (w.heap.size + 1 + 1) F G k a a' l c l' c' w W2 HBC.out.size kw kk.size (blkB_lt p1) (blkB_lt p2) (blkB_lt p3) hbo ((kk.block _ (blkB_lt p1)).trans p1) ((kk.block _ (blkB_lt p2)).trans p2) ((kk.block _ (blkB_lt p3)).trans p3) hat hat' (fun x hx => (hok x hx).1) (fun x hx => ⟨(hok' x hx).1, (hok' x hx).2.2.2.2.1⟩) HKK.out (by omega) (by omega) hinv).mono ?_
        rintro e w' ⟨rfl, v', g1, g2⟩
        refine ⟨rfl, F ++ G.map (mulC k), v', ⟨rfl, fun x hx => ?_, ?_, ?_⟩, g1, g2⟩
        · rcases List.mem_append.1 hx with hx | hx
          · have := hok x hx
            exact ⟨this.2.2.2.1.2.2, by have := this.2.2.2.2.2; omega⟩
          · obtain ⟨y, hy, rfl⟩ := List.mem_map.1 hx
            have := hok' y hy
            exact ⟨this.2.2.2.1.2.2, by have := this.2.2.2.2.2; show wtL y.L ≤ _; omega⟩
        · have h1 := absS_le (m := 1099511627776) F fun x hx => by
            have := (hok x hx).2.2.2.2.1
            have h2 := this.2.1
            have h3 := this.2.2
            omega
          have h6 := absS_le (m := 1099511627776000) (G.map (mulC k)) fun x hx => by
            obtain ⟨y, hy, rfl⟩ := List.mem_map.1 hx
            have := (hok' y hy).2.2.2.2.1
            have h2 := this.2.1
            have h3 := this.2.2
            have h4 := HKK.out.1
            have h5 := HKK.out.2
            show (k * y.n).natAbs ≤ _
            rw [Int.natAbs_mul]
            exact Nat.mul_le_mul (show k.natAbs ≤ 1000 by omega) (show y.n.natAbs ≤ 1099511627776 by omega)
          rw [List.length_map, hGl] at h6
          rw [hFl] at h1
          rw [absS_append]
          have h7 : l * 1099511627776 ≤ 2000 * 1099511627776 := Nat.mul_le_mul_right _ (by omega)
          have h8 : l' * 1099511627776000 ≤ 2000 * 1099511627776000 := Nat.mul_le_mul_right _ (by omega)
          omega
        · rw [List.length_append, List.length_map]
          omega
      have HLS : Hid ((F ++ G.map (mulC k)).map Ct.cn = X ++ mulX k Y) := by
        show _ = _
        rw [List.map_append, hF, ← hG, List.map_map]
        unfold mulX
        rw [List.map_map]
        rfl
      rw [HLS.out] at HTA
      clear hok hok' hat hat' hF hG hlx hly hFl hGl p1 p2 p3 her HLS
      generalize hLs : X ++ mulX k Y = Ls at HTA
      have HLS := toHid hLs
      clear hLs
      go_wp2_with (go_at_call 24; refine HTA.out.mono ?_)
      intro e w2 hend k2
      have HB2 := toHid (HBC.out.trans (k2.mono HBC.out.size))
      have HAE : Hid (∃ B1, w.heap.size ≤ B1 ∧ TalEnd B1 w2 (X ++ mulX k Y) e) := ⟨wc.heap.size, HBC.out.size, by rw [HLS.out]; exact hend⟩
      obtain ⟨O1, _, _, _, ⟨_, rfl⟩ | ⟨_, v1, rfl, _⟩⟩ := hend
      all_goals
        clear k2
        go_wp2_with fail
        refine bodyPost_ret (by simp [results, Tryd.results11, go_sem]; rfl) rfl ?_
        exact ⟨.inr ⟨HE0.out, HAE.out⟩, HB2.out⟩
    · have her' : (R != 0) = true := by simp [her]
      have HE0 := toHid her
      clear her p1 p2 p3
      go_wp2_with fail
      refine bodyPost_ret (v := .tuple #[.slice none 0 0, .int .i64 R]) (by simp [results, Tryd.results11, go_sem]) rfl ?_
      exact ⟨.inl ⟨HE0.out, rfl⟩, HBC.out⟩

theorem add_any (B : Nat) (X Y : List Cn) (k : Int) (zx zy R : Int) (a a' : Option Addr) (l c l' c' : Nat) (w : World) (hB : B ≤ w.heap.size) (hT : Tabs B w) (hk : -1000 ≤ k ∧ k ≤ 1000) (hR : R = if zx = 0 then zy else zx)
    (hCX : ∀ W, Below w.heap.size w W → Calls Tryd.prog 7 #[.slice a l c] W fun e w' => e = .returned (.int .i64 zx) ∧ Below W.heap.size W w')
    (hCY : ∀ W, Below w.heap.size w W → Calls Tryd.prog 7 #[.slice a' l' c'] W fun e w' => e = .returned (.int .i64 zy) ∧ Below W.heap.size W w')
    (hX : R = 0 → RB w X a l) (hY : R = 0 → RB w Y a' l') :
    Calls Tryd.prog 11 #[.slice a l c, .slice a' l' c', .int .i64 k] w fun e w' => ((R ≠ 0 ∧ e = .returned (.tuple #[.slice none 0 0, .int .i64 R])) ∨ (R = 0 ∧ AddEnd w' X Y k e)) ∧ Below w.heap.size w w' := by
  refine (add_tal B X Y k zx zy R a a' l c l' c' w hB hT hk hR hCX hCY hX hY).mono ?_
  rintro e w' ⟨h, kb⟩
  refine ⟨h.imp id fun ⟨h0, B1, _, hend⟩ => ⟨h0, ?_⟩, kb⟩
  obtain ⟨Z, z1, z2, z3⟩ := tal_end (Nat.le_trans hB kb.size) (hT.below (kb.mono hB)) hend
  exact ⟨Z, z1, fun r => by rw [z2, cnt_append, cnt_mul], z3⟩

set_option linter.unusedSimpArgs false

set_option maxHeartbeats 4000000 in
set_option maxRecDepth 100000 in
theorem once_bad (z : Int) (hz : z ≠ 0) (a : Option Addr) (l c : Nat) (w : World) (hT : Tabs w.heap.size w) (hC : ∀ W, Below w.heap.size w W → Calls Tryd.prog 7 #[.slice a l c] W fun e w' => e = .returned (.int .i64 z) ∧ Below W.heap.size W w') :
    Calls Tryd.prog 5 #[.slice a l c] w fun e w' => e = .returned (.bool true) ∧ Below w.heap.size w w' := by
  have HD := toHid (dist_bad z hz a l c w hC)
  have HT := toHid hT
  have hz' : (z != 0) = true := by simp [hz]
  clear hz hC hT
  go_enter Tryd.func5, Tryd.ntmps5
  go_wp2_with fail
  refine HD.out.mono ?_
  rintro e w1 ⟨rfl, k1⟩
  have HK1 := toHid k1
  clear k1
  go_wp2_with fail
  refine (bagged_true w.heap.size w1 HK1.out.size (HT.out.below HK1.out)).mono ?_
  rintro e w2 ⟨rfl, k2⟩
  have HK2 := toHid (HK1.out.trans (k2.mono HK1.out.size))
  clear k2
  go_wp2_with fail
  refine (bagged_true w.heap.size w2 HK2.out.size (HT.out.below HK2.out)).mono ?_
  rintro e w3 ⟨rfl, k3⟩
  have HK3 := toHid (HK2.out.trans (k3.mono HK2.out.size))
  clear k3
  go_wp2_with fail
  go_ret
  exact ⟨rfl, HK3.out⟩

set_option maxHeartbeats 8000000 in
set_option maxRecDepth 100000 in
theorem once_good (X : List Cn) (a : Option Addr) (l c : Nat) (w : World) (hT : Tabs w.heap.size w) (hX : RB w X a l) :
    Calls Tryd.prog 5 #[.slice a l c] w fun e w' => e = .returned (.bool true) ∧ Below w.heap.size w w' := by
  have HD := toHid (dist_good w.heap.size X a l c w (Nat.le_refl _) hT hX)
  have HT := toHid hT
  have HX := toHid hX
  clear hT hX
  go_enter Tryd.func5, Tryd.ntmps5
  go_wp2_with fail
  refine HD.out.mono ?_
  rintro e w1 ⟨⟨a1, l1, c1, rfl, h1⟩, k1⟩
  have HK1 := toHid k1
  have HR1 := toHid h1
  clear k1 h1
  go_wp2_with fail
  refine (bagged_true w.heap.size w1 HK1.out.size (HT.out.below HK1.out)).mono ?_
  rintro e w2 ⟨rfl, k2⟩
  have HK2 := toHid (HK1.out.trans (k2.mono HK1.out.size))
  have HR2 := toHid (HR1.out.below k2)
  clear k2 HR1
  go_wp2_with fail
  refine (dist_good w.heap.size (posX X) a1 l1 c1 w2 HK2.out.size (HT.out.below HK2.out) HR2.out).mono ?_
  rintro e w3 ⟨⟨a3, l3, c3, rfl, h3⟩, k3⟩
  have HK3 := toHid (HK2.out.trans (k3.mono HK2.out.size))
  rw [posX_twice] at h3
  have HSB := toHid (same_rb (c := c1) (c' := c3) (HR2.out.below k3) h3)
  clear k3 h3 HR2
  go_wp2_with fail
  refine HSB.out.mono ?_
  rintro e w4 ⟨rfl, k4⟩
  have HK4 := toHid (HK3.out.trans (k4.mono HK3.out.size))
  clear k4 HSB
  have a4 : Below w4.heap.size w4 (w4.alloc (.cells #[.slice none 0 0, .int .i64 1] 39)) := (Below.refl _ _).alloc (Nat.le_refl _) _
  have HK5 := toHid (HK4.out.trans (a4.mono HK4.out.size))
  have HJ := toHid (join_rb w.heap.size X [([], 1)] 0 a (some ⟨w4.heap.size, 0, none⟩) l c 1 1 _ HK5.out.size (HT.out.below HK5.out) (HX.out.below HK5.out) (rb_empty HK5.out.size (HT.out.below HK5.out) (alloc_new w4 _)))
  clear a4
  go_wp2_with fail
  refine HJ.out.mono ?_
  rintro e w5 ⟨hj, k5⟩
  rcases hj with ⟨_, _, _, hn⟩ | ⟨Z, a5, l5, c5, rfl, h5, hc⟩
  · exact absurd (joins_empty HX.out.1) hn
  have hZ : Z = X := bag_ext _ _ h5.1.bag HX.out.1.bag fun r => by rw [hc, join_empty]
  subst hZ
  have HK6 := toHid (HK5.out.trans (k5.mono HK5.out.size))
  have HSB := toHid (same_rb (c := c5) (c' := c) h5 (HX.out.below HK6.out))
  clear k5 hc h5 HJ
  go_wp2_with fail
  refine HSB.out.mono ?_
  rintro e w6 ⟨rfl, k6⟩
  have HK7 := toHid (HK6.out.trans (k6.mono HK6.out.size))
  have hX7 := HX.out.below HK7.out
  obtain ⟨hf, M, m1, m2, m3, m4⟩ := hX7
  have HA := toHid (add_any w.heap.size Z Z (-1) 0 0 0 a a l c l c w6 HK7.out.size (HT.out.below HK7.out) (by decide) rfl (fun W kW => by have h := check_bag M a l c w6 W m2 kW; rw [m4] at h; exact h) (fun W kW => by have h := check_bag M a l c w6 W m2 kW; rw [m4] at h; exact h) (fun _ => HX.out.below HK7.out) (fun _ => HX.out.below HK7.out))
  clear k6 HSB hf m1 m2 m3 m4
  go_wp2_with fail
  refine HA.out.mono ?_
  rintro e w7 ⟨hh, k7⟩
  have HK8 := toHid (HK7.out.trans (k7.mono HK7.out.size))
  rcases hh with ⟨h0, _⟩ | ⟨_, Y, y1, y2, y3⟩
  · exact absurd rfl h0
  have hf0 : Fit [] := ⟨by decide, ⟨List.Pairwise.nil, fun c hc => by cases hc⟩, fun c hc => (by cases hc), fun c hc => by cases hc⟩
  have hY : Y = [] := bag_ext _ _ y1 hf0.bag fun r => by rw [y2]; show _ = (0 : Int); omega
  subst hY
  rcases y3 with ⟨_, a8, l8, c8, rfl, h8⟩ | ⟨hn, _⟩
  case inr => exact absurd hf0 hn
  have hl8 : l8 = 0 := by
    obtain ⟨F, hF, hat, hl, _⟩ := h8.cts
    exact hl
  subst hl8
  clear k7 h8 y1 y2 HA
  go_wp2_with fail
  go_ret
  exact ⟨rfl, HK8.out⟩

/-- The law, of any bag that reads. -/
theorem law_once (a : Option Addr) (l c : Nat) (w : World) (hT : Tabs w.heap.size w) (hl : l ≤ 9223372036854775807) (hM : l ≤ 1000000 → ∃ M, BagArg w M a l) :
    Calls Tryd.prog 5 #[.slice a l c] w fun e w' => e = .returned (.bool true) ∧ Below w.heap.size w w' := by
  by_cases h : 2000 < l
  · exact once_bad 2 (by decide) a l c w hT fun W kW => check_long a l c W h hl
  · obtain ⟨M, hm⟩ := hM (by omega)
    by_cases h0 : bagE M = 0
    · exact once_good _ a l c w hT (hm.rb h0)
    · exact once_bad _ h0 a l c w hT fun W kW => check_bag M a l c w W hm.bag kW

set_option linter.unusedSimpArgs false

/-- A row of counts that may be read, however long. -/
def CtsL (w : World) (B : List Ct) (a : Option Addr) (l : Nat) : Prop := l = B.length ∧ l ≤ 9223372036854775807 ∧ (0 < l → ∃ b off, a = some ⟨b, off, none⟩ ∧ b < w.heap.size ∧ ∀ i x, B[i]? = some x → w.cell? ⟨b, off + i * 2, none⟩ = some (.slice x.a x.l x.c) ∧ w.cell? ⟨b, off + i * 2 + 1, none⟩ = some (.int .i64 x.n))

theorem CtsL.below {w w' : World} (k : Below w.heap.size w w') {B : List Ct} {a : Option Addr} {l : Nat} (h : CtsL w B a l) : CtsL w' B a l := by
  obtain ⟨h1, h2, h3⟩ := h
  refine ⟨h1, h2, fun h0 => ?_⟩
  obtain ⟨b, off, e, hb, hc⟩ := h3 h0
  refine ⟨b, off, e, Nat.lt_of_lt_of_le hb k.size, fun i p hp => ?_⟩
  obtain ⟨c0, c1⟩ := hc i p hp
  exact ⟨(k.cell (p := ⟨b, off + i * 2, none⟩) hb).trans c0, (k.cell (p := ⟨b, off + i * 2 + 1, none⟩) hb).trans c1⟩

section
variable {H : Type} {enc : TypeId × Value → H} {w : World} {base : Nat} {spare : Nat → Bool} {held : Bool}

theorem bag_cts {fuel : Nat} {a : Option Addr} {l c : Nat} {y : DataW H × List MemPlace} (h : DataW.trod enc Tryd.prog w base spare held fuel 23 [.slice a l c] = some y) : ∃ O, CtsL w O a l := by
  obtain ⟨h1, h2, h3⟩ := slice_rows Tryd.underlying23 cells2c (by omega) h
  by_cases h0 : l = 0
  · subst h0
    exact ⟨[], rfl, by omega, fun h => absurd h (Nat.lt_irrefl _)⟩
  · obtain ⟨b, off, ha, hb, hall⟩ := h3 (by omega)
    obtain ⟨M, hl, hM⟩ := list_of (fun i (q : Ct) => w.cell? ⟨b, off + i * 2, none⟩ = some (.slice q.a q.l q.c) ∧ w.cell? ⟨b, off + i * 2 + 1, none⟩ = some (.int .i64 q.n)) l (fun i hi => by
      obtain ⟨m, cs, z, q1, q2, q3⟩ := hall i hi
      obtain ⟨a', l', c', n, m', y', rfl, wn, hy, _⟩ := trod_count q3
      exact ⟨⟨n, a', l', c', []⟩, q2 0 _ rfl, q2 1 _ rfl⟩)
    exact ⟨M, hl.symm, h2, fun _ => ⟨b, off, ha, hb, hM⟩⟩
end

set_option maxHeartbeats 4000000 in
set_option maxRecDepth 100000 in
theorem idxL_any (cp0 : Value) (p : Ct → Bool) (O : List Ct) (a : Option Addr) (l c : Nat) (w : World) (hO : CtsL w O a l) (hp : ∀ q ∈ O, ∀ W, Below w.heap.size w W → Calls Tryd.prog 55 #[.agg #[.slice q.a q.l q.c, .int .i64 q.n], cp0] W fun e w' => e = .returned (.bool (p q)) ∧ Below W.heap.size W w') :
    Calls Tryd.prog 52 #[.slice a l c, .func (.func 55) #[] #[cp0]] w fun e w' => (∃ r : Int, e = .returned (.int .i64 r) ∧ (decide (0 ≤ r) = O.any p)) ∧ Below w.heap.size w w' := by
  have HO := toHid hO
  have hmx : l ≤ 9223372036854775807 := hO.2.1
  have HP := toHid hp
  clear hO hp
  go_enter Tryd.func52, Tryd.ntmps52
  go_wp2_with fail
  go_loopg [8] l (fun g s8 wr => ∃ i : Nat, i ≤ l ∧ l - i ≤ g ∧ s8 = .int .i64 i ∧ Below w.heap.size w wr ∧ O.any p = (O.drop i).any p)
  case atStart => exact ⟨0, Nat.zero_le _, by omega, rfl, Below.refl _ _, rfl⟩
  case round =>
    obtain ⟨i, hi, hg, rfl, hbw, hno⟩ := hrel
    have HNO := toHid hno
    have HBW := toHid hbw
    clear hno hbw
    by_cases hlt : i < l
    · obtain ⟨b, off, ha, hb, hc⟩ := HO.out.2.2 (by omega)
      subst ha
      obtain ⟨q, hq, hdq⟩ := drop_get (L := O) (i := i) (by have := HO.out.1; omega)
      obtain ⟨c0, c1⟩ := hc i q hq
      have d0 := (HBW.out.cell (p := ⟨b, off + i * 2, none⟩) hb).trans c0
      have d1 := (HBW.out.cell (p := ⟨b, off + i * 2 + 1, none⟩) hb).trans c1
      have HC := toHid (HP.out q (List.mem_of_getElem? hq) wr HBW.out)
      have HD : Hid (O.any p = (p q || (O.drop (i + 1)).any p)) := by
        show _ = _
        rw [HNO.out, hdq]
        rfl
      clear hc hq c0 c1 hb hdq HNO
      generalize p q = r at HC HD
      have hil : (i : Int) < l := by omega
      go_wp2_with fail
      refine HC.out.mono ?_
      rintro e w1 ⟨rfl, k1⟩
      have HB1 := toHid (HBW.out.trans (k1.mono HBW.out.size))
      clear k1 d0 d1
      cases r with
      | true =>
        go_wp2_with fail
        go_ret
        refine ⟨⟨(i : Int), rfl, ?_⟩, HB1.out⟩
        rw [HD.out]
        simp
      | false =>
        go_wp2_with fail
        go_roundg (l - (i + 1))
        case measure => omega
        case rel => exact ⟨i + 1, by omega, Nat.le_refl _, by go_num, HB1.out, by rw [HD.out]; rfl⟩
    · have he : i = l := by omega
      subst he
      have HN : Hid (O.any p = false) := by
        show _ = _
        rw [HNO.out, List.drop_eq_nil_of_le (by have := HO.out.1; omega)]
        rfl
      go_wp2_with fail
      go_ret
      refine ⟨⟨-1, rfl, ?_⟩, HBW.out⟩
      rw [HN.out]
      rfl

set_option maxHeartbeats 4000000 in
set_option maxRecDepth 100000 in
theorem holdsL_any (cp0 : Value) (p : Ct → Bool) (O : List Ct) (a : Option Addr) (l c : Nat) (w : World) (hO : CtsL w O a l) (hp : ∀ q ∈ O, ∀ W, Below w.heap.size w W → Calls Tryd.prog 55 #[.agg #[.slice q.a q.l q.c, .int .i64 q.n], cp0] W fun e w' => e = .returned (.bool (p q)) ∧ Below W.heap.size W w') :
    Calls Tryd.prog 28 #[.slice a l c, .func (.func 55) #[] #[cp0]] w fun e w' => e = .returned (.bool (O.any p)) ∧ Below w.heap.size w w' := by
  have HE := toHid (idxL_any cp0 p O a l c w hO hp)
  generalize O.any p = r at HE ⊢
  clear hO hp
  go_enter Tryd.func28, Tryd.ntmps28
  go_wp2_with fail
  refine HE.out.mono ?_
  rintro e w1 ⟨⟨z, rfl, hz⟩, k1⟩
  have HB := toHid k1
  have HZ := toHid hz
  clear k1 hz
  go_wp2_with fail
  go_ret
  exact ⟨by rw [← HZ.out]; rfl, HB.out⟩

set_option maxHeartbeats 4000000 in
set_option maxRecDepth 100000 in
theorem joinable_long (X : List Cn) (O : List Ct) (a a' : Option Addr) (l c l' c' : Nat) (w : World) (hX : RB w X a l) (hO : CtsL w O a' l') (hl : 2000 < l') :
    Calls Tryd.prog 33 #[.slice a l c, .slice a' l' c', .int .i64 1] w fun e w' => (∃ z : Int, z ≠ 0 ∧ e = .returned (.int .i64 z)) ∧ Below w.heap.size w w' := by
  have b0 : Below w.heap.size w (w.alloc (.cells #[.int .i64 1] 3)) := (Below.refl _ _).alloc (Nat.le_refl _) _
  have HB0 := toHid b0
  have H0 := toHid (alloc_new w (.cells #[.int .i64 1] 3))
  have HO := toHid hO
  have hmy : l' ≤ 9223372036854775807 := hO.2.1
  obtain ⟨F, hF, hat, hlx, hok⟩ := hX.cts
  have hl2 : l ≤ 2000 := by rw [hlx]; exact hX.1.len
  obtain ⟨hfit, M, hM1, hM2, hM3, hM4⟩ := hX
  obtain ⟨sx, hsx⟩ : ∃ sx, sx = F.any (shortC 1) := ⟨_, rfl⟩
  obtain ⟨sy, hsy⟩ : ∃ sy, sy = O.any (shortC 1) := ⟨_, rfl⟩
  have HCX : Hid (∀ W, Below w.heap.size w W → W.heap[w.heap.size]? = some (.cells #[.int .i64 1] 3 (0, 0)) → Calls Tryd.prog 28 #[.slice a l c, .func (.func 55) #[] #[.pointer (some ⟨w.heap.size, 0, none⟩)]] W fun e w' => e = .returned (.bool sx) ∧ Below W.heap.size W w') := fun W kW hW => by
    rw [hsx]
    exact holdsJ_any _ (shortC 1) F a l c W (hat.below kW) fun q hq W2 k2 => short_any q _ 1 W2 ((k2.block _ (blkB_lt hW)).trans hW)
  have HCY : Hid (∀ W, Below w.heap.size w W → W.heap[w.heap.size]? = some (.cells #[.int .i64 1] 3 (0, 0)) → Calls Tryd.prog 28 #[.slice a' l' c', .func (.func 55) #[] #[.pointer (some ⟨w.heap.size, 0, none⟩)]] W fun e w' => e = .returned (.bool sy) ∧ Below W.heap.size W w') := fun W kW hW => by
    rw [hsy]
    exact holdsL_any _ (shortC 1) O a' l' c' W (HO.out.below kW) fun q hq W2 k2 => short_any q _ 1 W2 ((k2.block _ (blkB_lt hW)).trans hW)
  have HKX : Hid (∀ W, Below w.heap.size w W → Calls Tryd.prog 7 #[.slice a l c] W fun e w' => e = .returned (.int .i64 0) ∧ Below W.heap.size W w') := fun W kW => by
    have h := check_bag M a l c w W hM2 kW
    rw [hM4] at h
    exact h
  have HKY : Hid (∀ W, Below w.heap.size w W → Calls Tryd.prog 7 #[.slice a' l' c'] W fun e w' => e = .returned (.int .i64 2) ∧ Below W.heap.size W w') := fun W kW => check_long a' l' c' W hl hmy
  clear b0 hO hF hat hlx hok hfit hM1 hM2 hM3 hM4 hsx hsy hl
  go_enter Tryd.func33, Tryd.ntmps33
  go_wp2_with fail
  refine (HCX.out _ HB0.out H0.out).mono ?_
  rintro e w1 ⟨rfl, k1⟩
  have HB1 := toHid (HB0.out.trans (k1.mono HB0.out.size))
  have H1 := toHid ((k1.block _ (blkB_lt H0.out)).trans H0.out)
  clear k1 HB0 H0 HCX
  cases sx with
  | true =>
    go_wp2_with fail
    go_ret
    exact ⟨⟨9, by decide, rfl⟩, HB1.out⟩
  | false =>
    go_wp2_with fail
    refine (HCY.out _ HB1.out H1.out).mono ?_
    rintro e w2 ⟨rfl, k2⟩
    have HB2 := toHid (HB1.out.trans (k2.mono HB1.out.size))
    clear k2 HB1 H1 HCY
    cases sy with
    | true =>
      go_wp2_with fail
      go_ret
      exact ⟨⟨9, by decide, rfl⟩, HB2.out⟩
    | false =>
      have FIN : Hid (∀ W, Below w.heap.size w W → Calls Tryd.prog 23 #[.slice (some ⟨W.heap.size, 0, none⟩) 2 2] (W.alloc (.cells #[.int .i64 0, .int .i64 2] 27)) fun e w' => e = .returned (.int .i64 2) ∧ w' = W.alloc (.cells #[.int .i64 0, .int .i64 2] 27)) := fun W kW => or_two 0 2 2 rfl _ _ ((cell_of (alloc_new W _) 0).trans rfl) ((cell_of (alloc_new W _) 1).trans rfl)
      by_cases hl0 : 0 < l
      · have hl0' : (0 : Int) < l := by omega
        have hne : ((l : Int) == 0) = false := by simp; omega
        have hne2 : ¬ ((l : Int) = 0) := by omega
        by_cases hq : (20000 : Int) / (l : Int) < (l' : Int)
        · go_wp2_with fail
          go_ret
          exact ⟨⟨2, by decide, rfl⟩, HB2.out⟩
        · go_wp2_with (go_at_call 7; refine (HKX.out _ HB2.out).mono ?_)
          rintro e w3 ⟨rfl, k3⟩
          have HB3 := toHid (HB2.out.trans (k3.mono HB2.out.size))
          clear k3 HB2
          go_wp2_with (go_at_call 7; refine (HKY.out _ HB3.out).mono ?_)
          rintro e w4 ⟨rfl, k4⟩
          have HB4 := toHid (HB3.out.trans (k4.mono HB3.out.size))
          have HB5 := toHid (HB4.out.alloc HB4.out.size (.cells #[.int .i64 0, .int .i64 2] 27))
          clear k4 HB3
          go_wp2_with fail
          refine (FIN.out _ HB4.out).mono ?_
          rintro e w5 ⟨rfl, rfl⟩
          go_wp2_with fail
          go_ret
          exact ⟨⟨2, by decide, rfl⟩, HB5.out⟩
      · have hl0' : ¬ ((0 : Int) < l) := by omega
        go_wp2_with (go_at_call 7; refine (HKX.out _ HB2.out).mono ?_)
        rintro e w3 ⟨rfl, k3⟩
        have HB3 := toHid (HB2.out.trans (k3.mono HB2.out.size))
        clear k3 HB2
        go_wp2_with (go_at_call 7; refine (HKY.out _ HB3.out).mono ?_)
        rintro e w4 ⟨rfl, k4⟩
        have HB4 := toHid (HB3.out.trans (k4.mono HB3.out.size))
        have HB5 := toHid (HB4.out.alloc HB4.out.size (.cells #[.int .i64 0, .int .i64 2] 27))
        clear k4 HB3
        go_wp2_with fail
        refine (FIN.out _ HB4.out).mono ?_
        rintro e w5 ⟨rfl, rfl⟩
        go_wp2_with fail
        go_ret
        exact ⟨⟨2, by decide, rfl⟩, HB5.out⟩

set_option maxHeartbeats 4000000 in
set_option maxRecDepth 100000 in
theorem join_long (X : List Cn) (O : List Ct) (a a' : Option Addr) (l c l' c' : Nat) (w : World) (hX : RB w X a l) (hO : CtsL w O a' l') (hl : 2000 < l') :
    Calls Tryd.prog 14 #[.slice a l c, .slice a' l' c', .int .i64 1] w fun e w' => (∃ z, z ≠ 0 ∧ e = .returned (.tuple #[.slice none 0 0, .int .i64 z])) ∧ Below w.heap.size w w' := by
  obtain ⟨W3, hW3⟩ : ∃ W3, W3 = ((w.alloc (.cells #[.slice a l c] 23)).alloc (.cells #[.slice a' l' c'] 23)).alloc (.cells #[.int .i64 1] 3) := ⟨_, rfl⟩
  have b3 : Below w.heap.size w W3 := by rw [hW3]; exact (((Below.refl _ _).alloc (Nat.le_refl _) _).alloc (by simp) _).alloc (by simp; omega) _
  have HJN := toHid (joinable_long X O a a' l c l' c' W3 (hX.below b3) (hO.below b3) hl)
  have HB3 := toHid b3
  clear hX hO hl b3
  go_enter Tryd.func14, Tryd.ntmps14
  go_wp2_with fail
  rw [← hW3]
  refine HJN.out.mono ?_
  rintro e w1 ⟨⟨z, hz, rfl⟩, k1⟩
  have HB1 := toHid (HB3.out.trans (k1.mono HB3.out.size))
  have hz' : (z != 0) = true := by simp [hz]
  have HZ := toHid hz
  clear k1 hW3 HJN hz
  go_wp2_with fail
  refine bodyPost_ret (v := .tuple #[.slice none 0 0, .int .i64 z]) (by simp [results, Tryd.results14, go_sem]) rfl ?_
  exact ⟨⟨z, HZ.out, rfl⟩, HB1.out⟩

set_option linter.unusedSimpArgs false

def lackI (n : Nat) (i : Int) : Bool := decide (i < 0) || decide ((n : Int) ≤ i)

set_option maxHeartbeats 4000000 in
set_option maxRecDepth 100000 in
theorem lacks1_any (i : Int) (br : Nat) (a : Option Addr) (l c : Nat) (w : World) (hb : w.heap[br]? = some (.cells #[.slice a l c] 25 (0, 0))) :
    Calls Tryd.prog 54 #[.int .i64 i, .pointer (some ⟨br, 0, none⟩)] w fun e w' => e = .returned (.bool (lackI l i)) ∧ Below w.heap.size w w' := by
  have y0 := cell_of hb 0
  simp at y0
  have hbl := blkB_lt hb
  clear hb
  by_cases h : i < 0
  · have e : lackI l i = true := by simp [lackI, h]
    rw [e]
    clear e
    go_enter Tryd.func54, Tryd.ntmps54
    go_wp2_with fail
    go_ret
    exact ⟨rfl, Below.refl _ _⟩
  · by_cases h2 : (l : Int) ≤ i
    · have e : lackI l i = true := by simp [lackI, h2]
      rw [e]
      clear e
      go_enter Tryd.func54, Tryd.ntmps54
      go_wp2_with fail
      go_ret
      exact ⟨rfl, Below.refl _ _⟩
    · have e : lackI l i = false := by simp [lackI, h, h2]
      rw [e]
      clear e
      go_enter Tryd.func54, Tryd.ntmps54
      go_wp2_with fail
      go_ret
      exact ⟨rfl, Below.refl _ _⟩

set_option maxHeartbeats 4000000 in
set_option maxRecDepth 100000 in
theorem idxI_any (cp0 : Value) (p : Int → Bool) (O : List Int) (a : Option Addr) (l c : Nat) (w : World) (hO : IntsAt w O a l) (hp : ∀ q ∈ O, ∀ W, Below w.heap.size w W → Calls Tryd.prog 54 #[.int .i64 q, cp0] W fun e w' => e = .returned (.bool (p q)) ∧ Below W.heap.size W w') :
    Calls Tryd.prog 71 #[.slice a l c, .func (.func 54) #[] #[cp0]] w fun e w' => (∃ r : Int, e = .returned (.int .i64 r) ∧ (decide (0 ≤ r) = O.any p)) ∧ Below w.heap.size w w' := by
  have HO := toHid hO
  have hmx : l ≤ 9223372036854775807 := hO.2.1
  have HP := toHid hp
  clear hO hp
  go_enter Tryd.func71, Tryd.ntmps71
  go_wp2_with fail
  go_loopg [8] l (fun g s8 wr => ∃ i : Nat, i ≤ l ∧ l - i ≤ g ∧ s8 = .int .i64 i ∧ Below w.heap.size w wr ∧ O.any p = (O.drop i).any p)
  case atStart => exact ⟨0, Nat.zero_le _, by omega, rfl, Below.refl _ _, rfl⟩
  case round =>
    obtain ⟨i, hi, hg, rfl, hbw, hno⟩ := hrel
    have HNO := toHid hno
    have HBW := toHid hbw
    clear hno hbw
    by_cases hlt : i < l
    · obtain ⟨b, off, ha, hb, hc⟩ := HO.out.2.2 (by omega)
      subst ha
      obtain ⟨q, hq, hdq⟩ := drop_get (L := O) (i := i) (by have := HO.out.1; omega)
      have c0 := hc i q hq
      have d0 := (HBW.out.cell (p := ⟨b, off + i, none⟩) hb).trans c0
      have HC := toHid (HP.out q (List.mem_of_getElem? hq) wr HBW.out)
      have HD : Hid (O.any p = (p q || (O.drop (i + 1)).any p)) := by
        show _ = _
        rw [HNO.out, hdq]
        rfl
      clear hc hq c0 hb hdq HNO
      generalize p q = r at HC HD
      have hil : (i : Int) < l := by omega
      go_wp2_with fail
      refine HC.out.mono ?_
      rintro e w1 ⟨rfl, k1⟩
      have HB1 := toHid (HBW.out.trans (k1.mono HBW.out.size))
      clear k1 d0
      cases r with
      | true =>
        go_wp2_with fail
        go_ret
        refine ⟨⟨(i : Int), rfl, ?_⟩, HB1.out⟩
        rw [HD.out]
        simp
      | false =>
        go_wp2_with fail
        go_roundg (l - (i + 1))
        case measure => omega
        case rel => exact ⟨i + 1, by omega, Nat.le_refl _, by go_num, HB1.out, by rw [HD.out]; rfl⟩
    · have he : i = l := by omega
      subst he
      have HN : Hid (O.any p = false) := by
        show _ = _
        rw [HNO.out, List.drop_eq_nil_of_le (by have := HO.out.1; omega)]
        rfl
      go_wp2_with fail
      go_ret
      refine ⟨⟨-1, rfl, ?_⟩, HBW.out⟩
      rw [HN.out]
      rfl

set_option maxHeartbeats 4000000 in
set_option maxRecDepth 100000 in
theorem holdsI_any (cp0 : Value) (p : Int → Bool) (O : List Int) (a : Option Addr) (l c : Nat) (w : World) (hO : IntsAt w O a l) (hp : ∀ q ∈ O, ∀ W, Below w.heap.size w W → Calls Tryd.prog 54 #[.int .i64 q, cp0] W fun e w' => e = .returned (.bool (p q)) ∧ Below W.heap.size W w') :
    Calls Tryd.prog 53 #[.slice a l c, .func (.func 54) #[] #[cp0]] w fun e w' => e = .returned (.bool (O.any p)) ∧ Below w.heap.size w w' := by
  have HE := toHid (idxI_any cp0 p O a l c w hO hp)
  generalize O.any p = r at HE ⊢
  clear hO hp
  go_enter Tryd.func53, Tryd.ntmps53
  go_wp2_with fail
  refine HE.out.mono ?_
  rintro e w1 ⟨⟨z, rfl, hz⟩, k1⟩
  have HB := toHid k1
  have HZ := toHid hz
  clear k1 hz
  go_wp2_with fail
  go_ret
  exact ⟨by rw [← HZ.out]; rfl, HB.out⟩

set_option maxHeartbeats 4000000 in
set_option maxRecDepth 100000 in
theorem lacks_any (C : List Int) (a : Option Addr) (l c : Nat) (ca : Option Addr) (cl cc : Nat) (w : World) (hC : IntsAt w C ca cl) :
    Calls Tryd.prog 30 #[.slice a l c, .slice ca cl cc] w fun e w' => e = .returned (.bool (C.any (lackI l))) ∧ Below w.heap.size w w' := by
  have b0 : Below w.heap.size w (w.alloc (.cells #[.slice a l c] 25)) := (Below.refl _ _).alloc (Nat.le_refl _) _
  have h0 := alloc_new w (.cells #[.slice a l c] 25)
  have HC := toHid (holdsI_any (.pointer (some ⟨w.heap.size, 0, none⟩)) (lackI l) C ca cl cc (w.alloc (.cells #[.slice a l c] 25)) (hC.below b0) fun q _ W kW => lacks1_any q _ a l c W ((kW.block _ (blkB_lt h0)).trans h0))
  have HB := toHid b0
  generalize C.any (lackI l) = r at HC ⊢
  clear b0 h0 hC
  go_enter Tryd.func30, Tryd.ntmps30
  go_wp2_with fail
  refine HC.out.mono ?_
  rintro e w1 ⟨rfl, k1⟩
  have HB1 := toHid (HB.out.trans (k1.mono HB.out.size))
  clear k1
  go_wp2_with fail
  go_ret
  exact ⟨rfl, HB1.out⟩

set_option maxHeartbeats 4000000 in
set_option maxRecDepth 100000 in
theorem pick1_any (C : List Int) (x : Ct) (bc : Nat) (ca : Option Addr) (cl cc : Nat) (w : World) (hb : w.heap[bc]? = some (.cells #[.slice ca cl cc] 31 (0, 0))) (hC : IntsAt w C ca cl) :
    Calls Tryd.prog 29 #[.agg #[.slice x.a x.l x.c, .int .i64 x.n], .pointer (some ⟨bc, 0, none⟩)] w fun e w' => e = .returned (.bool (C.any (lackI x.l))) ∧ Below w.heap.size w w' := by
  have b0 : Below w.heap.size w (w.alloc (cObj x)) := (Below.refl _ _).alloc (Nat.le_refl _) _
  have HN := toHid (alloc_new w (cObj x))
  have HBX := toHid ((b0.block _ (blkB_lt hb)).trans hb)
  have HC := toHid (lacks_any C x.a x.l x.c ca cl cc (w.alloc (cObj x)) (hC.below b0))
  have HB := toHid b0
  generalize C.any (lackI x.l) = r at HC ⊢
  clear b0 hb hC
  go_enter Tryd.func29, Tryd.ntmps29
  go_upto_region 1 with fail
  generalize w.alloc (cObj x) = X at HB HN HBX HC ⊢
  have x0 := cell_of HN.out 0
  have y0 := cell_of HBX.out 0
  simp at x0 y0
  have hlx := blkB_lt HN.out
  have hly := blkB_lt HBX.out
  go_wp2_with fail
  refine HC.out.mono ?_
  rintro e w1 ⟨rfl, k1⟩
  have HB1 := toHid (HB.out.trans (k1.mono HB.out.size))
  clear k1 x0 y0
  go_wp2_with fail
  go_ret
  exact ⟨rfl, HB1.out⟩
end Go.Proofs.YtcfifihlfomccaaDoor
