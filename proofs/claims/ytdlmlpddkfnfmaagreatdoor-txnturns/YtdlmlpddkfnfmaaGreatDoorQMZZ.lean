/-
  What is proved here: what the texts TTns2, TTns, GLaid prove, in one text.
-/
import Derived.Test.YtdlmlpddkfnfmaaGreatDoorQMZY
import Derived.Deep.RegionHeld3
import Derived.Deep.CutBlock
import Derived.Test.YtdlmlpddkfnfmaaGreatDoorPM
import Derived.Test.YtdlmlpddkfnfmaaGreatDoorShelf
import Derived.PinnedBridge
import Derived.Lib.LaidU8T
import Derived.Lib.LaidTab
import Derived.Lay
namespace Go.Proofs.YtdlmlpddkfnfmaaGreatDoor
open Go.RowKit
set_option linter.unusedVariables false

set_option maxHeartbeats 8000000 in
set_option maxRecDepth 100000 in
theorem turns_good (B : Nat) (N1 : List Nd) (E1 : List Ed) (na : Option Addr) (nl nc : Nat) (ea : Option Addr) (el ec : Nat) (nx : Int) (N2 : List Nd) (E2 : List Ed) (ma : Option Addr) (ml mc : Nat) (fa : Option Addr) (fl fc : Nat) (mx : Int) (w : World) (h1 : GrOk w N1 E1 na nl ea el) (h2 : GrOk w N2 E2 ma ml fa fl) (hB : B ≤ w.heap.size) (hT : Tabs B w) (e1 : gE N1 E1 nx = 0) (e2 : gE N2 E2 mx = 0) :
    Calls Tryz.prog 5 #[.agg #[.slice na nl nc, .slice ea el ec, .int .i64 nx], .agg #[.slice ma ml mc, .slice fa fl fc, .int .i64 mx]] w fun e w' => e = .returned (.bool true) ∧ Below w.heap.size w w' := by
  obtain ⟨XN, XE, p1, p2, R1⟩ := gr_right h1 e1
  obtain ⟨YN, YE, p3, p4, R2⟩ := gr_right h2 e2
  have r1 := R1 []
  have r2 := R2 []
  obtain ⟨g1n, hg1⟩ : ∃ z, z = (lackL sameN XN YN).length := ⟨_, rfl⟩
  obtain ⟨n1n, hn1⟩ : ∃ z, z = (lackL sameN YN XN).length := ⟨_, rfl⟩
  obtain ⟨h1n, hh1⟩ : ∃ z, z = (lackL sameE XE YE).length := ⟨_, rfl⟩
  obtain ⟨e1n, he1⟩ : ∃ z, z = (lackL sameE YE XE).length := ⟨_, rfl⟩
  have HB1 : Hid (∀ W, Below w.heap.size w W → Calls Tryz.prog 18 #[.agg #[.slice na nl nc, .slice ea el ec, .int .i64 nx], .agg #[.slice ma ml mc, .slice fa fl fc, .int .i64 mx]] W fun e w' => (∃ ga gc na1 nc1 ha hc ea1 ec1, e = .returned (.tuple #[.agg #[.slice ga g1n gc, .slice na1 n1n nc1, .slice ha h1n hc, .slice ea1 e1n ec1, .int .i64 nx, .int .i64 mx], .int .i64 0]) ∧ DAt w' (lackL sameN XN YN) (lackL sameN YN XN) (lackL sameE XE YE) (lackL sameE YE XE) ga g1n na1 n1n ha h1n ea1 e1n) ∧ Below W.heap.size W w') := fun W k => between_dat h1 h2 nc ec nx mc fc mx e1 e2 p1 p2 p3 p4 r1 r2 hg1 hn1 hh1 he1 W k
  have HT1 : Hid (∀ W ga gc na1 nc1 ha hc ea1 ec1, Below w.heap.size w W → DAt W (lackL sameN XN YN) (lackL sameN YN XN) (lackL sameE XE YE) (lackL sameE YE XE) ga g1n na1 n1n ha h1n ea1 e1n → Calls Tryz.prog 26 #[.agg #[.slice na nl nc, .slice ea el ec, .int .i64 nx], .agg #[.slice ga g1n gc, .slice na1 n1n nc1, .slice ha h1n hc, .slice ea1 e1n ec1, .int .i64 nx, .int .i64 mx]] W fun e w' => (∃ a1 c1 a2 c2, e = .returned (.tuple #[.agg #[.slice a1 ml c1, .slice a2 fl c2, .int .i64 mx], .int .i64 0]) ∧ NsAt w' YN a1 ml ∧ EsAt w' YE a2 fl) ∧ Below W.heap.size W w') := fun W ga gc na1 nc1 ha hc ea1 ec1 k d => (turn_at B r1 r2 (ns_len p3) (es_len p4) (Nat.le_trans hB k.size) (tabs_up hT hB k) (p1.below k) (p2.below k) d nc ec gc nc1 hc ec1).mono fun e w' ⟨⟨a1, c1, a2, c2, he, q1, q2⟩, kk⟩ => ⟨⟨a1, c1, a2, c2, he, q1.seen (ns_len p3) (Keep.weak w' fun _ h _ => h), q2.seen (es_len p4) (Keep.weak w' fun _ h _ => h)⟩, kk⟩
  have HT2 : Hid (∀ W, Below w.heap.size w W → ∀ i1 j1 i2 j2 i3 j3 i4 j4, DAt W (lackL sameN YN XN) (lackL sameN XN YN) (lackL sameE YE XE) (lackL sameE XE YE) i1 n1n i2 g1n i3 e1n i4 h1n → Calls Tryz.prog 26 #[.agg #[.slice ma ml mc, .slice fa fl fc, .int .i64 mx], .agg #[.slice i1 n1n j1, .slice i2 g1n j2, .slice i3 e1n j3, .slice i4 h1n j4, .int .i64 mx, .int .i64 nx]] W fun e w' => (∃ b1 d1 b2 d2, e = .returned (.tuple #[.agg #[.slice b1 nl d1, .slice b2 el d2, .int .i64 nx], .int .i64 0]) ∧ ∀ W', Keep (fun i => W.heap.size ≤ i) (fun i => W.heap.size ≤ i) w' W' → NsAt W' XN b1 nl ∧ EsAt W' XE b2 el) ∧ Below W.heap.size W w') := fun W k i1 j1 i2 j2 i3 j3 i4 j4 d => (turn_at B r2 r1 (ns_len p1) (es_len p2) (Nat.le_trans hB k.size) (tabs_up hT hB k) (p3.below k) (p4.below k) d mc fc j1 j2 j3 j4).mono fun e w' ⟨⟨b1, d1, b2, d2, he, q1, q2⟩, kk⟩ => ⟨⟨b1, d1, b2, d2, he, fun W' hk => ⟨q1.seen (ns_len p1) hk, q2.seen (es_len p2) hk⟩⟩, kk⟩
  have hsz : g1n ≤ 1000 ∧ n1n ≤ 1000 ∧ h1n ≤ 1000 ∧ e1n ≤ 1000 := by
    have q1 := lackL_length sameN XN YN
    have q2 := lackL_length sameN YN XN
    have q3 := lackL_length sameE XE YE
    have q4 := lackL_length sameE YE XE
    have : XN.length ≤ 40 := r1.n40
    have : XE.length ≤ 60 := r1.e60
    have : YN.length ≤ 40 := r2.n40
    have : YE.length ≤ 60 := r2.e60
    omega
  have HBK : Hid (∀ W ga gc na1 nc1 ha hc ea1 ec1, DAt W (lackL sameN XN YN) (lackL sameN YN XN) (lackL sameE XE YE) (lackL sameE YE XE) ga g1n na1 n1n ha h1n ea1 e1n → Calls Tryz.prog 24 #[.agg #[.slice ga g1n gc, .slice na1 n1n nc1, .slice ha h1n hc, .slice ea1 e1n ec1, .int .i64 nx, .int .i64 mx]] W fun e w' => (∃ i1 j1 i2 j2 i3 j3 i4 j4, e = .returned (.agg #[.slice i1 n1n j1, .slice i2 g1n j2, .slice i3 e1n j3, .slice i4 h1n j4, .int .i64 mx, .int .i64 nx]) ∧ DAt w' (lackL sameN YN XN) (lackL sameN XN YN) (lackL sameE YE XE) (lackL sameE XE YE) i1 n1n i2 g1n i3 e1n i4 h1n) ∧ Below W.heap.size W w') := fun W ga gc na1 nc1 ha hc ea1 ec1 d => back_at (lack_ok r1.nok r2.nok r1.eok r2.eok) ⟨hg1, hn1, hh1, he1⟩ hsz d gc nc1 hc ec1 nx mx
  have HSG1 : Hid (∀ W a1 c1 a2 c2, Below w.heap.size w W → NsAt W YN a1 ml → EsAt W YE a2 fl → Calls Tryz.prog 12 #[.agg #[.slice a1 ml c1, .slice a2 fl c2, .int .i64 mx], .agg #[.slice ma ml mc, .slice fa fl fc, .int .i64 mx]] W fun e w' => e = .returned (.bool true) ∧ Below W.heap.size W w') := fun W a1 c1 a2 c2 k q1 q2 => same_graph r2 q1 q2 (p3.below k) (p4.below k) c1 c2 mc fc
  have HSG2 : Hid (∀ W b1 d1 b2 d2, Below w.heap.size w W → NsAt W XN b1 nl → EsAt W XE b2 el → Calls Tryz.prog 12 #[.agg #[.slice b1 nl d1, .slice b2 el d2, .int .i64 nx], .agg #[.slice na nl nc, .slice ea el ec, .int .i64 nx]] W fun e w' => e = .returned (.bool true) ∧ Below W.heap.size W w') := fun W b1 d1 b2 d2 k q1 q2 => same_graph r1 q1 q2 (p1.below k) (p2.below k) d1 d2 nc ec
  clear h1 h2 e1 e2 p1 p2 p3 p4 R1 R2 r1 r2 hB hT hg1 hn1 hh1 he1 hsz
  have b0 : Below w.heap.size w ((w.alloc (.cells #[.slice na nl nc, .slice ea el ec, .int .i64 nx] 25)).alloc (.cells #[.slice ma ml mc, .slice fa fl fc, .int .i64 mx] 25)) := ((Below.refl _ _).alloc (Nat.le_refl _) _).alloc (by simp) _
  have g0 := (Below.heap_alloc (w.alloc (.cells #[.slice na nl nc, .slice ea el ec, .int .i64 nx] 25)) (.cells #[.slice ma ml mc, .slice fa fl fc, .int .i64 mx] 25) w.heap.size (by simp)).trans (alloc_new w (.cells #[.slice na nl nc, .slice ea el ec, .int .i64 nx] 25))
  have g1 := alloc_two w (.cells #[.slice na nl nc, .slice ea el ec, .int .i64 nx] 25) (.cells #[.slice ma ml mc, .slice fa fl fc, .int .i64 mx] 25)
  have z0 : ((w.alloc (.cells #[.slice na nl nc, .slice ea el ec, .int .i64 nx] 25)).alloc (.cells #[.slice ma ml mc, .slice fa fl fc, .int .i64 mx] 25)).heap.size = w.heap.size + 2 := by simp
  have Z0 := toHid z0
  have G0 := toHid g0
  have G1 := toHid g1
  have B0 := toHid b0
  clear z0 g0 g1 b0
  go_enter Tryz.func5, Tryz.ntmps5
  go_wp2_with fail
  refine (HB1.out _ B0.out).mono ?_
  generalize ((w.alloc (.cells #[.slice na nl nc, .slice ea el ec, .int .i64 nx] 25)).alloc (.cells #[.slice ma ml mc, .slice fa fl fc, .int .i64 mx] 25)) = W0 at Z0 G0 G1 B0 ⊢
  have HS : Hid (∀ W' : World, Below (w.heap.size + 2) W0 W' → Below w.heap.size w W' ∧ w.heap.size + 2 ≤ W'.heap.size ∧ (W'.cell? ⟨w.heap.size, 0, none⟩ = some (.slice na nl nc) ∧ W'.cell? ⟨w.heap.size, 1, none⟩ = some (.slice ea el ec) ∧ W'.cell? ⟨w.heap.size, 2, none⟩ = some (.int .i64 nx)) ∧ (W'.cell? ⟨w.heap.size + 1, 0, none⟩ = some (.slice ma ml mc) ∧ W'.cell? ⟨w.heap.size + 1, 1, none⟩ = some (.slice fa fl fc) ∧ W'.cell? ⟨w.heap.size + 1, 2, none⟩ = some (.int .i64 mx))) := fun W' kk => by
    have q0 : ∀ o, W'.cell? ⟨w.heap.size, o, none⟩ = _ := fun o => (kk.cell (p := ⟨w.heap.size, o, none⟩) (by show w.heap.size < _; omega)).trans (cell_of G0.out o)
    have q1 : ∀ o, W'.cell? ⟨w.heap.size + 1, o, none⟩ = _ := fun o => (kk.cell (p := ⟨w.heap.size + 1, o, none⟩) (by show w.heap.size + 1 < _; omega)).trans (cell_of G1.out o)
    exact ⟨B0.out.trans (kk.mono (by omega)), by have := kk.size; rw [Z0.out] at this; exact this, ⟨q0 0, q0 1, q0 2⟩, ⟨q1 0, q1 1, q1 2⟩⟩
  rintro e w1 ⟨⟨ga, gc, na1, nc1, ha, hc, ea1, ec1, rfl, dd1⟩, k1⟩
  have hz1 : w.heap.size + 2 ≤ w1.heap.size := by have := k1.size; rw [Z0.out] at this; exact this
  rw [Z0.out] at k1
  have kA : Below w1.heap.size w1 (w1.alloc (.cells #[.slice ga g1n gc, .slice na1 n1n nc1, .slice ha h1n hc, .slice ea1 e1n ec1, .int .i64 nx, .int .i64 mx] 41)) := (Below.refl _ _).alloc (Nat.le_refl _) _
  have hA := alloc_new w1 (.cells #[.slice ga g1n gc, .slice na1 n1n nc1, .slice ha h1n hc, .slice ea1 e1n ec1, .int .i64 nx, .int .i64 mx] 41)
  have zA : (w1.alloc (.cells #[.slice ga g1n gc, .slice na1 n1n nc1, .slice ha h1n hc, .slice ea1 e1n ec1, .int .i64 nx, .int .i64 mx] 41)).heap.size = w1.heap.size + 1 := by simp
  have K1 := toHid (k1.alloc hz1 (.cells #[.slice ga g1n gc, .slice na1 n1n nc1, .slice ha h1n hc, .slice ea1 e1n ec1, .int .i64 nx, .int .i64 mx] 41))
  have DD1 := toHid (dd1.below kA)
  have HA := toHid hA
  have ZA := toHid zA
  clear k1 HB1 dd1 kA hA zA
  go_wp2_with fail
  generalize w1.alloc (.cells #[.slice ga g1n gc, .slice na1 n1n nc1, .slice ha h1n hc, .slice ea1 e1n ec1, .int .i64 nx, .int .i64 mx] 41) = W1 at K1 DD1 HA ZA ⊢
  generalize w1.heap.size = m1 at hz1 HA ZA ⊢
  refine (changed_true _).mono ?_
  rintro e w3 ⟨rfl, k3⟩
  have hz3 : m1 + 1 ≤ w3.heap.size := by have := k3.size; rw [ZA.out] at this; exact this
  have K3 := toHid (K1.out.trans (k3.mono (by rw [ZA.out]; omega)))
  have E1 := toHid (DD1.out.below k3)
  have h1b := (k3.block m1 (by rw [ZA.out]; omega)).trans HA.out
  have HF1 := toHid h1b
  have u0 := cell_of h1b 0
  have u1 := cell_of h1b 1
  have u2 := cell_of h1b 2
  have u3 := cell_of h1b 3
  have u4 := cell_of h1b 4
  have u5 := cell_of h1b 5
  simp at u0 u1 u2 u3 u4 u5
  clear k3 DD1 HA ZA K1 h1b
  obtain ⟨bw, sz, ⟨x0, x1, x2⟩, ⟨y0, y1, y2⟩⟩ := HS.out w3 K3.out
  have hs0 : w.heap.size < w3.heap.size := by omega
  have hs1 : w.heap.size + 1 < w3.heap.size := by omega
  have hm1 : m1 < w3.heap.size := by omega
  go_wp2_with fail
  refine (HT1.out _ ga gc na1 nc1 ha hc ea1 ec1 bw E1.out).mono ?_
  clear x0 x1 x2 y0 y1 y2 hs0 hs1 u0 u1 u2 u3 u4 u5 hm1
  rintro e w4 ⟨⟨a1, c1, a2, c2, rfl, q1, q2⟩, k4⟩
  have hz4 : m1 + 1 ≤ w4.heap.size := Nat.le_trans hz3 k4.size
  have kA : Below w4.heap.size w4 (w4.alloc (.cells #[.slice a1 ml c1, .slice a2 fl c2, .int .i64 mx] 25)) := (Below.refl _ _).alloc (Nat.le_refl _) _
  have kB := below3 k4 k4.size kA
  have hX := alloc_new w4 (.cells #[.slice a1 ml c1, .slice a2 fl c2, .int .i64 mx] 25)
  have zX : (w4.alloc (.cells #[.slice a1 ml c1, .slice a2 fl c2, .int .i64 mx] 25)).heap.size = w4.heap.size + 1 := by simp
  have K4 := toHid (K3.out.trans (kB.mono (by omega)))
  have Q1 := toHid (q1.below kA)
  have Q2 := toHid (q2.below kA)
  have F1 := toHid (E1.out.below kB)
  have HF4 := toHid ((kB.block m1 (by omega)).trans HF1.out)
  have HX := toHid hX
  have ZX := toHid zX
  clear k4 q1 q2 kA kB hX zX HF1 E1 K3 bw sz HT1
  go_upto_region 5 with fail
  generalize w4.alloc (.cells #[.slice a1 ml c1, .slice a2 fl c2, .int .i64 mx] 25) = Y at K4 Q1 Q2 F1 HF4 HX ZX ⊢
  generalize w4.heap.size = m4 at hz4 HX ZX ⊢
  have HSV : Hid (∀ W' : World, Below Y.heap.size Y W' → (W'.cell? ⟨w.heap.size + 1, 0, none⟩ = some (.slice ma ml mc) ∧ W'.cell? ⟨w.heap.size + 1, 1, none⟩ = some (.slice fa fl fc) ∧ W'.cell? ⟨w.heap.size + 1, 2, none⟩ = some (.int .i64 mx)) ∧ (W'.cell? ⟨m1, 0, none⟩ = some (.slice ga g1n gc) ∧ W'.cell? ⟨m1, 1, none⟩ = some (.slice na1 n1n nc1) ∧ W'.cell? ⟨m1, 2, none⟩ = some (.slice ha h1n hc) ∧ W'.cell? ⟨m1, 3, none⟩ = some (.slice ea1 e1n ec1) ∧ W'.cell? ⟨m1, 4, none⟩ = some (.int .i64 nx) ∧ W'.cell? ⟨m1, 5, none⟩ = some (.int .i64 mx))) := fun W' kk => by
    obtain ⟨_, _, _, q⟩ := HS.out W' (K4.out.trans (kk.mono (by rw [ZX.out]; omega)))
    have q1 : ∀ o, W'.cell? ⟨m1, o, none⟩ = _ := fun o => (kk.cell (p := ⟨m1, o, none⟩) (by show m1 < Y.heap.size; rw [ZX.out]; omega)).trans (cell_of HF4.out o)
    exact ⟨q, q1 0, q1 1, q1 2, q1 3, q1 4, q1 5⟩
  have HBW : Hid (∀ W' : World, Below Y.heap.size Y W' → Below w.heap.size w W') := fun W' kk => (HS.out W' (K4.out.trans (kk.mono (by rw [ZX.out]; omega)))).1
  have D0 : Below Y.heap.size Y Y.drew := (Below.refl _ _).drew
  obtain ⟨⟨y0, y1, y2⟩, t0, t1, t2, t3, t4, t5⟩ := HSV.out Y (Below.refl _ _)
  have hsY : w.heap.size + 1 < Y.heap.size := by rw [ZX.out]; omega
  have hsM : m1 < Y.heap.size := by rw [ZX.out]; omega
  go_cut [8, 9] (fun s8 s9 wx => ∃ p b1 d1 b2 d2, s8 = .pointer (some ⟨p, 0, none⟩) ∧ s9 = .int .i64 0 ∧ wx.heap[p]? = some (.cells #[.slice b1 nl d1, .slice b2 el d2, .int .i64 nx] 25 (0, 0)) ∧ NsAt wx XN b1 nl ∧ EsAt wx XE b2 el ∧ Below Y.heap.size Y wx)
  case first =>
    go_region_held3 (fun W' => (W'.cell? ⟨w.heap.size + 1, 0, none⟩ = some (.slice ma ml mc) ∧ W'.cell? ⟨w.heap.size + 1, 1, none⟩ = some (.slice fa fl fc) ∧ W'.cell? ⟨w.heap.size + 1, 2, none⟩ = some (.int .i64 mx)) ∧ (W'.cell? ⟨m1, 0, none⟩ = some (.slice ga g1n gc) ∧ W'.cell? ⟨m1, 1, none⟩ = some (.slice na1 n1n nc1) ∧ W'.cell? ⟨m1, 2, none⟩ = some (.slice ha h1n hc) ∧ W'.cell? ⟨m1, 3, none⟩ = some (.slice ea1 e1n ec1) ∧ W'.cell? ⟨m1, 4, none⟩ = some (.int .i64 nx) ∧ W'.cell? ⟨m1, 5, none⟩ = some (.int .i64 mx)))
      (first
        | with_reducible exact HSV.out _ k2
        | with_reducible exact HSV.out _ k1
        | with_reducible exact HSV.out _ D0
        | with_reducible exact HSV.out _ (k2.alloc k2.size _)
        | with_reducible exact HSV.out _ (k1.alloc k1.size _)
        | with_reducible exact HSV.out _ (D0.alloc (Nat.le_refl _) _)
        | with_reducible exact HSV.out _ (bset3 k2 Y.heap.size (Nat.le_refl _) _ _ _)
        | with_reducible exact HSV.out _ (bset3 k2 v1.heap.size k1.size _ _ _)
        | with_reducible exact HSV.out _ (bset3 (k2.alloc k2.size _) v2.heap.size k2.size _ _ _)
        | exact ⟨⟨y0, y1, y2⟩, t0, t1, t2, t3, t4, t5⟩
        | go_keep)
      (first
        | (go_at_call 26; go_fit (HT2.out (v1.alloc (.cells #[.slice none 0 0, .slice none 0 0, .int .i64 0] 25)) (HBW.out _ (k1.alloc k1.size _)) i1 j1 i2 j2 i3 j3 i4 j4 (db.below ((Below.refl _ _).alloc (Nat.le_refl _) _))); rintro e v2 ⟨⟨b1, d1, b2, d2, rfl, r1⟩, h2⟩; have k2 : Below Y.heap.size Y v2 := (k1.alloc k1.size _).trans (h2.mono (by have := k1.size; simp; omega)); have hp : v2.heap[v1.heap.size]? = some (.cells #[.slice none 0 0, .slice none 0 0, .int .i64 0] 25 (0, 0)) := (h2.block v1.heap.size (by simp)).trans (alloc_new v1 _); have p0 := cell_of hp 0; have p1 := cell_of hp 1; have p2 := cell_of hp 2; have f0 := free_of hp 0; have f1 := free_of hp 1; have f2 := free_of hp 2; simp at p0 p1 p2)
        | (go_at_call 26; go_fit (HT2.out v1 (HBW.out _ k1) i1 j1 i2 j2 i3 j3 i4 j4 db); rintro e v2 ⟨⟨b1, d1, b2, d2, rfl, r1⟩, h2⟩; have k2 : Below Y.heap.size Y v2 := k1.trans (h2.mono k1.size); have hp : v2.heap[Y.heap.size]? = some (.cells #[.slice none 0 0, .slice none 0 0, .int .i64 0] 25 (0, 0)) := (h2.block Y.heap.size hpl).trans hp1; have p0 := cell_of hp 0; have p1 := cell_of hp 1; have p2 := cell_of hp 2; have f0 := free_of hp 0; have f1 := free_of hp 1; have f2 := free_of hp 2; simp at p0 p1 p2)
        | (go_at_call 26; go_fit (HT2.out v1 (HBW.out _ k1) i1 j1 i2 j2 i3 j3 i4 j4 db); rintro e v2 ⟨⟨b1, d1, b2, d2, rfl, r1⟩, h2⟩; have k2 : Below Y.heap.size Y v2 := k1.trans (h2.mono k1.size))
        | (go_at_call 24; go_fit (HBK.out (Y.drew.alloc (.cells #[.slice none 0 0, .slice none 0 0, .int .i64 0] 25)) ga gc na1 nc1 ha hc ea1 ec1 (F1.out.below (D0.alloc (Nat.le_refl _) _))); rintro e v1 ⟨⟨i1, j1, i2, j2, i3, j3, i4, j4, rfl, db⟩, h1⟩; have k1 : Below Y.heap.size Y v1 := (D0.alloc (Nat.le_refl _) _).trans (h1.mono (by simp)); have hpl : Y.heap.size < v1.heap.size := (by have := h1.size; simp at this; omega); have hp1 : v1.heap[Y.heap.size]? = some (.cells #[.slice none 0 0, .slice none 0 0, .int .i64 0] 25 (0, 0)) := (h1.block Y.heap.size (by simp)).trans (alloc_new Y.drew _))
        | (go_at_call 24; go_fit (HBK.out Y.drew ga gc na1 nc1 ha hc ea1 ec1 (F1.out.below D0)); rintro e v1 ⟨⟨i1, j1, i2, j2, i3, j3, i4, j4, rfl, db⟩, h1⟩; have k1 : Below Y.heap.size Y v1 := D0.trans h1))
    all_goals
      go_wp2_with fail
      go_meet
    all_goals first
      | (obtain ⟨q1, q2⟩ := r1 (v2.alloc (.cells #[.slice b1 nl d1, .slice b2 el d2, .int .i64 nx] 25)) ⟨by simp, fun i hi hl => ⟨hi, Below.heap_alloc v2 _ i hl⟩⟩
         with_reducible exact ⟨v2.heap.size, b1, d1, b2, d2, rfl, rfl, alloc_new v2 _, q1, q2, k2.alloc k2.size _⟩)
      | (have eP : ∀ X : World, ((X.setCell ⟨Y.heap.size, 0, none⟩ (.slice b1 nl d1)).setCell ⟨Y.heap.size, 1, none⟩ (.slice b2 el d2)).setCell ⟨Y.heap.size, 2, none⟩ (.int .i64 nx) = putL X Y.heap.size 0 [.slice b1 nl d1, .slice b2 el d2, .int .i64 nx] := fun _ => rfl
         rw [eP]
         have EE := putL_here [.slice b1 nl d1, .slice b2 el d2, .int .i64 nx] 0 v2 _ hp
         obtain ⟨q1, q2⟩ := r1 (putL v2 Y.heap.size 0 [.slice b1 nl d1, .slice b2 el d2, .int .i64 nx]) ⟨by rw [putL_size]; exact Nat.le_refl _, fun i hi hl => ⟨hi, putL_other _ _ _ v2 i (by have : v1.heap.size ≤ i := hi; omega)⟩⟩
         exact ⟨Y.heap.size, b1, d1, b2, d2, rfl, rfl, EE, q1, q2, k2.trans (putL_bel Y.heap.size _ _ v2)⟩)
      | (have eP : ∀ X : World, ((X.setCell ⟨v1.heap.size, 0, none⟩ (.slice b1 nl d1)).setCell ⟨v1.heap.size, 1, none⟩ (.slice b2 el d2)).setCell ⟨v1.heap.size, 2, none⟩ (.int .i64 nx) = putL X v1.heap.size 0 [.slice b1 nl d1, .slice b2 el d2, .int .i64 nx] := fun _ => rfl
         rw [eP]
         have EE := putL_here [.slice b1 nl d1, .slice b2 el d2, .int .i64 nx] 0 v2 _ hp
         obtain ⟨q1, q2⟩ := r1 (putL v2 v1.heap.size 0 [.slice b1 nl d1, .slice b2 el d2, .int .i64 nx]) ⟨by rw [putL_size]; exact Nat.le_refl _, fun i hi hl => ⟨hi, putL_other _ _ _ v2 i (by have : (v1.alloc (.cells #[.slice none 0 0, .slice none 0 0, .int .i64 0] 25)).heap.size ≤ i := hi; simp at this; omega)⟩⟩
         exact ⟨v1.heap.size, b1, d1, b2, d2, rfl, rfl, EE, q1, q2, k2.trans ((putL_bel v1.heap.size _ _ v2).mono k1.size)⟩)
  case rest =>
  obtain ⟨p, b1, d1, b2, d2, rfl, rfl, hpb, q3, q4, kx⟩ := hcut
  clear y0 y1 y2 t0 t1 t2 t3 t4 t5 hsY hsM D0
  have KX := toHid (K4.out.trans (kx.mono (by rw [ZX.out]; omega)))
  have hplt : p < wc.heap.size := lt_block hpb
  have hxb := (kx.block m4 (by rw [ZX.out]; omega)).trans HX.out
  have o0 := cell_of hxb 0
  have o1 := cell_of hxb 1
  have o2 := cell_of hxb 2
  simp at o0 o1 o2
  have hm4 : m4 < wc.heap.size := lt_block hxb
  have HQ3 := toHid q3
  have HQ4 := toHid q4
  have HPB := toHid hpb
  obtain ⟨bw, sz, ⟨x0, x1, x2⟩, ⟨y0, y1, y2⟩⟩ := HS.out wc KX.out
  have hs0 : w.heap.size < wc.heap.size := by omega
  have hs1 : w.heap.size + 1 < wc.heap.size := by omega
  have HC7 := toHid (HSG1.out wc a1 c1 a2 c2 bw (Q1.out.below kx) (Q2.out.below kx))
  clear hxb kx q3 q4 hpb bw
  go_wp2_with fail
  refine HC7.out.mono ?_
  clear x0 x1 x2 y0 y1 y2 hs0 hs1 o0 o1 o2 hm4
  rintro e w7 ⟨rfl, k7⟩
  have K7 := toHid (KX.out.trans (k7.mono sz))
  have hpb := (k7.block p hplt).trans HPB.out
  have o0 := cell_of hpb 0
  have o1 := cell_of hpb 1
  have o2 := cell_of hpb 2
  simp at o0 o1 o2
  have hp7 : p < w7.heap.size := lt_block hpb
  have HQ5 := toHid (HQ3.out.below k7)
  have HQ6 := toHid (HQ4.out.below k7)
  clear sz k7 hpb hplt
  obtain ⟨bw, sz, ⟨x0, x1, x2⟩, ⟨y0, y1, y2⟩⟩ := HS.out w7 K7.out
  have hs0 : w.heap.size < w7.heap.size := by omega
  have hs1 : w.heap.size + 1 < w7.heap.size := by omega
  have HC8 := toHid (HSG2.out w7 b1 d1 b2 d2 bw HQ5.out HQ6.out)
  have BW7 := toHid bw
  clear bw sz
  go_wp2_with fail
  refine HC8.out.mono ?_
  clear x0 x1 x2 y0 y1 y2 hs0 hs1 o0 o1 o2 hp7
  rintro e w8 ⟨rfl, k8⟩
  have hfin := below3 BW7.out BW7.out.size k8
  go_wp2_with fail
  go_ret
  exact ⟨rfl, hfin⟩

theorem law_turns (B : Nat) (N1 : List Nd) (E1 : List Ed) (na : Option Addr) (nl nc : Nat) (ea : Option Addr) (el ec : Nat) (nx : Int) (N2 : List Nd) (E2 : List Ed) (ma : Option Addr) (ml mc : Nat) (fa : Option Addr) (fl fc : Nat) (mx : Int) (w : World) (h1 : GrOk w N1 E1 na nl ea el) (h2 : GrOk w N2 E2 ma ml fa fl) (hB : B ≤ w.heap.size) (hT : Tabs B w) :
    Calls Tryz.prog 5 #[.agg #[.slice na nl nc, .slice ea el ec, .int .i64 nx], .agg #[.slice ma ml mc, .slice fa fl fc, .int .i64 mx]] w fun e w' => e = .returned (.bool true) ∧ Below w.heap.size w w' := by
  by_cases h0 : betE N1 E1 nx N2 E2 mx = 0
  · have e1 : gE N1 E1 nx = 0 := by
      unfold betE at h0
      split at h0
      · assumption
      · exact h0
    have e2 : gE N2 E2 mx = 0 := by
      unfold betE at h0
      rw [if_pos e1] at h0
      exact h0
    exact turns_good B N1 E1 na nl nc ea el ec nx N2 E2 ma ml mc fa fl fc mx w h1 h2 hB hT e1 e2
  · exact turns_bad N1 E1 na nl nc ea el ec nx N2 E2 ma ml mc fa fl fc mx w h1 h2 h0

open Go.RowKit Go.Lib
set_option linter.unusedVariables false

theorem accept_eq : (Rows.laid_unicode_utf8_acceptRanges : DataW Unit) = acceptData := by kernel_rfl
theorem first_eq : (Rows.laid_unicode_utf8_first : DataW Unit) = firstData := Pinned.utf8First_eq

theorem u8extra : U8Extra Tryz.prog Tryz.lays196_ren := ⟨by kernel_rfl, by kernel_rfl, by kernel_rfl, by kernel_rfl, by kernel_rfl, by kernel_rfl, by kernel_rfl⟩

theorem tabs_of {l : List (String × DataW Unit)} (hf : ("unicode/utf8.first", Rows.laid_unicode_utf8_first) ∈ l) (ha : ("unicode/utf8.acceptRanges", Rows.laid_unicode_utf8_acceptRanges) ∈ l) {W : World} (h : laidMet Tryz.prog l W) : Tabs W.heap.size W := by
  have h0 : Lib.Utf8Tabs 0 1 W := utf8Tabs_of_readsT (U8Types.of196 Tryz.lays196) u8extra
    (first_eq ▸ Lib.laidMet.reads h hf)
    (accept_eq ▸ Lib.laidMet.reads h ha)
  have b0 : 0 < W.heap.size := World.block_lt_of_cell? W _ (h0.1 0 (by decide))
  have b1 : 1 < W.heap.size := World.block_lt_of_cell? W _ (h0.2 0 (by decide)).1
  intro w' hb
  refine ⟨fun c hc => ?_, fun i hi => ⟨?_, ?_⟩⟩
  · rw [hb.cell (p := ⟨0, c, none⟩) b0]; exact h0.1 c hc
  · rw [hb.cell (p := ⟨1, 2 * i, none⟩) b1]; exact (h0.2 i hi).1
  · rw [hb.cell (p := ⟨1, 2 * i + 1, none⟩) b1]; exact (h0.2 i hi).2
end Go.Proofs.YtdlmlpddkfnfmaaGreatDoor
