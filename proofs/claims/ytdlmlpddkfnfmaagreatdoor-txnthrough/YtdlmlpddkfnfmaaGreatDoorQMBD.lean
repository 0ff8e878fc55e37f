/-
  What is proved here: what the texts TThr2, TThr, GLaid prove, in one text.
-/
import Derived.Test.YtdlmlpddkfnfmaaGreatDoorQMBC
import Derived.Test.YtdlmlpddkfnfmaaGreatDoorPM
import Derived.Test.YtdlmlpddkfnfmaaGreatDoorShelf
import Derived.PinnedBridge
import Derived.Lib.LaidU8T
import Derived.Lib.LaidTab
import Derived.Lay
namespace Go.Proofs.YtdlmlpddkfnfmaaGreatDoor
open Go.RowKit
set_option linter.unusedVariables false

set_option maxHeartbeats 8000000 in
set_option maxRecDepth 100000 in
theorem through_good (B : Nat) (N1 : List Nd) (E1 : List Ed) (na : Option Addr) (nl nc : Nat) (ea : Option Addr) (el ec : Nat) (nx : Int) (N2 : List Nd) (E2 : List Ed) (ma : Option Addr) (ml mc : Nat) (fa : Option Addr) (fl fc : Nat) (mx : Int) (N3 : List Nd) (E3 : List Ed) (pa : Option Addr) (pl pc : Nat) (qa : Option Addr) (ql qc : Nat) (px : Int) (w : World) (h1 : GrOk w N1 E1 na nl ea el) (h2 : GrOk w N2 E2 ma ml fa fl) (h3 : GrOk w N3 E3 pa pl qa ql) (hB : B ≤ w.heap.size) (hT : Tabs B w) (e1 : gE N1 E1 nx = 0) (e2 : gE N2 E2 mx = 0) (e3 : gE N3 E3 px = 0) :
    Calls Tryz.prog 7 #[.agg #[.slice na nl nc, .slice ea el ec, .int .i64 nx], .agg #[.slice ma ml mc, .slice fa fl fc, .int .i64 mx], .agg #[.slice pa pl pc, .slice qa ql qc, .int .i64 px]] w fun e w' => e = .returned (.bool true) ∧ Below w.heap.size w w' := by
  obtain ⟨XN, XE, p1, p2, R1⟩ := gr_right h1 e1
  obtain ⟨YN, YE, p3, p4, R2⟩ := gr_right h2 e2
  obtain ⟨ZN, ZE, p5, p6, R3⟩ := gr_right h3 e3
  have r1 := R1 []
  have r2 := R2 []
  have r3 := R3 []
  obtain ⟨g1n, hg1⟩ : ∃ z, z = (lackL sameN XN YN).length := ⟨_, rfl⟩
  obtain ⟨n1n, hn1⟩ : ∃ z, z = (lackL sameN YN XN).length := ⟨_, rfl⟩
  obtain ⟨h1n, hh1⟩ : ∃ z, z = (lackL sameE XE YE).length := ⟨_, rfl⟩
  obtain ⟨e1n, he1⟩ : ∃ z, z = (lackL sameE YE XE).length := ⟨_, rfl⟩
  obtain ⟨g2n, hg2⟩ : ∃ z, z = (lackL sameN YN ZN).length := ⟨_, rfl⟩
  obtain ⟨n2n, hn2⟩ : ∃ z, z = (lackL sameN ZN YN).length := ⟨_, rfl⟩
  obtain ⟨h2n, hh2⟩ : ∃ z, z = (lackL sameE YE ZE).length := ⟨_, rfl⟩
  obtain ⟨e2n, he2⟩ : ∃ z, z = (lackL sameE ZE YE).length := ⟨_, rfl⟩
  have HB1 : Hid (∀ W, Below w.heap.size w W → Calls Tryz.prog 18 #[.agg #[.slice na nl nc, .slice ea el ec, .int .i64 nx], .agg #[.slice ma ml mc, .slice fa fl fc, .int .i64 mx]] W fun e w' => (∃ ga gc na1 nc1 ha hc ea1 ec1, e = .returned (.tuple #[.agg #[.slice ga g1n gc, .slice na1 n1n nc1, .slice ha h1n hc, .slice ea1 e1n ec1, .int .i64 nx, .int .i64 mx], .int .i64 0]) ∧ DAt w' (lackL sameN XN YN) (lackL sameN YN XN) (lackL sameE XE YE) (lackL sameE YE XE) ga g1n na1 n1n ha h1n ea1 e1n) ∧ Below W.heap.size W w') := fun W k => between_dat h1 h2 nc ec nx mc fc mx e1 e2 p1 p2 p3 p4 r1 r2 hg1 hn1 hh1 he1 W k
  have HB2 : Hid (∀ W, Below w.heap.size w W → Calls Tryz.prog 18 #[.agg #[.slice ma ml mc, .slice fa fl fc, .int .i64 mx], .agg #[.slice pa pl pc, .slice qa ql qc, .int .i64 px]] W fun e w' => (∃ gb gd na2 nc2 hb hd ea2 ec2, e = .returned (.tuple #[.agg #[.slice gb g2n gd, .slice na2 n2n nc2, .slice hb h2n hd, .slice ea2 e2n ec2, .int .i64 mx, .int .i64 px], .int .i64 0]) ∧ DAt w' (lackL sameN YN ZN) (lackL sameN ZN YN) (lackL sameE YE ZE) (lackL sameE ZE YE) gb g2n na2 n2n hb h2n ea2 e2n) ∧ Below W.heap.size W w') := fun W k => between_dat h2 h3 mc fc mx pc qc px e2 e3 p3 p4 p5 p6 r2 r3 hg2 hn2 hh2 he2 W k
  have HT1 : Hid (∀ W ga gc na1 nc1 ha hc ea1 ec1, Below w.heap.size w W → DAt W (lackL sameN XN YN) (lackL sameN YN XN) (lackL sameE XE YE) (lackL sameE YE XE) ga g1n na1 n1n ha h1n ea1 e1n → Calls Tryz.prog 26 #[.agg #[.slice na nl nc, .slice ea el ec, .int .i64 nx], .agg #[.slice ga g1n gc, .slice na1 n1n nc1, .slice ha h1n hc, .slice ea1 e1n ec1, .int .i64 nx, .int .i64 mx]] W fun e w' => (∃ a1 c1 a2 c2, e = .returned (.tuple #[.agg #[.slice a1 ml c1, .slice a2 fl c2, .int .i64 mx], .int .i64 0]) ∧ NsAt w' YN a1 ml ∧ EsAt w' YE a2 fl) ∧ Below W.heap.size W w') := fun W ga gc na1 nc1 ha hc ea1 ec1 k d => (turn_at B r1 r2 (ns_len p3) (es_len p4) (Nat.le_trans hB k.size) (tabs_up hT hB k) (p1.below k) (p2.below k) d nc ec gc nc1 hc ec1).mono fun e w' ⟨⟨a1, c1, a2, c2, he, q1, q2⟩, kk⟩ => ⟨⟨a1, c1, a2, c2, he, q1.seen (ns_len p3) (Keep.weak w' fun _ h _ => h), q2.seen (es_len p4) (Keep.weak w' fun _ h _ => h)⟩, kk⟩
  have HT2 : Hid (∀ W a1 c1 a2 c2 gb gd na2 nc2 hb hd ea2 ec2, Below w.heap.size w W → NsAt W YN a1 ml → EsAt W YE a2 fl → DAt W (lackL sameN YN ZN) (lackL sameN ZN YN) (lackL sameE YE ZE) (lackL sameE ZE YE) gb g2n na2 n2n hb h2n ea2 e2n → Calls Tryz.prog 26 #[.agg #[.slice a1 ml c1, .slice a2 fl c2, .int .i64 mx], .agg #[.slice gb g2n gd, .slice na2 n2n nc2, .slice hb h2n hd, .slice ea2 e2n ec2, .int .i64 mx, .int .i64 px]] W fun e w' => (∃ b1 d1 b2 d2, e = .returned (.tuple #[.agg #[.slice b1 pl d1, .slice b2 ql d2, .int .i64 px], .int .i64 0]) ∧ NsAt w' ZN b1 pl ∧ EsAt w' ZE b2 ql) ∧ Below W.heap.size W w') := fun W a1 c1 a2 c2 gb gd na2 nc2 hb hd ea2 ec2 k q1 q2 d => (turn_at B r2 r3 (ns_len p5) (es_len p6) (Nat.le_trans hB k.size) (tabs_up hT hB k) q1 q2 d c1 c2 gd nc2 hd ec2).mono fun e w' ⟨⟨b1, d1, b2, d2, he, q1, q2⟩, kk⟩ => ⟨⟨b1, d1, b2, d2, he, q1.seen (ns_len p5) (Keep.weak w' fun _ h _ => h), q2.seen (es_len p6) (Keep.weak w' fun _ h _ => h)⟩, kk⟩
  have HSG : Hid (∀ W b1 d1 b2 d2, Below w.heap.size w W → NsAt W ZN b1 pl → EsAt W ZE b2 ql → Calls Tryz.prog 12 #[.agg #[.slice b1 pl d1, .slice b2 ql d2, .int .i64 px], .agg #[.slice pa pl pc, .slice qa ql qc, .int .i64 px]] W fun e w' => e = .returned (.bool true) ∧ Below W.heap.size W w') := fun W b1 d1 b2 d2 k q1 q2 => same_graph r3 q1 q2 (p5.below k) (p6.below k) d1 d2 pc qc
  clear h1 h2 h3 e1 e2 e3 p1 p2 p3 p4 p5 p6 R1 R2 R3 r1 r2 r3 hB hT hg1 hn1 hh1 he1 hg2 hn2 hh2 he2
  obtain ⟨z0, g0, g1, g2, b0⟩ := three_new w (.cells #[.slice na nl nc, .slice ea el ec, .int .i64 nx] 25) (.cells #[.slice ma ml mc, .slice fa fl fc, .int .i64 mx] 25) (.cells #[.slice pa pl pc, .slice qa ql qc, .int .i64 px] 25)
  have Z0 := toHid z0
  have G0 := toHid g0
  have G1 := toHid g1
  have G2 := toHid g2
  have B0 := toHid b0
  clear z0 g0 g1 g2 b0
  go_enter Tryz.func7, Tryz.ntmps7
  go_wp2_with fail
  refine (HB1.out _ B0.out).mono ?_
  generalize (((w.alloc (.cells #[.slice na nl nc, .slice ea el ec, .int .i64 nx] 25)).alloc (.cells #[.slice ma ml mc, .slice fa fl fc, .int .i64 mx] 25)).alloc (.cells #[.slice pa pl pc, .slice qa ql qc, .int .i64 px] 25)) = W0 at Z0 G0 G1 G2 B0 ⊢
  have HS : Hid (∀ W' : World, Below (w.heap.size + 3) W0 W' → Below w.heap.size w W' ∧ w.heap.size + 3 ≤ W'.heap.size ∧ (W'.cell? ⟨w.heap.size, 0, none⟩ = some (.slice na nl nc) ∧ W'.cell? ⟨w.heap.size, 1, none⟩ = some (.slice ea el ec) ∧ W'.cell? ⟨w.heap.size, 2, none⟩ = some (.int .i64 nx)) ∧ (W'.cell? ⟨w.heap.size + 1, 0, none⟩ = some (.slice ma ml mc) ∧ W'.cell? ⟨w.heap.size + 1, 1, none⟩ = some (.slice fa fl fc) ∧ W'.cell? ⟨w.heap.size + 1, 2, none⟩ = some (.int .i64 mx)) ∧ (W'.cell? ⟨w.heap.size + 2, 0, none⟩ = some (.slice pa pl pc) ∧ W'.cell? ⟨w.heap.size + 2, 1, none⟩ = some (.slice qa ql qc) ∧ W'.cell? ⟨w.heap.size + 2, 2, none⟩ = some (.int .i64 px))) := fun W' kk => by
    have q0 : ∀ o, W'.cell? ⟨w.heap.size, o, none⟩ = _ := fun o => (kk.cell (p := ⟨w.heap.size, o, none⟩) (by show w.heap.size < _; omega)).trans (cell_of G0.out o)
    have q1 : ∀ o, W'.cell? ⟨w.heap.size + 1, o, none⟩ = _ := fun o => (kk.cell (p := ⟨w.heap.size + 1, o, none⟩) (by show w.heap.size + 1 < _; omega)).trans (cell_of G1.out o)
    have q2 : ∀ o, W'.cell? ⟨w.heap.size + 2, o, none⟩ = _ := fun o => (kk.cell (p := ⟨w.heap.size + 2, o, none⟩) (by show w.heap.size + 2 < _; omega)).trans (cell_of G2.out o)
    exact ⟨B0.out.trans (kk.mono (by omega)), by have := kk.size; rw [Z0.out] at this; exact this, ⟨q0 0, q0 1, q0 2⟩, ⟨q1 0, q1 1, q1 2⟩, ⟨q2 0, q2 1, q2 2⟩⟩
  rintro e w1 ⟨⟨ga, gc, na1, nc1, ha, hc, ea1, ec1, rfl, dd1⟩, k1⟩
  have hz1 : w.heap.size + 3 ≤ w1.heap.size := by have := k1.size; rw [Z0.out] at this; exact this
  rw [Z0.out] at k1
  have kA : Below w1.heap.size w1 (w1.alloc (.cells #[.slice ga g1n gc, .slice na1 n1n nc1, .slice ha h1n hc, .slice ea1 e1n ec1, .int .i64 nx, .int .i64 mx] 41)) := (Below.refl _ _).alloc (Nat.le_refl _) _
  have hA := alloc_new w1 (.cells #[.slice ga g1n gc, .slice na1 n1n nc1, .slice ha h1n hc, .slice ea1 e1n ec1, .int .i64 nx, .int .i64 mx] 41)
  have zA : (w1.alloc (.cells #[.slice ga g1n gc, .slice na1 n1n nc1, .slice ha h1n hc, .slice ea1 e1n ec1, .int .i64 nx, .int .i64 mx] 41)).heap.size = w1.heap.size + 1 := by simp
  have K1 := toHid (k1.alloc hz1 (.cells #[.slice ga g1n gc, .slice na1 n1n nc1, .slice ha h1n hc, .slice ea1 e1n ec1, .int .i64 nx, .int .i64 mx] 41))
  have DD1 := toHid (dd1.below kA)
  have HA := toHid hA
  have ZA := toHid zA
  clear k1 HB1 dd1 kA hA zA
  obtain ⟨bw, sz, ⟨x0, x1, x2⟩, ⟨y0, y1, y2⟩, ⟨v0, v1, v2⟩⟩ := HS.out (w1.alloc (.cells #[.slice ga g1n gc, .slice na1 n1n nc1, .slice ha h1n hc, .slice ea1 e1n ec1, .int .i64 nx, .int .i64 mx] 41)) K1.out
  have hs0 : w.heap.size < (w1.alloc (.cells #[.slice ga g1n gc, .slice na1 n1n nc1, .slice ha h1n hc, .slice ea1 e1n ec1, .int .i64 nx, .int .i64 mx] 41)).heap.size := by omega
  have hs1 : w.heap.size + 1 < (w1.alloc (.cells #[.slice ga g1n gc, .slice na1 n1n nc1, .slice ha h1n hc, .slice ea1 e1n ec1, .int .i64 nx, .int .i64 mx] 41)).heap.size := by omega
  have hs2 : w.heap.size + 2 < (w1.alloc (.cells #[.slice ga g1n gc, .slice na1 n1n nc1, .slice ha h1n hc, .slice ea1 e1n ec1, .int .i64 nx, .int .i64 mx] 41)).heap.size := by omega
  have BW := toHid bw
  clear bw
  go_wp2_with fail
  refine (HB2.out _ BW.out).mono ?_
  clear x0 x1 x2 y0 y1 y2 v0 v1 v2 hs0 hs1 hs2 sz
  generalize w1.alloc (.cells #[.slice ga g1n gc, .slice na1 n1n nc1, .slice ha h1n hc, .slice ea1 e1n ec1, .int .i64 nx, .int .i64 mx] 41) = W1 at K1 BW DD1 HA ZA ⊢
  generalize w1.heap.size = m1 at hz1 HA ZA ⊢
  rintro e w2 ⟨⟨gb, gd, na2, nc2, hb, hd, ea2, ec2, rfl, dd2⟩, k2⟩
  have hz2 : m1 + 1 ≤ w2.heap.size := by have := k2.size; rw [ZA.out] at this; exact this
  have kA : Below w2.heap.size w2 (w2.alloc (.cells #[.slice gb g2n gd, .slice na2 n2n nc2, .slice hb h2n hd, .slice ea2 e2n ec2, .int .i64 mx, .int .i64 px] 41)) := (Below.refl _ _).alloc (Nat.le_refl _) _
  have kB := below3 k2 k2.size kA
  have hA2 := alloc_new w2 (.cells #[.slice gb g2n gd, .slice na2 n2n nc2, .slice hb h2n hd, .slice ea2 e2n ec2, .int .i64 mx, .int .i64 px] 41)
  have zA2 : (w2.alloc (.cells #[.slice gb g2n gd, .slice na2 n2n nc2, .slice hb h2n hd, .slice ea2 e2n ec2, .int .i64 mx, .int .i64 px] 41)).heap.size = w2.heap.size + 1 := by simp
  have K2 := toHid (K1.out.trans (kB.mono (by rw [ZA.out]; omega)))
  have DD1' := toHid (DD1.out.below kB)
  have DD2 := toHid (dd2.below kA)
  have HA' := toHid ((kB.block m1 (by rw [ZA.out]; omega)).trans HA.out)
  have HA2 := toHid hA2
  have ZA2 := toHid zA2
  clear k2 HB2 dd2 kA kB hA2 zA2 DD1 HA ZA K1 BW
  go_wp2_with fail
  generalize w2.alloc (.cells #[.slice gb g2n gd, .slice na2 n2n nc2, .slice hb h2n hd, .slice ea2 e2n ec2, .int .i64 mx, .int .i64 px] 41) = W2 at K2 DD1' DD2 HA' HA2 ZA2 ⊢
  generalize w2.heap.size = m2 at hz2 HA2 ZA2 ⊢
  refine (changed_true _).mono ?_
  rintro e w3 ⟨rfl, k3⟩
  have hz3 : m2 + 1 ≤ w3.heap.size := by have := k3.size; rw [ZA2.out] at this; exact this
  have K3 := toHid (K2.out.trans (k3.mono (by rw [ZA2.out]; omega)))
  have E1 := toHid (DD1'.out.below k3)
  have E2 := toHid (DD2.out.below k3)
  have h1b := (k3.block m1 (by rw [ZA2.out]; omega)).trans HA'.out
  have HF1 := toHid h1b
  have HF2 := toHid ((k3.block m2 (by rw [ZA2.out]; omega)).trans HA2.out)
  have u0 := cell_of h1b 0
  have u1 := cell_of h1b 1
  have u2 := cell_of h1b 2
  have u3 := cell_of h1b 3
  have u4 := cell_of h1b 4
  have u5 := cell_of h1b 5
  simp at u0 u1 u2 u3 u4 u5
  clear k3 DD1' DD2 HA' HA2 ZA2 K2 h1b
  obtain ⟨bw, sz, ⟨x0, x1, x2⟩, ⟨y0, y1, y2⟩, ⟨v0, v1, v2⟩⟩ := HS.out w3 K3.out
  have hs0 : w.heap.size < w3.heap.size := by omega
  have hs1 : w.heap.size + 1 < w3.heap.size := by omega
  have hs2 : w.heap.size + 2 < w3.heap.size := by omega
  have hm1 : m1 < w3.heap.size := by omega
  go_wp2_with fail
  refine (HT1.out _ ga gc na1 nc1 ha hc ea1 ec1 bw E1.out).mono ?_
  clear x0 x1 x2 y0 y1 y2 v0 v1 v2 hs0 hs1 hs2 u0 u1 u2 u3 u4 u5 hm1
  rintro e w4 ⟨⟨a1, c1, a2, c2, rfl, q1, q2⟩, k4⟩
  have hz4 : m2 + 1 ≤ w4.heap.size := Nat.le_trans hz3 k4.size
  have kA : Below w4.heap.size w4 (w4.alloc (.cells #[.slice a1 ml c1, .slice a2 fl c2, .int .i64 mx] 25)) := (Below.refl _ _).alloc (Nat.le_refl _) _
  have kB := below3 k4 k4.size kA
  have hX := alloc_new w4 (.cells #[.slice a1 ml c1, .slice a2 fl c2, .int .i64 mx] 25)
  have zX : (w4.alloc (.cells #[.slice a1 ml c1, .slice a2 fl c2, .int .i64 mx] 25)).heap.size = w4.heap.size + 1 := by simp
  have K4 := toHid (K3.out.trans (kB.mono (by omega)))
  have Q1 := toHid (q1.below kA)
  have Q2 := toHid (q2.below kA)
  have F2 := toHid (E2.out.below kB)
  have h2b := (kB.block m2 (by omega)).trans HF2.out
  have s0 := cell_of h2b 0
  have s1 := cell_of h2b 1
  have s2 := cell_of h2b 2
  have s3 := cell_of h2b 3
  have s4 := cell_of h2b 4
  have s5 := cell_of h2b 5
  simp at s0 s1 s2 s3 s4 s5
  have HX := toHid hX
  have ZX := toHid zX
  clear k4 q1 q2 kA kB hX zX h2b HF1 HF2 E1 E2 K3 bw sz HT1
  obtain ⟨bw, sz, -, -, -⟩ := HS.out _ K4.out
  have BW := toHid bw
  have hm2 : m2 < (w4.alloc (.cells #[.slice a1 ml c1, .slice a2 fl c2, .int .i64 mx] 25)).heap.size := by rw [ZX.out]; omega
  clear bw
  go_wp2_with fail
  refine (HT2.out _ a1 c1 a2 c2 gb gd na2 nc2 hb hd ea2 ec2 BW.out Q1.out Q2.out F2.out).mono ?_
  generalize w4.alloc (.cells #[.slice a1 ml c1, .slice a2 fl c2, .int .i64 mx] 25) = W4 at K4 Q1 Q2 F2 HX ZX BW sz s0 s1 s2 s3 s4 s5 hm2 ⊢
  clear s0 s1 s2 s3 s4 s5
  rintro e w5 ⟨⟨b1, d1, b2, d2, rfl, q1, q2⟩, k5⟩
  have hz5 : w.heap.size + 3 ≤ w5.heap.size := Nat.le_trans sz k5.size
  have kA : Below w5.heap.size w5 (w5.alloc (.cells #[.slice b1 pl d1, .slice b2 ql d2, .int .i64 px] 25)) := (Below.refl _ _).alloc (Nat.le_refl _) _
  have kB := below3 k5 k5.size kA
  have K5 := toHid (K4.out.trans (kB.mono sz))
  have Q3 := toHid (q1.below kA)
  have Q4 := toHid (q2.below kA)
  clear k5 q1 q2 kA kB HT2 K4 Q1 Q2 F2 HX ZX BW sz hm2
  obtain ⟨bw, sz, ⟨x0, x1, x2⟩, ⟨y0, y1, y2⟩, ⟨v0, v1, v2⟩⟩ := HS.out (w5.alloc (.cells #[.slice b1 pl d1, .slice b2 ql d2, .int .i64 px] 25)) K5.out
  have hs0 : w.heap.size < (w5.alloc (.cells #[.slice b1 pl d1, .slice b2 ql d2, .int .i64 px] 25)).heap.size := by omega
  have hs1 : w.heap.size + 1 < (w5.alloc (.cells #[.slice b1 pl d1, .slice b2 ql d2, .int .i64 px] 25)).heap.size := by omega
  have hs2 : w.heap.size + 2 < (w5.alloc (.cells #[.slice b1 pl d1, .slice b2 ql d2, .int .i64 px] 25)).heap.size := by omega
  go_wp2_with fail
  refine (HSG.out _ b1 d1 b2 d2 bw Q3.out Q4.out).mono ?_
  rintro e w6 ⟨rfl, k6⟩
  have hfin := below3 bw bw.size k6
  clear x0 x1 x2 y0 y1 y2 v0 v1 v2 hs0 hs1 hs2
  go_wp2_with fail
  go_ret
  exact ⟨rfl, hfin⟩

theorem law_through (B : Nat) (N1 : List Nd) (E1 : List Ed) (na : Option Addr) (nl nc : Nat) (ea : Option Addr) (el ec : Nat) (nx : Int) (N2 : List Nd) (E2 : List Ed) (ma : Option Addr) (ml mc : Nat) (fa : Option Addr) (fl fc : Nat) (mx : Int) (N3 : List Nd) (E3 : List Ed) (pa : Option Addr) (pl pc : Nat) (qa : Option Addr) (ql qc : Nat) (px : Int) (w : World) (h1 : GrOk w N1 E1 na nl ea el) (h2 : GrOk w N2 E2 ma ml fa fl) (h3 : GrOk w N3 E3 pa pl qa ql) (hB : B ≤ w.heap.size) (hT : Tabs B w) :
    Calls Tryz.prog 7 #[.agg #[.slice na nl nc, .slice ea el ec, .int .i64 nx], .agg #[.slice ma ml mc, .slice fa fl fc, .int .i64 mx], .agg #[.slice pa pl pc, .slice qa ql qc, .int .i64 px]] w fun e w' => e = .returned (.bool true) ∧ Below w.heap.size w w' := by
  by_cases h0 : betE N1 E1 nx N2 E2 mx = 0
  · by_cases h00 : betE N2 E2 mx N3 E3 px = 0
    · have e1 : gE N1 E1 nx = 0 := by
        unfold betE at h0
        split at h0
        · assumption
        · exact h0
      have e2 : gE N2 E2 mx = 0 := by
        unfold betE at h0
        rw [if_pos e1] at h0
        exact h0
      have e3 : gE N3 E3 px = 0 := by
        unfold betE at h00
        rw [if_pos e2] at h00
        exact h00
      exact through_good B N1 E1 na nl nc ea el ec nx N2 E2 ma ml mc fa fl fc mx N3 E3 pa pl pc qa ql qc px w h1 h2 h3 hB hT e1 e2 e3
    · exact through_bad N1 E1 na nl nc ea el ec nx N2 E2 ma ml mc fa fl fc mx N3 E3 pa pl pc qa ql qc px w h1 h2 h3 (.inr h00)
  · exact through_bad N1 E1 na nl nc ea el ec nx N2 E2 ma ml mc fa fl fc mx N3 E3 pa pl pc qa ql qc px w h1 h2 h3 (.inl h0)

open Go.RowKit Go.Lib
set_option linter.unusedVariables false

theorem accept_eq : (Rows.laid_unicode_utf8_acceptRanges : DataW Unit) = acceptData := by kernel_rfl
theorem first_eq : (Rows.laid_unicode_utf8_first : DataW Unit) = firstData := Pinned.utf8First_eq

theorem u8extra : U8Extra Tryz.prog Tryz.lays196_ren := ⟨by kernel_rfl, by kernel_rfl, by kernel_rfl, by kernel_rfl, by kernel_rfl, by kernel_rfl, by kernel_rfl⟩

theorem tabs_of {l : List (String × DataW Unit)} (hf : ("unicode/utf8.first", Rows.laid_unicode_utf8_first) ∈ l) (ha : ("unicode/utf8.acceptRanges", Rows.laid_unicode_utf8_acceptRanges) ∈ l) {W : World} (h : laidMet Tryz.prog l W) : Tabs W.heap.size W := by
  have h0 : Lib.Utf8Tabs 0 1 W := utf8Tabs_of_readsT (U8Types.of196 Tryz.lays196) u8extra
    (first_eq ▸ Lib.laidMet.reads h hf)
    (accept_eq ▸ Lib.laidMet.reads h ha)
  have b0 : 0 < W.heap.size := World.block_lt_of_cell? W _ (h0.1 0 (by decide))
  have b1 : 1 < W.heap.size := World.block_lt_of_cell? W _ (h0.2 0 (by decide)).1
  intro w' hb
  refine ⟨fun c hc => ?_, fun i hi => ⟨?_, ?_⟩⟩
  · rw [hb.cell (p := ⟨0, c, none⟩) b0]; exact h0.1 c hc
  · rw [hb.cell (p := ⟨1, 2 * i, none⟩) b1]; exact (h0.2 i hi).1
  · rw [hb.cell (p := ⟨1, 2 * i + 1, none⟩) b1]; exact (h0.2 i hi).2
end Go.Proofs.YtdlmlpddkfnfmaaGreatDoor
