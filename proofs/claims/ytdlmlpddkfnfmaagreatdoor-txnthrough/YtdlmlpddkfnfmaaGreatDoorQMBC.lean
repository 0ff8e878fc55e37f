/-
  What is proved here: what the texts HSameG, HNoth0, TLaw0, TThr1 prove, in one text.
-/
import Derived.Test.YtdlmlpddkfnfmaaGreatDoorQMAL
import Derived.Test.YtdlmlpddkfnfmaaGreatDoorQMAY
import Derived.Test.YtdlmlpddkfnfmaaGreatDoorQMBB
import Derived.Test.YtdlmlpddkfnfmaaGreatDoorQMAW
import Derived.Test.YtdlmlpddkfnfmaaGreatDoorQMAN
import Derived.Test.YtdlmlpddkfnfmaaGreatDoorQMAJ
import Derived.Deep.RegionHeld3
namespace Go.Proofs.YtdlmlpddkfnfmaaGreatDoor
open Go.RowKit
set_option linter.unusedVariables false

set_option maxHeartbeats 8000000 in
set_option maxRecDepth 100000 in
theorem sameGraph_ref (XN YN : List AN) (XE YE : List AE) (na : Option Addr) (nl nc : Nat) (ea : Option Addr) (el ec : Nat) (nx : Int) (ma : Option Addr) (ml mc : Nat) (fa : Option Addr) (fl fc : Nat) (mx : Int) (w : World) (h1 : NsAt w XN na nl) (h2 : EsAt w XE ea el) (h3 : NsAt w YN ma ml) (h4 : EsAt w YE fa fl) (o1 : ∀ x ∈ XN, x.ok) (o2 : ∀ x ∈ XE, x.ok) (o3 : ∀ x ∈ YN, x.ok) (o4 : ∀ x ∈ YE, x.ok) :
    Calls Tryz.prog 12 #[.agg #[.slice na nl nc, .slice ea el ec, .int .i64 nx], .agg #[.slice ma ml mc, .slice fa fl fc, .int .i64 mx]] w fun e w' => e = .returned (.bool ((nx == mx) && (eqB sameN XN YN && eqB sameE XE YE))) ∧ Below w.heap.size w w' := by
  obtain ⟨R, hR⟩ : ∃ R, R = ((nx == mx) && (eqB sameN XN YN && eqB sameE XE YE)) := ⟨_, rfl⟩
  rw [← hR]
  obtain ⟨s1, hs1⟩ : ∃ z, z = eqB sameN XN YN := ⟨_, rfl⟩
  obtain ⟨s2, hs2⟩ : ∃ z, z = eqB sameE XE YE := ⟨_, rfl⟩
  have HP1 : Hid (∀ W, Below w.heap.size w W → Calls Tryz.prog 34 #[.slice na nl nc, .slice ma ml mc, .func (.func 21) #[] #[]] W fun e w' => e = .returned (.bool s1) ∧ Below W.heap.size W w') := by
    intro W kW
    rw [hs1]
    exact equalN_any XN YN na nl nc ma ml mc W (h1.below kW) (h3.below kW) (fun p x q y W hx hy hp hq => sameNode_ref p x q y W hp hq (o1 x hx) (o3 y hy))
  have HP2 : Hid (∀ W, Below w.heap.size w W → Calls Tryz.prog 35 #[.slice ea el ec, .slice fa fl fc, .func (.func 23) #[] #[]] W fun e w' => e = .returned (.bool s2) ∧ Below W.heap.size W w') := by
    intro W kW
    rw [hs2]
    exact equalE_any XE YE ea el ec fa fl fc W (h2.below kW) (h4.below kW) (fun p x q y W hx hy hp hq => sameEdge_ref p x q y W hp hq (o2 x hx) (o4 y hy))
  have HR : Hid (R = ((nx == mx) && (s1 && s2))) := by rw [hR, hs1, hs2]; exact toHid rfl
  clear hR hs1 hs2 h1 h2 h3 h4 o1 o2 o3 o4
  have hb0 : Below w.heap.size w ((w.alloc (.cells #[.slice na nl nc, .slice ea el ec, .int .i64 nx] 25)).alloc (.cells #[.slice ma ml mc, .slice fa fl fc, .int .i64 mx] 25)) := ((Below.refl _ _).alloc (Nat.le_refl _) _).alloc (by simp) _
  have HB0 := toHid hb0
  have z0 : ((w.alloc (.cells #[.slice na nl nc, .slice ea el ec, .int .i64 nx] 25)).alloc (.cells #[.slice ma ml mc, .slice fa fl fc, .int .i64 mx] 25)).heap.size = w.heap.size + 2 := by simp
  have hu := (Below.heap_alloc (w.alloc (.cells #[.slice na nl nc, .slice ea el ec, .int .i64 nx] 25)) (.cells #[.slice ma ml mc, .slice fa fl fc, .int .i64 mx] 25) w.heap.size (by simp)).trans (alloc_new w (.cells #[.slice na nl nc, .slice ea el ec, .int .i64 nx] 25))
  have hv := alloc_two w (.cells #[.slice na nl nc, .slice ea el ec, .int .i64 nx] 25) (.cells #[.slice ma ml mc, .slice fa fl fc, .int .i64 mx] 25)
  have HU := toHid hu
  have HV := toHid hv
  have HZ := toHid z0
  clear hb0 z0 hu hv
  cases i0 : (nx == mx) with
  | false =>
    have H3 := toHid (show R = false by rw [HR.out, i0]; rfl)
    clear HR
    go_enter Tryz.func12, Tryz.ntmps12
    go_wp2_with fail
    go_ret
    exact ⟨ret_bool (by rw [H3.out]), HB0.out⟩
  | true =>
    go_enter Tryz.func12, Tryz.ntmps12
    go_wp2_with fail
    refine (HP1.out _ HB0.out).mono ?_
    generalize (w.alloc (.cells #[.slice na nl nc, .slice ea el ec, .int .i64 nx] 25)).alloc (.cells #[.slice ma ml mc, .slice fa fl fc, .int .i64 mx] 25) = W0 at HB0 HU HV HZ ⊢
    rintro e w1 ⟨rfl, k1⟩
    have hb1 := HB0.out.trans (k1.mono HB0.out.size)
    have A1 := toHid ((k1.block w.heap.size (by rw [HZ.out]; omega)).trans HU.out)
    have A2 := toHid ((k1.block (w.heap.size + 1) (by rw [HZ.out]; omega)).trans HV.out)
    have z1 : w.heap.size + 2 ≤ w1.heap.size := by have := k1.size; rw [HZ.out] at this; exact this
    have u1 := cell_of A1.out 1
    have v1 := cell_of A2.out 1
    simp at u1 v1
    clear k1
    cases s1 with
    | false =>
      have H3 := toHid (show R = false by rw [HR.out, i0]; rfl)
      clear HR
      go_wp2_with fail
      go_ret
      exact ⟨ret_bool (by rw [H3.out]), hb1⟩
    | true =>
      go_wp2_with fail
      refine (HP2.out _ hb1).mono ?_
      rintro e w2 ⟨rfl, k2⟩
      have hb2 := hb1.trans (k2.mono hb1.size)
      have H3 := toHid (show R = s2 by rw [HR.out, i0]; rfl)
      clear HR
      go_wp2_with fail
      go_ret
      exact ⟨ret_bool (by rw [H3.out]), hb2⟩

set_option maxHeartbeats 8000000 in
set_option maxRecDepth 100000 in
theorem sameDelta_any (G1 N1 G2 N2 : List AN) (H1 E1 H2 E2 : List AE) (ga : Option Addr) (gl gc : Nat) (na : Option Addr) (nl nc : Nat) (ha : Option Addr) (hl hc : Nat) (ea : Option Addr) (el ec : Nat) (f1 t1 : Int) (ia : Option Addr) (il ic : Nat) (ja : Option Addr) (jl jc : Nat) (ka : Option Addr) (kl kc : Nat) (la : Option Addr) (ll lc : Nat) (f2 t2 : Int) (w : World) (g1 : NsAt w G1 ga gl) (g2 : NsAt w N1 na nl) (g3 : EsAt w H1 ha hl) (g4 : EsAt w E1 ea el) (g5 : NsAt w G2 ia il) (g6 : NsAt w N2 ja jl) (g7 : EsAt w H2 ka kl) (g8 : EsAt w E2 la ll) (o1 : ∀ x ∈ G1, x.ok) (o2 : ∀ x ∈ N1, x.ok) (o3 : ∀ x ∈ H1, x.ok) (o4 : ∀ x ∈ E1, x.ok) (o5 : ∀ x ∈ G2, x.ok) (o6 : ∀ x ∈ N2, x.ok) (o7 : ∀ x ∈ H2, x.ok) (o8 : ∀ x ∈ E2, x.ok) :
    Calls Tryz.prog 19 #[.agg #[.slice ga gl gc, .slice na nl nc, .slice ha hl hc, .slice ea el ec, .int .i64 f1, .int .i64 t1], .agg #[.slice ia il ic, .slice ja jl jc, .slice ka kl kc, .slice la ll lc, .int .i64 f2, .int .i64 t2]] w fun e w' => e = .returned (.bool ((f1 == f2) && ((t1 == t2) && (eqB sameN G1 G2 && (eqB sameN N1 N2 && (eqB sameE H1 H2 && eqB sameE E1 E2)))))) ∧ Below w.heap.size w w' := by
  obtain ⟨R, hR⟩ : ∃ R, R = ((f1 == f2) && ((t1 == t2) && (eqB sameN G1 G2 && (eqB sameN N1 N2 && (eqB sameE H1 H2 && eqB sameE E1 E2))))) := ⟨_, rfl⟩
  rw [← hR]
  obtain ⟨s1, hs1⟩ : ∃ z, z = eqB sameN G1 G2 := ⟨_, rfl⟩
  obtain ⟨s2, hs2⟩ : ∃ z, z = eqB sameN N1 N2 := ⟨_, rfl⟩
  obtain ⟨s3, hs3⟩ : ∃ z, z = eqB sameE H1 H2 := ⟨_, rfl⟩
  obtain ⟨s4, hs4⟩ : ∃ z, z = eqB sameE E1 E2 := ⟨_, rfl⟩
  have HP1 : Hid (∀ W, Below w.heap.size w W → Calls Tryz.prog 34 #[.slice ga gl gc, .slice ia il ic, .func (.func 21) #[] #[]] W fun e w' => e = .returned (.bool s1) ∧ Below W.heap.size W w') := by
    intro W kW
    rw [hs1]
    exact equalN_any G1 G2 ga gl gc ia il ic W (g1.below kW) (g5.below kW) (fun p x q y W hx hy hp hq => sameNode_ref p x q y W hp hq (o1 x hx) (o5 y hy))
  have HP2 : Hid (∀ W, Below w.heap.size w W → Calls Tryz.prog 34 #[.slice na nl nc, .slice ja jl jc, .func (.func 21) #[] #[]] W fun e w' => e = .returned (.bool s2) ∧ Below W.heap.size W w') := by
    intro W kW
    rw [hs2]
    exact equalN_any N1 N2 na nl nc ja jl jc W (g2.below kW) (g6.below kW) (fun p x q y W hx hy hp hq => sameNode_ref p x q y W hp hq (o2 x hx) (o6 y hy))
  have HP3 : Hid (∀ W, Below w.heap.size w W → Calls Tryz.prog 35 #[.slice ha hl hc, .slice ka kl kc, .func (.func 23) #[] #[]] W fun e w' => e = .returned (.bool s3) ∧ Below W.heap.size W w') := by
    intro W kW
    rw [hs3]
    exact equalE_any H1 H2 ha hl hc ka kl kc W (g3.below kW) (g7.below kW) (fun p x q y W hx hy hp hq => sameEdge_ref p x q y W hp hq (o3 x hx) (o7 y hy))
  have HP4 : Hid (∀ W, Below w.heap.size w W → Calls Tryz.prog 35 #[.slice ea el ec, .slice la ll lc, .func (.func 23) #[] #[]] W fun e w' => e = .returned (.bool s4) ∧ Below W.heap.size W w') := by
    intro W kW
    rw [hs4]
    exact equalE_any E1 E2 ea el ec la ll lc W (g4.below kW) (g8.below kW) (fun p x q y W hx hy hp hq => sameEdge_ref p x q y W hp hq (o4 x hx) (o8 y hy))
  have HR : Hid (R = ((f1 == f2) && ((t1 == t2) && (s1 && (s2 && (s3 && s4)))))) := by rw [hR, hs1, hs2, hs3, hs4]; exact toHid rfl
  clear hR hs1 hs2 hs3 hs4 g1 g2 g3 g4 g5 g6 g7 g8 o1 o2 o3 o4 o5 o6 o7 o8
  have hb0 : Below w.heap.size w ((w.alloc (.cells #[.slice ga gl gc, .slice na nl nc, .slice ha hl hc, .slice ea el ec, .int .i64 f1, .int .i64 t1] 41)).alloc (.cells #[.slice ia il ic, .slice ja jl jc, .slice ka kl kc, .slice la ll lc, .int .i64 f2, .int .i64 t2] 41)) := ((Below.refl _ _).alloc (Nat.le_refl _) _).alloc (by simp) _
  have HB0 := toHid hb0
  have z0 : ((w.alloc (.cells #[.slice ga gl gc, .slice na nl nc, .slice ha hl hc, .slice ea el ec, .int .i64 f1, .int .i64 t1] 41)).alloc (.cells #[.slice ia il ic, .slice ja jl jc, .slice ka kl kc, .slice la ll lc, .int .i64 f2, .int .i64 t2] 41)).heap.size = w.heap.size + 2 := by simp
  have hu := (Below.heap_alloc (w.alloc (.cells #[.slice ga gl gc, .slice na nl nc, .slice ha hl hc, .slice ea el ec, .int .i64 f1, .int .i64 t1] 41)) (.cells #[.slice ia il ic, .slice ja jl jc, .slice ka kl kc, .slice la ll lc, .int .i64 f2, .int .i64 t2] 41) w.heap.size (by simp)).trans (alloc_new w (.cells #[.slice ga gl gc, .slice na nl nc, .slice ha hl hc, .slice ea el ec, .int .i64 f1, .int .i64 t1] 41))
  have hv := alloc_two w (.cells #[.slice ga gl gc, .slice na nl nc, .slice ha hl hc, .slice ea el ec, .int .i64 f1, .int .i64 t1] 41) (.cells #[.slice ia il ic, .slice ja jl jc, .slice ka kl kc, .slice la ll lc, .int .i64 f2, .int .i64 t2] 41)
  have HU := toHid hu
  have HV := toHid hv
  have HZ := toHid z0
  clear hb0 z0 hu hv
  cases i0 : (f1 == f2) with
  | false =>
    have H3 := toHid (show R = false by rw [HR.out, i0]; rfl)
    clear HR
    go_enter Tryz.func19, Tryz.ntmps19
    go_wp2_with fail
    go_ret
    exact ⟨ret_bool (by rw [H3.out]), HB0.out⟩
  | true =>
    cases i1 : (t1 == t2) with
    | false =>
      have H3 := toHid (show R = false by rw [HR.out, i0, i1]; rfl)
      clear HR
      go_enter Tryz.func19, Tryz.ntmps19
      go_wp2_with fail
      go_ret
      exact ⟨ret_bool (by rw [H3.out]), HB0.out⟩
    | true =>
      go_enter Tryz.func19, Tryz.ntmps19
      go_wp2_with fail
      refine (HP1.out _ HB0.out).mono ?_
      generalize (w.alloc (.cells #[.slice ga gl gc, .slice na nl nc, .slice ha hl hc, .slice ea el ec, .int .i64 f1, .int .i64 t1] 41)).alloc (.cells #[.slice ia il ic, .slice ja jl jc, .slice ka kl kc, .slice la ll lc, .int .i64 f2, .int .i64 t2] 41) = W0 at HB0 HU HV HZ ⊢
      rintro e w1 ⟨rfl, k1⟩
      have hb1 := HB0.out.trans (k1.mono HB0.out.size)
      have A1 := toHid ((k1.block w.heap.size (by rw [HZ.out]; omega)).trans HU.out)
      have A2 := toHid ((k1.block (w.heap.size + 1) (by rw [HZ.out]; omega)).trans HV.out)
      have z1 : w.heap.size + 2 ≤ w1.heap.size := by have := k1.size; rw [HZ.out] at this; exact this
      have u1 := cell_of A1.out 1
      have v1 := cell_of A2.out 1
      simp at u1 v1
      clear k1
      cases s1 with
      | false =>
        have H3 := toHid (show R = false by rw [HR.out, i0, i1]; rfl)
        clear HR
        go_wp2_with fail
        go_ret
        exact ⟨ret_bool (by rw [H3.out]), hb1⟩
      | true =>
        go_wp2_with fail
        refine (HP2.out _ hb1).mono ?_
        rintro e w2 ⟨rfl, k2⟩
        have hb2 := hb1.trans (k2.mono hb1.size)
        have A3 := toHid ((k2.block w.heap.size (by omega)).trans A1.out)
        have A4 := toHid ((k2.block (w.heap.size + 1) (by omega)).trans A2.out)
        have z2 : w.heap.size + 2 ≤ w2.heap.size := Nat.le_trans z1 k2.size
        have u2 := cell_of A3.out 2
        have v2 := cell_of A4.out 2
        simp at u2 v2
        clear k2
        cases s2 with
        | false =>
          have H3 := toHid (show R = false by rw [HR.out, i0, i1]; rfl)
          clear HR
          go_wp2_with fail
          go_ret
          exact ⟨ret_bool (by rw [H3.out]), hb2⟩
        | true =>
          go_wp2_with fail
          refine (HP3.out _ hb2).mono ?_
          rintro e w3 ⟨rfl, k3⟩
          have hb3 := hb2.trans (k3.mono hb2.size)
          have A5 := toHid ((k3.block w.heap.size (by omega)).trans A3.out)
          have A6 := toHid ((k3.block (w.heap.size + 1) (by omega)).trans A4.out)
          have z3 : w.heap.size + 2 ≤ w3.heap.size := Nat.le_trans z2 k3.size
          have u3 := cell_of A5.out 3
          have v3 := cell_of A6.out 3
          simp at u3 v3
          clear k3
          cases s3 with
          | false =>
            have H3 := toHid (show R = false by rw [HR.out, i0, i1]; rfl)
            clear HR
            go_wp2_with fail
            go_ret
            exact ⟨ret_bool (by rw [H3.out]), hb3⟩
          | true =>
            go_wp2_with fail
            refine (HP4.out _ hb3).mono ?_
            rintro e w4 ⟨rfl, k4⟩
            have hb4 := hb3.trans (k4.mono hb3.size)
            have H3 := toHid (show R = s4 by rw [HR.out, i0, i1]; rfl)
            clear HR
            go_wp2_with fail
            go_ret
            exact ⟨ret_bool (by rw [H3.out]), hb4⟩

/-- A difference that may be read, by where it lies. -/
def DAt (w : World) (G N : List AN) (H E : List AE) (ga : Option Addr) (gn : Nat) (na : Option Addr) (nn : Nat) (ha : Option Addr) (hn : Nat) (ea : Option Addr) (en : Nat) : Prop := NsAt w G ga gn ∧ NsAt w N na nn ∧ EsAt w H ha hn ∧ EsAt w E ea en

theorem DAt.below {w w' : World} {G N : List AN} {H E : List AE} {ga : Option Addr} {gn : Nat} {na : Option Addr} {nn : Nat} {ha : Option Addr} {hn : Nat} {ea : Option Addr} {en : Nat} (h : DAt w G N H E ga gn na nn ha hn ea en) (k : Below w.heap.size w w') : DAt w' G N H E ga gn na nn ha hn ea en := ⟨h.1.below k, h.2.1.below k, h.2.2.1.below k, h.2.2.2.below k⟩

def DOk (G N : List AN) (H E : List AE) : Prop := (∀ x ∈ G, x.ok) ∧ (∀ x ∈ N, x.ok) ∧ (∀ x ∈ H, x.ok) ∧ (∀ x ∈ E, x.ok)

/-- Two graphs of which one isn't right. -/
theorem between_bad {N1 : List Nd} {E1 : List Ed} {N2 : List Nd} {E2 : List Ed} {na : Option Addr} {nl : Nat} {ea : Option Addr} {el : Nat} {ma : Option Addr} {ml : Nat} {fa : Option Addr} {fl : Nat} {w : World} (h1 : GrOk w N1 E1 na nl ea el) (h2 : GrOk w N2 E2 ma ml fa fl) (nc ec : Nat) (nx : Int) (mc fc : Nat) (mx : Int) (er : Int) (her : er = if gE N1 E1 nx = 0 then gE N2 E2 mx else gE N1 E1 nx) (h0 : er ≠ 0) (W : World) (k : Below w.heap.size w W) :
    Calls Tryz.prog 18 #[.agg #[.slice na nl nc, .slice ea el ec, .int .i64 nx], .agg #[.slice ma ml mc, .slice fa fl fc, .int .i64 mx]] W fun e w' => e = .returned (.tuple #[.agg #[.slice none 0 0, .slice none 0 0, .slice none 0 0, .slice none 0 0, .int .i64 0, .int .i64 0], .int .i64 er]) ∧ Below W.heap.size W w' := by
  refine (between_any [] [] [] [] na nl nc ea el ec nx ma ml mc fa fl fc mx (gE N1 E1 nx) (gE N2 E2 mx) er W (fun V kV => check_ok h1 nc ec nx V (k.trans (kV.mono k.size))) (fun V kV => check_ok h2 mc fc mx V (k.trans (kV.mono k.size))) her (fun h => absurd h h0)).mono ?_
  rintro e w' ⟨⟨v, rfl, hv, _⟩, kk⟩
  rw [hv h0]
  exact ⟨rfl, kk⟩

/-- Two graphs that are right. -/
theorem between_good {N1 : List Nd} {E1 : List Ed} {N2 : List Nd} {E2 : List Ed} {na : Option Addr} {nl : Nat} {ea : Option Addr} {el : Nat} {ma : Option Addr} {ml : Nat} {fa : Option Addr} {fl : Nat} {w : World} (h1 : GrOk w N1 E1 na nl ea el) (h2 : GrOk w N2 E2 ma ml fa fl) (nc ec : Nat) (nx : Int) (mc fc : Nat) (mx : Int) (e1 : gE N1 E1 nx = 0) (e2 : gE N2 E2 mx = 0)
    {XN YN : List AN} {XE YE : List AE} (p1 : NsAt w XN na nl) (p2 : EsAt w XE ea el) (p3 : NsAt w YN ma ml) (p4 : EsAt w YE fa fl) (o1 : ∀ x ∈ XN, x.ok) (o2 : ∀ x ∈ XE, x.ok) (o3 : ∀ x ∈ YN, x.ok) (o4 : ∀ x ∈ YE, x.ok) (l1 : nl ≤ 40) (l2 : el ≤ 60) (l3 : ml ≤ 40) (l4 : fl ≤ 60) (W : World) (k : Below w.heap.size w W) :
    Calls Tryz.prog 18 #[.agg #[.slice na nl nc, .slice ea el ec, .int .i64 nx], .agg #[.slice ma ml mc, .slice fa fl fc, .int .i64 mx]] W fun e w' => (∃ v, e = .returned (.tuple #[v, .int .i64 0]) ∧ DOwnV W w' (lackL sameN XN YN) (lackL sameN YN XN) (lackL sameE XE YE) (lackL sameE YE XE) nx mx v) ∧ Below W.heap.size W w' := by
  refine (between_any XN XE YN YE na nl nc ea el ec nx ma ml mc fa fl fc mx 0 0 0 W (fun V kV => by have := check_ok h1 nc ec nx V (k.trans (kV.mono k.size)); rw [e1] at this; exact this) (fun V kV => by have := check_ok h2 mc fc mx V (k.trans (kV.mono k.size)); rw [e2] at this; exact this) rfl (fun _ => ⟨p1.below k, p2.below k, p3.below k, p4.below k, ⟨by omega, by omega, by omega, by omega⟩, o1, o2, o3, o4⟩)).mono ?_
  rintro e w' ⟨⟨v, rfl, _, hv⟩, kk⟩
  exact ⟨⟨v, rfl, hv rfl⟩, kk⟩

theorem lack_ok {G N : List AN} {H E : List AE} (o1 : ∀ x ∈ G, x.ok) (o2 : ∀ x ∈ N, x.ok) (o3 : ∀ x ∈ H, x.ok) (o4 : ∀ x ∈ E, x.ok) : DOk (lackL sameN G N) (lackL sameN N G) (lackL sameE H E) (lackL sameE E H) :=
  ⟨fun x hx => o1 x (lackL_mem hx), fun x hx => o2 x (lackL_mem hx), fun x hx => o3 x (lackL_mem hx), fun x hx => o4 x (lackL_mem hx)⟩

/-- What is turned back, at lengths that are letters. -/
theorem back_at {G N : List AN} {H E : List AE} (ho : DOk G N H E) {gn nn hn en : Nat} (hl : gn = G.length ∧ nn = N.length ∧ hn = H.length ∧ en = E.length) (hs : gn ≤ 1000 ∧ nn ≤ 1000 ∧ hn ≤ 1000 ∧ en ≤ 1000) {W : World} {ga : Option Addr} {na : Option Addr} {ha : Option Addr} {ea : Option Addr} (h : DAt W G N H E ga gn na nn ha hn ea en) (gc nc hc ec : Nat) (f t : Int) :
    Calls Tryz.prog 24 #[.agg #[.slice ga gn gc, .slice na nn nc, .slice ha hn hc, .slice ea en ec, .int .i64 f, .int .i64 t]] W fun e w' => (∃ a1 c1 a2 c2 a3 c3 a4 c4, e = .returned (.agg #[.slice a1 nn c1, .slice a2 gn c2, .slice a3 en c3, .slice a4 hn c4, .int .i64 t, .int .i64 f]) ∧ DAt w' N G E H a1 nn a2 gn a3 en a4 hn) ∧ Below W.heap.size W w' := by
  refine (back_any G N H E ga gn gc na nn nc ha hn hc ea en ec f t W h.1 h.2.1 h.2.2.1 h.2.2.2 hs.1 hs.2.1 hs.2.2.1 hs.2.2.2 ho.1 ho.2.1 ho.2.2.1 ho.2.2.2).mono ?_
  rintro e w' ⟨⟨v, rfl, a1, c1, a2, c2, a3, c3, a4, c4, rfl, q1, q2, q3, q4⟩, k⟩
  obtain ⟨rfl, rfl, rfl, rfl⟩ := hl
  exact ⟨⟨a1, c1, a2, c2, a3, c3, a4, c4, rfl, q1, q2, q3, q4⟩, k⟩

/-- The same difference, twice in memory. -/
theorem same_at {G N : List AN} {H E : List AE} (ho : DOk G N H E) {gn nn hn en : Nat} {W : World} {ga : Option Addr} {na : Option Addr} {ha : Option Addr} {ea : Option Addr} (h : DAt W G N H E ga gn na nn ha hn ea en) {ia ja ka la : Option Addr} (h' : DAt W G N H E ia gn ja nn ka hn la en) (gc nc hc ec ic jc kc lc : Nat) (f t : Int) :
    Calls Tryz.prog 19 #[.agg #[.slice ga gn gc, .slice na nn nc, .slice ha hn hc, .slice ea en ec, .int .i64 f, .int .i64 t], .agg #[.slice ia gn ic, .slice ja nn jc, .slice ka hn kc, .slice la en lc, .int .i64 f, .int .i64 t]] W fun e w' => e = .returned (.bool true) ∧ Below W.heap.size W w' := by
  have := sameDelta_any G N G N H E H E ga gn gc na nn nc ha hn hc ea en ec f t ia gn ic ja nn jc ka hn kc la en lc f t W h.1 h.2.1 h.2.2.1 h.2.2.2 h'.1 h'.2.1 h'.2.2.1 h'.2.2.2 ho.1 ho.2.1 ho.2.2.1 ho.2.2.2 ho.1 ho.2.1 ho.2.2.1 ho.2.2.2
  rw [eqB_self _ sameN_self, eqB_self _ sameN_self, eqB_self _ sameE_self, eqB_self _ sameE_self] at this
  simpa using this

theorem ops_none (w : World) : OpsAt w [] none 0 := ⟨rfl, by omega, fun h => absurd h (Nat.lt_irrefl _)⟩

/-- No operations: the graph, laid anew. -/
theorem apply_none {XN : List AN} {XE : List AE} {na : Option Addr} {nl nc : Nat} {ea : Option Addr} {el ec : Nat} {nx : Int} {w : World} (hC : ∀ W, Below w.heap.size w W → Calls Tryz.prog 30 #[.agg #[.slice na nl nc, .slice ea el ec, .int .i64 nx]] W fun e w' => e = .returned (.int .i64 0) ∧ Below W.heap.size W w') (p1 : NsAt w XN na nl) (p2 : EsAt w XE ea el) (o1 : ∀ x ∈ XN, x.ok) (o2 : ∀ x ∈ XE, x.ok) (l1 : nl ≤ 40) (l2 : el ≤ 60) (W : World) (k : Below w.heap.size w W) {xl yl : Nat} (hxl : xl = XN.length) (hyl : yl = XE.length) :
    Calls Tryz.prog 10 #[.agg #[.slice na nl nc, .slice ea el ec, .int .i64 nx], .slice none 0 0] W fun e w' => (∃ a1 c1 a2 c2 a3 c3, e = .returned (.tuple #[.agg #[.slice a1 xl c1, .slice a2 yl c2, .int .i64 nx], .slice a3 0 c3, .int .i64 0, .int .i64 0]) ∧ NsAt w' XN a1 xl ∧ EsAt w' XE a2 yl) ∧ Below W.heap.size W w' := by
  refine (apply_of XN XE nx na nl nc ea el ec [] none 0 0 (fun _ => 0) (fun _ => ⟨XN, XE, nx, []⟩) W (fun V kV => hC V (k.trans (kV.mono k.size))) (p1.below k) (p2.below k) (by omega) (by omega) o1 o2 (ops_none W) (by omega) rfl (fun _ => by show 0 ≤ _; omega) (fun i o hi => by simp at hi)).mono ?_
  rintro e w' ⟨hA, kk⟩
  subst hxl hyl
  rcases hA with ⟨i, hi, _⟩ | ⟨_, a1, c1, a2, c2, a3, c3, rfl, _, q1, _, q2, _⟩
  · omega
  · exact ⟨⟨a1, c1, a2, c2, a3, c3, rfl, q1, q2⟩, kk⟩

theorem ns_len {w : World} {X : List AN} {a : Option Addr} {l : Nat} (h : NsAt w X a l) : l = X.length := by
  obtain ⟨N, h1, h2⟩ := h
  rw [h1.1, h2.1]

theorem es_len {w : World} {X : List AE} {a : Option Addr} {l : Nat} (h : EsAt w X a l) : l = X.length := by
  obtain ⟨N, h1, h2⟩ := h
  rw [h1.1, h2.1]

theorem bset3 {B : Nat} {a u : World} (k : Below B a u) (p : Nat) (hp : B ≤ p) (v0 v1 v2 : Value) : Below B a (((u.setCell ⟨p, 0, none⟩ v0).setCell ⟨p, 1, none⟩ v1).setCell ⟨p, 2, none⟩ v2) :=
  ((k.setCell (p := ⟨p, 0, none⟩) hp _).setCell (p := ⟨p, 1, none⟩) hp _).setCell (p := ⟨p, 2, none⟩) hp _

/-- What Between answers of any two graphs, by its error. -/
def BetForm (er : Int) (e : Ending) : Prop := ∃ ga gl gc na nl nc ha hl hc ea el ec f t, e = .returned (.tuple #[.agg #[.slice ga gl gc, .slice na nl nc, .slice ha hl hc, .slice ea el ec, .int .i64 f, .int .i64 t], .int .i64 er])

/-- Its error. -/
def betE (N1 : List Nd) (E1 : List Ed) (nx : Int) (N2 : List Nd) (E2 : List Ed) (mx : Int) : Int := if gE N1 E1 nx = 0 then gE N2 E2 mx else gE N1 E1 nx

theorem between_form {N1 : List Nd} {E1 : List Ed} {N2 : List Nd} {E2 : List Ed} {na : Option Addr} {nl : Nat} {ea : Option Addr} {el : Nat} {ma : Option Addr} {ml : Nat} {fa : Option Addr} {fl : Nat} {w : World} (h1 : GrOk w N1 E1 na nl ea el) (h2 : GrOk w N2 E2 ma ml fa fl) (nc ec : Nat) (nx : Int) (mc fc : Nat) (mx : Int) (W : World) (k : Below w.heap.size w W) :
    Calls Tryz.prog 18 #[.agg #[.slice na nl nc, .slice ea el ec, .int .i64 nx], .agg #[.slice ma ml mc, .slice fa fl fc, .int .i64 mx]] W fun e w' => BetForm (betE N1 E1 nx N2 E2 mx) e ∧ Below W.heap.size W w' := by
  by_cases h0 : betE N1 E1 nx N2 E2 mx = 0
  · have e1 : gE N1 E1 nx = 0 := by
      unfold betE at h0
      split at h0
      · assumption
      · exact h0
    have e2 : gE N2 E2 mx = 0 := by
      unfold betE at h0
      rw [if_pos e1] at h0
      exact h0
    obtain ⟨XN, XE, p1, p2, o1, o2, l1, l2, _, _⟩ := gr_abs h1 e1
    obtain ⟨YN, YE, p3, p4, o3, o4, l3, l4, _, _⟩ := gr_abs h2 e2
    refine (between_good h1 h2 nc ec nx mc fc mx e1 e2 p1 p2 p3 p4 o1 o2 o3 o4 l1 l2 l3 l4 W k).mono ?_
    rintro e w' ⟨⟨v, rfl, ga, gc, na1, nc1, ha, hc, ea1, ec1, rfl, _⟩, kk⟩
    rw [h0]
    exact ⟨⟨_, _, _, _, _, _, _, _, _, _, _, _, _, _, rfl⟩, kk⟩
  · refine (between_bad h1 h2 nc ec nx mc fc mx _ rfl h0 W k).mono ?_
    rintro e w' ⟨rfl, kk⟩
    exact ⟨⟨_, _, _, _, _, _, _, _, _, _, _, _, _, _, rfl⟩, kk⟩

/-- Between of two right graphs, at lengths that are letters. -/
theorem between_dat {N1 : List Nd} {E1 : List Ed} {N2 : List Nd} {E2 : List Ed} {na : Option Addr} {nl : Nat} {ea : Option Addr} {el : Nat} {ma : Option Addr} {ml : Nat} {fa : Option Addr} {fl : Nat} {w : World} (h1 : GrOk w N1 E1 na nl ea el) (h2 : GrOk w N2 E2 ma ml fa fl) (nc ec : Nat) (nx : Int) (mc fc : Nat) (mx : Int) (e1 : gE N1 E1 nx = 0) (e2 : gE N2 E2 mx = 0) {XN YN : List AN} {XE YE : List AE} (p1 : NsAt w XN na nl) (p2 : EsAt w XE ea el) (p3 : NsAt w YN ma ml) (p4 : EsAt w YE fa fl) (r1 : Rt ⟨XN, XE, nx, []⟩) (r2 : Rt ⟨YN, YE, mx, []⟩) {gn nn hn en : Nat} (hg : gn = (lackL sameN XN YN).length) (hn1 : nn = (lackL sameN YN XN).length) (hh : hn = (lackL sameE XE YE).length) (he : en = (lackL sameE YE XE).length) (W : World) (k : Below w.heap.size w W) :
    Calls Tryz.prog 18 #[.agg #[.slice na nl nc, .slice ea el ec, .int .i64 nx], .agg #[.slice ma ml mc, .slice fa fl fc, .int .i64 mx]] W fun e w' => (∃ ga gc na1 nc1 ha hc ea1 ec1, e = .returned (.tuple #[.agg #[.slice ga gn gc, .slice na1 nn nc1, .slice ha hn hc, .slice ea1 en ec1, .int .i64 nx, .int .i64 mx], .int .i64 0]) ∧ DAt w' (lackL sameN XN YN) (lackL sameN YN XN) (lackL sameE XE YE) (lackL sameE YE XE) ga gn na1 nn ha hn ea1 en) ∧ Below W.heap.size W w' := by
  have l1 : nl ≤ 40 := by rw [ns_len p1]; exact r1.n40
  have l2 : el ≤ 60 := by rw [es_len p2]; exact r1.e60
  have l3 : ml ≤ 40 := by rw [ns_len p3]; exact r2.n40
  have l4 : fl ≤ 60 := by rw [es_len p4]; exact r2.e60
  refine (between_good h1 h2 nc ec nx mc fc mx e1 e2 p1 p2 p3 p4 r1.nok r1.eok r2.nok r2.eok l1 l2 l3 l4 W k).mono ?_
  rintro e w' ⟨⟨v, rfl, ga, gc, na1, nc1, ha, hc, ea1, ec1, rfl, q1, q2, q3, q4⟩, kk⟩
  subst hg hn1 hh he
  exact ⟨⟨ga, gc, na1, nc1, ha, hc, ea1, ec1, rfl, q1.reads2.2, q2.reads2.2, q3.reads2.2, q4.reads2.2⟩, kk⟩

/-- Turn of a right graph and what differs. -/
theorem turn_at (B : Nat) {XN YN : List AN} {XE YE : List AE} {nx mx : Int} (r1 : Rt ⟨XN, XE, nx, []⟩) (r2 : Rt ⟨YN, YE, mx, []⟩) {ml fl : Nat} (hm : ml = YN.length) (hf : fl = YE.length) {W : World} (hB : B ≤ W.heap.size) (hT : Tabs B W) {na : Option Addr} {nl : Nat} {ea : Option Addr} {el : Nat} (p1 : NsAt W XN na nl) (p2 : EsAt W XE ea el) {ga : Option Addr} {gn : Nat} {na1 : Option Addr} {nn : Nat} {ha : Option Addr} {hn : Nat} {ea1 : Option Addr} {en : Nat} (d : DAt W (lackL sameN XN YN) (lackL sameN YN XN) (lackL sameE XE YE) (lackL sameE YE XE) ga gn na1 nn ha hn ea1 en) (nc ec gc nc1 hc ec1 : Nat) :
    Calls Tryz.prog 26 #[.agg #[.slice na nl nc, .slice ea el ec, .int .i64 nx], .agg #[.slice ga gn gc, .slice na1 nn nc1, .slice ha hn hc, .slice ea1 en ec1, .int .i64 nx, .int .i64 mx]] W fun e w' => (∃ a1 c1 a2 c2, e = .returned (.tuple #[.agg #[.slice a1 ml c1, .slice a2 fl c2, .int .i64 mx], .int .i64 0]) ∧ NsOwn (fun i => W.heap.size ≤ i) w' YN (.slice a1 ml c1) ∧ EsOwn (fun i => W.heap.size ≤ i) w' YE (.slice a2 fl c2)) ∧ Below W.heap.size W w' :=
  turn_any B XN YN XE YE na nl nc ea el ec nx ga gn gc na1 nn nc1 ha hn hc ea1 en ec1 mx ml fl W hB hT r1 r2 p1 p2 d.1 d.2.1 d.2.2.1 d.2.2.2 hm hf

theorem NsOwn.seen {A : Nat → Prop} {w w' : World} {X : List AN} {a : Option Addr} {l c : Nat} (h : NsOwn A w X (.slice a l c)) (hl : l = X.length) (k : Keep A A w w') : NsAt w' X a l := by
  subst hl
  exact (h.kept k).reads2.2

theorem EsOwn.seen {A : Nat → Prop} {w w' : World} {X : List AE} {a : Option Addr} {l c : Nat} (h : EsOwn A w X (.slice a l c)) (hl : l = X.length) (k : Keep A A w w') : EsAt w' X a l := by
  subst hl
  exact (h.kept k).reads2.2

/-- A graph, twice in memory. -/
theorem same_graph {XN : List AN} {XE : List AE} {nx : Int} (r : Rt ⟨XN, XE, nx, []⟩) {W : World} {a : Option Addr} {l : Nat} {b : Option Addr} {m : Nat} {a' : Option Addr} {l' : Nat} {b' : Option Addr} {m' : Nat} (h1 : NsAt W XN a l) (h2 : EsAt W XE b m) (h3 : NsAt W XN a' l') (h4 : EsAt W XE b' m') (c d c' d' : Nat) :
    Calls Tryz.prog 12 #[.agg #[.slice a l c, .slice b m d, .int .i64 nx], .agg #[.slice a' l' c', .slice b' m' d', .int .i64 nx]] W fun e w' => e = .returned (.bool true) ∧ Below W.heap.size W w' := by
  have := sameGraph_ref XN XN XE XE a l c b m d nx a' l' c' b' m' d' nx W h1 h2 h3 h4 r.nok r.eok r.nok r.eok
  rw [eqB_self _ sameN_self, eqB_self _ sameE_self] at this
  simpa using this

set_option maxHeartbeats 8000000 in
set_option maxRecDepth 100000 in
theorem through_bad (N1 : List Nd) (E1 : List Ed) (na : Option Addr) (nl nc : Nat) (ea : Option Addr) (el ec : Nat) (nx : Int) (N2 : List Nd) (E2 : List Ed) (ma : Option Addr) (ml mc : Nat) (fa : Option Addr) (fl fc : Nat) (mx : Int) (N3 : List Nd) (E3 : List Ed) (pa : Option Addr) (pl pc : Nat) (qa : Option Addr) (ql qc : Nat) (px : Int) (w : World) (h1 : GrOk w N1 E1 na nl ea el) (h2 : GrOk w N2 E2 ma ml fa fl) (h3 : GrOk w N3 E3 pa pl qa ql) (h0 : betE N1 E1 nx N2 E2 mx ≠ 0 ∨ betE N2 E2 mx N3 E3 px ≠ 0) :
    Calls Tryz.prog 7 #[.agg #[.slice na nl nc, .slice ea el ec, .int .i64 nx], .agg #[.slice ma ml mc, .slice fa fl fc, .int .i64 mx], .agg #[.slice pa pl pc, .slice qa ql qc, .int .i64 px]] w fun e w' => e = .returned (.bool true) ∧ Below w.heap.size w w' := by
  obtain ⟨er1, her1⟩ : ∃ z, z = betE N1 E1 nx N2 E2 mx := ⟨_, rfl⟩
  obtain ⟨er2, her2⟩ : ∃ z, z = betE N2 E2 mx N3 E3 px := ⟨_, rfl⟩
  have HB1 : Hid (∀ W, Below w.heap.size w W → Calls Tryz.prog 18 #[.agg #[.slice na nl nc, .slice ea el ec, .int .i64 nx], .agg #[.slice ma ml mc, .slice fa fl fc, .int .i64 mx]] W fun e w' => BetForm er1 e ∧ Below W.heap.size W w') := fun W k => by rw [her1]; exact between_form h1 h2 nc ec nx mc fc mx W k
  have HB2 : Hid (∀ W, Below w.heap.size w W → Calls Tryz.prog 18 #[.agg #[.slice ma ml mc, .slice fa fl fc, .int .i64 mx], .agg #[.slice pa pl pc, .slice qa ql qc, .int .i64 px]] W fun e w' => BetForm er2 e ∧ Below W.heap.size W w') := fun W k => by rw [her2]; exact between_form h2 h3 mc fc mx pc qc px W k
  rw [← her1, ← her2] at h0
  clear h1 h2 h3 her1 her2
  obtain ⟨z0, g0, g1, g2, b0⟩ := three_new w (.cells #[.slice na nl nc, .slice ea el ec, .int .i64 nx] 25) (.cells #[.slice ma ml mc, .slice fa fl fc, .int .i64 mx] 25) (.cells #[.slice pa pl pc, .slice qa ql qc, .int .i64 px] 25)
  have Z0 := toHid z0
  have G0 := toHid g0
  have G1 := toHid g1
  have G2 := toHid g2
  have B0 := toHid b0
  clear z0 g0 g1 g2 b0
  go_enter Tryz.func7, Tryz.ntmps7
  go_wp2_with fail
  refine (HB1.out _ B0.out).mono ?_
  generalize (((w.alloc (.cells #[.slice na nl nc, .slice ea el ec, .int .i64 nx] 25)).alloc (.cells #[.slice ma ml mc, .slice fa fl fc, .int .i64 mx] 25)).alloc (.cells #[.slice pa pl pc, .slice qa ql qc, .int .i64 px] 25)) = W0 at Z0 G0 G1 G2 B0 ⊢
  have HS : Hid (∀ W' : World, Below (w.heap.size + 3) W0 W' → Below w.heap.size w W' ∧ w.heap.size + 3 ≤ W'.heap.size ∧ (W'.cell? ⟨w.heap.size, 0, none⟩ = some (.slice na nl nc) ∧ W'.cell? ⟨w.heap.size, 1, none⟩ = some (.slice ea el ec) ∧ W'.cell? ⟨w.heap.size, 2, none⟩ = some (.int .i64 nx)) ∧ (W'.cell? ⟨w.heap.size + 1, 0, none⟩ = some (.slice ma ml mc) ∧ W'.cell? ⟨w.heap.size + 1, 1, none⟩ = some (.slice fa fl fc) ∧ W'.cell? ⟨w.heap.size + 1, 2, none⟩ = some (.int .i64 mx)) ∧ (W'.cell? ⟨w.heap.size + 2, 0, none⟩ = some (.slice pa pl pc) ∧ W'.cell? ⟨w.heap.size + 2, 1, none⟩ = some (.slice qa ql qc) ∧ W'.cell? ⟨w.heap.size + 2, 2, none⟩ = some (.int .i64 px))) := fun W' kk => by
    have q0 : ∀ o, W'.cell? ⟨w.heap.size, o, none⟩ = _ := fun o => (kk.cell (p := ⟨w.heap.size, o, none⟩) (by show w.heap.size < _; omega)).trans (cell_of G0.out o)
    have q1 : ∀ o, W'.cell? ⟨w.heap.size + 1, o, none⟩ = _ := fun o => (kk.cell (p := ⟨w.heap.size + 1, o, none⟩) (by show w.heap.size + 1 < _; omega)).trans (cell_of G1.out o)
    have q2 : ∀ o, W'.cell? ⟨w.heap.size + 2, o, none⟩ = _ := fun o => (kk.cell (p := ⟨w.heap.size + 2, o, none⟩) (by show w.heap.size + 2 < _; omega)).trans (cell_of G2.out o)
    exact ⟨B0.out.trans (kk.mono (by omega)), by have := kk.size; rw [Z0.out] at this; exact this, ⟨q0 0, q0 1, q0 2⟩, ⟨q1 0, q1 1, q1 2⟩, ⟨q2 0, q2 1, q2 2⟩⟩
  rintro e w1 ⟨⟨ga, gl, gc, na1, nl1, nc1, ha, hl, hc, ea1, el1, ec1, f1, t1, rfl⟩, k1⟩
  rw [Z0.out] at k1
  have hz1 : w.heap.size + 3 ≤ w1.heap.size := by have := k1.size; rw [Z0.out] at this; exact this
  have K1 := toHid (k1.alloc hz1 (.cells #[.slice ga gl gc, .slice na1 nl1 nc1, .slice ha hl hc, .slice ea1 el1 ec1, .int .i64 f1, .int .i64 t1] 41))
  clear k1 HB1
  obtain ⟨bw, sz, ⟨x0, x1, x2⟩, ⟨y0, y1, y2⟩, ⟨v0, v1, v2⟩⟩ := HS.out (w1.alloc (.cells #[.slice ga gl gc, .slice na1 nl1 nc1, .slice ha hl hc, .slice ea1 el1 ec1, .int .i64 f1, .int .i64 t1] 41)) K1.out
  have hs0 : w.heap.size < (w1.alloc (.cells #[.slice ga gl gc, .slice na1 nl1 nc1, .slice ha hl hc, .slice ea1 el1 ec1, .int .i64 f1, .int .i64 t1] 41)).heap.size := by omega
  have hs1 : w.heap.size + 1 < (w1.alloc (.cells #[.slice ga gl gc, .slice na1 nl1 nc1, .slice ha hl hc, .slice ea1 el1 ec1, .int .i64 f1, .int .i64 t1] 41)).heap.size := by omega
  have hs2 : w.heap.size + 2 < (w1.alloc (.cells #[.slice ga gl gc, .slice na1 nl1 nc1, .slice ha hl hc, .slice ea1 el1 ec1, .int .i64 f1, .int .i64 t1] 41)).heap.size := by omega
  have BW := toHid bw
  clear bw
  go_wp2_with fail
  refine (HB2.out _ BW.out).mono ?_
  clear x0 x1 x2 y0 y1 y2 v0 v1 v2 hs0 hs1 hs2 sz
  generalize w1.alloc (.cells #[.slice ga gl gc, .slice na1 nl1 nc1, .slice ha hl hc, .slice ea1 el1 ec1, .int .i64 f1, .int .i64 t1] 41) = W1 at K1 BW ⊢
  rintro e w2 ⟨⟨gb, gm, gd, na2, nl2, nc2, hb, hm, hd, ea2, el2, ec2, f2, t2, rfl⟩, k2⟩
  have BW2 := toHid ((below3 BW.out BW.out.size k2).alloc (below3 BW.out BW.out.size k2).size (.cells #[.slice gb gm gd, .slice na2 nl2 nc2, .slice hb hm hd, .slice ea2 el2 ec2, .int .i64 f2, .int .i64 t2] 41))
  clear k2 HB2
  go_wp2_with fail
  generalize w2.alloc (.cells #[.slice gb gm gd, .slice na2 nl2 nc2, .slice hb hm hd, .slice ea2 el2 ec2, .int .i64 f2, .int .i64 t2] 41) = W2 at BW2 ⊢
  refine (changed_true _).mono ?_
  rintro e w3 ⟨rfl, k3⟩
  have BW3 := toHid (below3 BW2.out BW2.out.size k3)
  clear k3
  by_cases he1 : er1 = 0
  · have hz' : (er1 != 0) = false := by simp [he1]
    have hz2 : (er2 != 0) = true := by simp [h0.resolve_left (fun h => h he1)]
    go_wp2_with fail
    refine (changed_true _).mono ?_
    rintro e w4 ⟨rfl, k4⟩
    go_wp2_with fail
    go_ret
    exact ⟨rfl, below3 BW3.out BW3.out.size k4⟩
  · have hz' : (er1 != 0) = true := by simp [he1]
    go_wp2_with fail
    refine (changed_true _).mono ?_
    rintro e w4 ⟨rfl, k4⟩
    go_wp2_with fail
    go_ret
    exact ⟨rfl, below3 BW3.out BW3.out.size k4⟩
end Go.Proofs.YtdlmlpddkfnfmaaGreatDoor
