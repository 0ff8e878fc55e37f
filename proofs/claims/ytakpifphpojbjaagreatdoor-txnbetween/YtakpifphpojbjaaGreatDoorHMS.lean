/-
  What is proved here: what the texts HOpen3, HPure, HSameG prove, in one text.
-/
import Derived.Test.YtakpifphpojbjaaGreatDoorHNode
import Derived.Test.YtakpifphpojbjaaGreatDoorGSame
import Derived.Test.YtakpifphpojbjaaGreatDoorHLackT
import Derived.Test.YtakpifphpojbjaaGreatDoorHSameN
namespace Go.Proofs.YtakpifphpojbjaaGreatDoor
open Go.RowKit
set_option linter.unusedVariables false

theorem prsE_len {P : List Pr} (h : prsE P = 0) : P.length ≤ 6 := by
  unfold prsE at h
  split at h
  · exact absurd h (by decide)
  · omega

theorem prE_zero : ∀ (P : List Pr) (ah : ByteArray), prE ah P = 0 → ∀ p ∈ P, p.e = 0
  | [], _, _ => fun p hp => by cases hp
  | q :: P, ah, h => by
    unfold prE at h
    split at h
    · split at h
      · rename_i h1 h2
        intro p hp
        rcases List.mem_cons.1 hp with rfl | hp
        · exact h2
        · exact prE_zero P _ h p hp
      · rename_i h1 h2
        exact absurd h h2
    · exact absurd h (by decide)

theorem prsE_zero {P : List Pr} (h : prsE P = 0) : ∀ p ∈ P, p.e = 0 := by
  unfold prsE at h
  split at h
  · exact absurd h (by decide)
  · exact prE_zero P _ h

theorem labsE_len {L : List ByteArray} (h : labsE L = 0) : L.length ≤ 4 := by
  unfold labsE at h
  split at h
  · exact absurd h (by decide)
  · omega

theorem props_abs {w : World} {P : List Pr} {pa : Option Addr} {pl : Nat} (hP : PropsAt w P pa pl) (hO : ∀ p ∈ P, PrOk w p) (h0 : prsE P = 0) : ∃ X : List AP, Pair2 (PrIn AnyB w) P X ∧ ∀ x ∈ X, x.ok := by
  obtain ⟨X, hX⟩ := pair_choose (R := fun p x => PrIn AnyB w p x ∧ x.ok) P (fun p hp => by
    obtain ⟨⟨h1, h2⟩, L, _, h3, _, h4⟩ := hO p hp
    have hck := h4 (prsE_zero h0 p hp)
    have hwt := ck_wt 6 _ hck
    have e : 2 * 32 ^ 6 = 2147483648 := by decide
    obtain ⟨i, hi⟩ := List.getElem?_of_mem hp
    have hil := (List.getElem?_eq_some_iff.1 hi).1
    obtain ⟨b, off, _, _, hc⟩ := hP.2.2 (by rw [hP.1]; omega)
    exact ⟨⟨p.name, .node p.k p.n p.s L⟩, ⟨rfl, (hc i p hi).1, h1, h2, L, rfl, LiesS.lie _ _ _ h3⟩, by show wtT (.node p.k p.n p.s L) ≤ _; omega⟩)
  refine ⟨X, hX.mono fun _ _ _ _ h => h.1, fun x hx => ?_⟩
  obtain ⟨i, hi⟩ := List.getElem?_of_mem hx
  obtain ⟨p, _, h⟩ := hX.right hi
  exact h.2

theorem nodes_abs {w : World} {N : List Nd} (hO : ∀ x ∈ N, NdOk w x) (h0 : ∀ x ∈ N, labsE x.labs = 0 ∧ prsE x.props = 0) : ∃ X : List AN, Pair2 (NdIn w) N X ∧ ∀ x ∈ X, x.ok := by
  obtain ⟨X, hX⟩ := pair_choose (R := fun p x => NdIn w p x ∧ AN.ok x) N (fun p hp => by
    obtain ⟨h1, h2, h3⟩ := hO p hp
    obtain ⟨Y, hY, hok⟩ := props_abs h2 h3 (h0 p hp).2
    refine ⟨⟨p.id, p.labs, Y⟩, ⟨rfl, rfl, h1, h2, hY⟩, ?_, ?_, hok⟩
    · have := labsE_len (h0 p hp).1
      show p.labs.length ≤ 1000
      omega
    · have := prsE_len (h0 p hp).2
      have := hY.1
      show Y.length ≤ 1000
      omega)
  refine ⟨X, hX.mono fun _ _ _ _ h => h.1, fun x hx => ?_⟩
  obtain ⟨i, hi⟩ := List.getElem?_of_mem hx
  obtain ⟨p, _, h⟩ := hX.right hi
  exact h.2

theorem edges_abs {w : World} {E : List Ed} {ea : Option Addr} {el : Nat} (hA : EdgesAt w E ea el) (hO : ∀ x ∈ E, EdOk w x) (h0 : ∀ x ∈ E, prsE x.props = 0) : ∃ X : List AE, Pair2 (EdIn w) E X ∧ ∀ x ∈ X, x.ok := by
  obtain ⟨X, hX⟩ := pair_choose (R := fun p x => EdIn w p x ∧ AE.ok x) E (fun p hp => by
    obtain ⟨h2, h3⟩ := hO p hp
    obtain ⟨Y, hY, hok⟩ := props_abs h2 h3 (h0 p hp)
    obtain ⟨i, hi⟩ := List.getElem?_of_mem hp
    have hil := (List.getElem?_eq_some_iff.1 hi).1
    obtain ⟨b, off, _, _, hc⟩ := hA.2.2 (by rw [hA.1]; omega)
    refine ⟨⟨p.id, p.frm, p.dst, p.typ, Y⟩, ⟨rfl, rfl, rfl, rfl, (hc i p hi).1, h2, hY⟩, ?_, hok⟩
    have := prsE_len (h0 p hp)
    have := hY.1
    show Y.length ≤ 1000
    omega)
  refine ⟨X, hX.mono fun _ _ _ _ h => h.1, fun x hx => ?_⟩
  obtain ⟨i, hi⟩ := List.getElem?_of_mem hx
  obtain ⟨p, _, h⟩ := hX.right hi
  exact h.2

/-- A graph that its check takes, by what it holds. -/
theorem gr_abs {w : World} {N : List Nd} {E : List Ed} {na : Option Addr} {nl : Nat} {ea : Option Addr} {el : Nat} {next : Int} (h : GrOk w N E na nl ea el) (h0 : gE N E next = 0) :
    ∃ XN XE, NsAt w XN na nl ∧ EsAt w XE ea el ∧ (∀ x ∈ XN, x.ok) ∧ (∀ x ∈ XE, x.ok) ∧ nl ≤ 40 ∧ el ≤ 60 ∧ Pair2 (NdIn w) N XN ∧ Pair2 (EdIn w) E XE := by
  obtain ⟨h1, h2, h3, h4⟩ := h
  have r := gE_ok h0
  obtain ⟨XN, p1, o1⟩ := nodes_abs h3 (fun x hx => r.nodes x hx)
  obtain ⟨XE, p2, o2⟩ := edges_abs h2 h4 (fun x hx => (r.edges x hx).2.2.2)
  have f1 := r.fewN
  have f2 := r.fewE
  exact ⟨XN, XE, ⟨N, h1, p1⟩, ⟨E, h2, p2⟩, o1, o2, by rw [h1.1]; exact f1, by rw [h2.1]; exact f2, p1, p2⟩

theorem eqB_self {α : Type} (s : α → α → Bool) (h : ∀ x, s x x = true) : ∀ X : List α, eqB s X X = true
  | [] => rfl
  | x :: X => by
    show (s x x && eqB s X X) = true
    rw [h x, eqB_self s h X]
    rfl

theorem sameP_self (x : AP) : sameP x x = true := by
  unfold sameP
  rw [ordT_self]
  simp

theorem sameN_self (x : AN) : sameN x x = true := by
  unfold sameN eqS
  rw [eqB_self _ (fun y => by simp), eqB_self _ sameP_self]
  simp

theorem sameE_self (x : AE) : sameE x x = true := by
  unfold sameE
  rw [eqB_self _ sameP_self]
  simp

theorem lackL_self {α : Type} (s : α → α → Bool) (h : ∀ x, s x x = true) (X : List α) : lackL s X X = [] := by
  unfold lackL
  rw [List.filter_eq_nil_iff]
  intro x hx
  have : X.any (s x) = true := List.any_eq_true.2 ⟨x, hx, h x⟩
  simp [this]

set_option maxHeartbeats 8000000 in
set_option maxRecDepth 100000 in
theorem sameGraph_ref (XN YN : List AN) (XE YE : List AE) (na : Option Addr) (nl nc : Nat) (ea : Option Addr) (el ec : Nat) (nx : Int) (ma : Option Addr) (ml mc : Nat) (fa : Option Addr) (fl fc : Nat) (mx : Int) (w : World) (h1 : NsAt w XN na nl) (h2 : EsAt w XE ea el) (h3 : NsAt w YN ma ml) (h4 : EsAt w YE fa fl) (o1 : ∀ x ∈ XN, x.ok) (o2 : ∀ x ∈ XE, x.ok) (o3 : ∀ x ∈ YN, x.ok) (o4 : ∀ x ∈ YE, x.ok) :
    Calls Tryz.prog 12 #[.agg #[.slice na nl nc, .slice ea el ec, .int .i64 nx], .agg #[.slice ma ml mc, .slice fa fl fc, .int .i64 mx]] w fun e w' => e = .returned (.bool ((nx == mx) && (eqB sameN XN YN && eqB sameE XE YE))) ∧ Below w.heap.size w w' := by
  obtain ⟨R, hR⟩ : ∃ R, R = ((nx == mx) && (eqB sameN XN YN && eqB sameE XE YE)) := ⟨_, rfl⟩
  rw [← hR]
  obtain ⟨s1, hs1⟩ : ∃ z, z = eqB sameN XN YN := ⟨_, rfl⟩
  obtain ⟨s2, hs2⟩ : ∃ z, z = eqB sameE XE YE := ⟨_, rfl⟩
  have HP1 : Hid (∀ W, Below w.heap.size w W → Calls Tryz.prog 34 #[.slice na nl nc, .slice ma ml mc, .func (.func 21) #[] #[]] W fun e w' => e = .returned (.bool s1) ∧ Below W.heap.size W w') := by
    intro W kW
    rw [hs1]
    exact equalN_any XN YN na nl nc ma ml mc W (h1.below kW) (h3.below kW) (fun p x q y W hx hy hp hq => sameNode_ref p x q y W hp hq (o1 x hx) (o3 y hy))
  have HP2 : Hid (∀ W, Below w.heap.size w W → Calls Tryz.prog 35 #[.slice ea el ec, .slice fa fl fc, .func (.func 23) #[] #[]] W fun e w' => e = .returned (.bool s2) ∧ Below W.heap.size W w') := by
    intro W kW
    rw [hs2]
    exact equalE_any XE YE ea el ec fa fl fc W (h2.below kW) (h4.below kW) (fun p x q y W hx hy hp hq => sameEdge_ref p x q y W hp hq (o2 x hx) (o4 y hy))
  have HR : Hid (R = ((nx == mx) && (s1 && s2))) := by rw [hR, hs1, hs2]; exact toHid rfl
  clear hR hs1 hs2 h1 h2 h3 h4 o1 o2 o3 o4
  have hb0 : Below w.heap.size w ((w.alloc (.cells #[.slice na nl nc, .slice ea el ec, .int .i64 nx] 25)).alloc (.cells #[.slice ma ml mc, .slice fa fl fc, .int .i64 mx] 25)) := ((Below.refl _ _).alloc (Nat.le_refl _) _).alloc (by simp) _
  have HB0 := toHid hb0
  have z0 : ((w.alloc (.cells #[.slice na nl nc, .slice ea el ec, .int .i64 nx] 25)).alloc (.cells #[.slice ma ml mc, .slice fa fl fc, .int .i64 mx] 25)).heap.size = w.heap.size + 2 := by simp
  have hu := (Below.heap_alloc (w.alloc (.cells #[.slice na nl nc, .slice ea el ec, .int .i64 nx] 25)) (.cells #[.slice ma ml mc, .slice fa fl fc, .int .i64 mx] 25) w.heap.size (by simp)).trans (alloc_new w (.cells #[.slice na nl nc, .slice ea el ec, .int .i64 nx] 25))
  have hv := alloc_two w (.cells #[.slice na nl nc, .slice ea el ec, .int .i64 nx] 25) (.cells #[.slice ma ml mc, .slice fa fl fc, .int .i64 mx] 25)
  have HU := toHid hu
  have HV := toHid hv
  have HZ := toHid z0
  clear hb0 z0 hu hv
  cases i0 : (nx == mx) with
  | false =>
    have H3 := toHid (show R = false by rw [HR.out, i0]; rfl)
    clear HR
    go_enter Tryz.func12, Tryz.ntmps12
    go_wp2_with fail
    go_ret
    exact ⟨ret_bool (by rw [H3.out]), HB0.out⟩
  | true =>
    go_enter Tryz.func12, Tryz.ntmps12
    go_wp2_with fail
    refine (HP1.out _ HB0.out).mono ?_
    generalize (w.alloc (.cells #[.slice na nl nc, .slice ea el ec, .int .i64 nx] 25)).alloc (.cells #[.slice ma ml mc, .slice fa fl fc, .int .i64 mx] 25) = W0 at HB0 HU HV HZ ⊢
    rintro e w1 ⟨rfl, k1⟩
    have hb1 := HB0.out.trans (k1.mono HB0.out.size)
    have A1 := toHid ((k1.block w.heap.size (by rw [HZ.out]; omega)).trans HU.out)
    have A2 := toHid ((k1.block (w.heap.size + 1) (by rw [HZ.out]; omega)).trans HV.out)
    have z1 : w.heap.size + 2 ≤ w1.heap.size := by have := k1.size; rw [HZ.out] at this; exact this
    have u1 := cell_of A1.out 1
    have v1 := cell_of A2.out 1
    simp at u1 v1
    clear k1
    cases s1 with
    | false =>
      have H3 := toHid (show R = false by rw [HR.out, i0]; rfl)
      clear HR
      go_wp2_with fail
      go_ret
      exact ⟨ret_bool (by rw [H3.out]), hb1⟩
    | true =>
      go_wp2_with fail
      refine (HP2.out _ hb1).mono ?_
      rintro e w2 ⟨rfl, k2⟩
      have hb2 := hb1.trans (k2.mono hb1.size)
      have H3 := toHid (show R = s2 by rw [HR.out, i0]; rfl)
      clear HR
      go_wp2_with fail
      go_ret
      exact ⟨ret_bool (by rw [H3.out]), hb2⟩

set_option maxHeartbeats 8000000 in
set_option maxRecDepth 100000 in
theorem sameDelta_any (G1 N1 G2 N2 : List AN) (H1 E1 H2 E2 : List AE) (ga : Option Addr) (gl gc : Nat) (na : Option Addr) (nl nc : Nat) (ha : Option Addr) (hl hc : Nat) (ea : Option Addr) (el ec : Nat) (f1 t1 : Int) (ia : Option Addr) (il ic : Nat) (ja : Option Addr) (jl jc : Nat) (ka : Option Addr) (kl kc : Nat) (la : Option Addr) (ll lc : Nat) (f2 t2 : Int) (w : World) (g1 : NsAt w G1 ga gl) (g2 : NsAt w N1 na nl) (g3 : EsAt w H1 ha hl) (g4 : EsAt w E1 ea el) (g5 : NsAt w G2 ia il) (g6 : NsAt w N2 ja jl) (g7 : EsAt w H2 ka kl) (g8 : EsAt w E2 la ll) (o1 : ∀ x ∈ G1, x.ok) (o2 : ∀ x ∈ N1, x.ok) (o3 : ∀ x ∈ H1, x.ok) (o4 : ∀ x ∈ E1, x.ok) (o5 : ∀ x ∈ G2, x.ok) (o6 : ∀ x ∈ N2, x.ok) (o7 : ∀ x ∈ H2, x.ok) (o8 : ∀ x ∈ E2, x.ok) :
    Calls Tryz.prog 19 #[.agg #[.slice ga gl gc, .slice na nl nc, .slice ha hl hc, .slice ea el ec, .int .i64 f1, .int .i64 t1], .agg #[.slice ia il ic, .slice ja jl jc, .slice ka kl kc, .slice la ll lc, .int .i64 f2, .int .i64 t2]] w fun e w' => e = .returned (.bool ((f1 == f2) && ((t1 == t2) && (eqB sameN G1 G2 && (eqB sameN N1 N2 && (eqB sameE H1 H2 && eqB sameE E1 E2)))))) ∧ Below w.heap.size w w' := by
  obtain ⟨R, hR⟩ : ∃ R, R = ((f1 == f2) && ((t1 == t2) && (eqB sameN G1 G2 && (eqB sameN N1 N2 && (eqB sameE H1 H2 && eqB sameE E1 E2))))) := ⟨_, rfl⟩
  rw [← hR]
  obtain ⟨s1, hs1⟩ : ∃ z, z = eqB sameN G1 G2 := ⟨_, rfl⟩
  obtain ⟨s2, hs2⟩ : ∃ z, z = eqB sameN N1 N2 := ⟨_, rfl⟩
  obtain ⟨s3, hs3⟩ : ∃ z, z = eqB sameE H1 H2 := ⟨_, rfl⟩
  obtain ⟨s4, hs4⟩ : ∃ z, z = eqB sameE E1 E2 := ⟨_, rfl⟩
  have HP1 : Hid (∀ W, Below w.heap.size w W → Calls Tryz.prog 34 #[.slice ga gl gc, .slice ia il ic, .func (.func 21) #[] #[]] W fun e w' => e = .returned (.bool s1) ∧ Below W.heap.size W w') := by
    intro W kW
    rw [hs1]
    exact equalN_any G1 G2 ga gl gc ia il ic W (g1.below kW) (g5.below kW) (fun p x q y W hx hy hp hq => sameNode_ref p x q y W hp hq (o1 x hx) (o5 y hy))
  have HP2 : Hid (∀ W, Below w.heap.size w W → Calls Tryz.prog 34 #[.slice na nl nc, .slice ja jl jc, .func (.func 21) #[] #[]] W fun e w' => e = .returned (.bool s2) ∧ Below W.heap.size W w') := by
    intro W kW
    rw [hs2]
    exact equalN_any N1 N2 na nl nc ja jl jc W (g2.below kW) (g6.below kW) (fun p x q y W hx hy hp hq => sameNode_ref p x q y W hp hq (o2 x hx) (o6 y hy))
  have HP3 : Hid (∀ W, Below w.heap.size w W → Calls Tryz.prog 35 #[.slice ha hl hc, .slice ka kl kc, .func (.func 23) #[] #[]] W fun e w' => e = .returned (.bool s3) ∧ Below W.heap.size W w') := by
    intro W kW
    rw [hs3]
    exact equalE_any H1 H2 ha hl hc ka kl kc W (g3.below kW) (g7.below kW) (fun p x q y W hx hy hp hq => sameEdge_ref p x q y W hp hq (o3 x hx) (o7 y hy))
  have HP4 : Hid (∀ W, Below w.heap.size w W → Calls Tryz.prog 35 #[.slice ea el ec, .slice la ll lc, .func (.func 23) #[] #[]] W fun e w' => e = .returned (.bool s4) ∧ Below W.heap.size W w') := by
    intro W kW
    rw [hs4]
    exact equalE_any E1 E2 ea el ec la ll lc W (g4.below kW) (g8.below kW) (fun p x q y W hx hy hp hq => sameEdge_ref p x q y W hp hq (o4 x hx) (o8 y hy))
  have HR : Hid (R = ((f1 == f2) && ((t1 == t2) && (s1 && (s2 && (s3 && s4)))))) := by rw [hR, hs1, hs2, hs3, hs4]; exact toHid rfl
  clear hR hs1 hs2 hs3 hs4 g1 g2 g3 g4 g5 g6 g7 g8 o1 o2 o3 o4 o5 o6 o7 o8
  have hb0 : Below w.heap.size w ((w.alloc (.cells #[.slice ga gl gc, .slice na nl nc, .slice ha hl hc, .slice ea el ec, .int .i64 f1, .int .i64 t1] 41)).alloc (.cells #[.slice ia il ic, .slice ja jl jc, .slice ka kl kc, .slice la ll lc, .int .i64 f2, .int .i64 t2] 41)) := ((Below.refl _ _).alloc (Nat.le_refl _) _).alloc (by simp) _
  have HB0 := toHid hb0
  have z0 : ((w.alloc (.cells #[.slice ga gl gc, .slice na nl nc, .slice ha hl hc, .slice ea el ec, .int .i64 f1, .int .i64 t1] 41)).alloc (.cells #[.slice ia il ic, .slice ja jl jc, .slice ka kl kc, .slice la ll lc, .int .i64 f2, .int .i64 t2] 41)).heap.size = w.heap.size + 2 := by simp
  have hu := (Below.heap_alloc (w.alloc (.cells #[.slice ga gl gc, .slice na nl nc, .slice ha hl hc, .slice ea el ec, .int .i64 f1, .int .i64 t1] 41)) (.cells #[.slice ia il ic, .slice ja jl jc, .slice ka kl kc, .slice la ll lc, .int .i64 f2, .int .i64 t2] 41) w.heap.size (by simp)).trans (alloc_new w (.cells #[.slice ga gl gc, .slice na nl nc, .slice ha hl hc, .slice ea el ec, .int .i64 f1, .int .i64 t1] 41))
  have hv := alloc_two w (.cells #[.slice ga gl gc, .slice na nl nc, .slice ha hl hc, .slice ea el ec, .int .i64 f1, .int .i64 t1] 41) (.cells #[.slice ia il ic, .slice ja jl jc, .slice ka kl kc, .slice la ll lc, .int .i64 f2, .int .i64 t2] 41)
  have HU := toHid hu
  have HV := toHid hv
  have HZ := toHid z0
  clear hb0 z0 hu hv
  cases i0 : (f1 == f2) with
  | false =>
    have H3 := toHid (show R = false by rw [HR.out, i0]; rfl)
    clear HR
    go_enter Tryz.func19, Tryz.ntmps19
    go_wp2_with fail
    go_ret
    exact ⟨ret_bool (by rw [H3.out]), HB0.out⟩
  | true =>
    cases i1 : (t1 == t2) with
    | false =>
      have H3 := toHid (show R = false by rw [HR.out, i0, i1]; rfl)
      clear HR
      go_enter Tryz.func19, Tryz.ntmps19
      go_wp2_with fail
      go_ret
      exact ⟨ret_bool (by rw [H3.out]), HB0.out⟩
    | true =>
      go_enter Tryz.func19, Tryz.ntmps19
      go_wp2_with fail
      refine (HP1.out _ HB0.out).mono ?_
      generalize (w.alloc (.cells #[.slice ga gl gc, .slice na nl nc, .slice ha hl hc, .slice ea el ec, .int .i64 f1, .int .i64 t1] 41)).alloc (.cells #[.slice ia il ic, .slice ja jl jc, .slice ka kl kc, .slice la ll lc, .int .i64 f2, .int .i64 t2] 41) = W0 at HB0 HU HV HZ ⊢
      rintro e w1 ⟨rfl, k1⟩
      have hb1 := HB0.out.trans (k1.mono HB0.out.size)
      have A1 := toHid ((k1.block w.heap.size (by rw [HZ.out]; omega)).trans HU.out)
      have A2 := toHid ((k1.block (w.heap.size + 1) (by rw [HZ.out]; omega)).trans HV.out)
      have z1 : w.heap.size + 2 ≤ w1.heap.size := by have := k1.size; rw [HZ.out] at this; exact this
      have u1 := cell_of A1.out 1
      have v1 := cell_of A2.out 1
      simp at u1 v1
      clear k1
      cases s1 with
      | false =>
        have H3 := toHid (show R = false by rw [HR.out, i0, i1]; rfl)
        clear HR
        go_wp2_with fail
        go_ret
        exact ⟨ret_bool (by rw [H3.out]), hb1⟩
      | true =>
        go_wp2_with fail
        refine (HP2.out _ hb1).mono ?_
        rintro e w2 ⟨rfl, k2⟩
        have hb2 := hb1.trans (k2.mono hb1.size)
        have A3 := toHid ((k2.block w.heap.size (by omega)).trans A1.out)
        have A4 := toHid ((k2.block (w.heap.size + 1) (by omega)).trans A2.out)
        have z2 : w.heap.size + 2 ≤ w2.heap.size := Nat.le_trans z1 k2.size
        have u2 := cell_of A3.out 2
        have v2 := cell_of A4.out 2
        simp at u2 v2
        clear k2
        cases s2 with
        | false =>
          have H3 := toHid (show R = false by rw [HR.out, i0, i1]; rfl)
          clear HR
          go_wp2_with fail
          go_ret
          exact ⟨ret_bool (by rw [H3.out]), hb2⟩
        | true =>
          go_wp2_with fail
          refine (HP3.out _ hb2).mono ?_
          rintro e w3 ⟨rfl, k3⟩
          have hb3 := hb2.trans (k3.mono hb2.size)
          have A5 := toHid ((k3.block w.heap.size (by omega)).trans A3.out)
          have A6 := toHid ((k3.block (w.heap.size + 1) (by omega)).trans A4.out)
          have z3 : w.heap.size + 2 ≤ w3.heap.size := Nat.le_trans z2 k3.size
          have u3 := cell_of A5.out 3
          have v3 := cell_of A6.out 3
          simp at u3 v3
          clear k3
          cases s3 with
          | false =>
            have H3 := toHid (show R = false by rw [HR.out, i0, i1]; rfl)
            clear HR
            go_wp2_with fail
            go_ret
            exact ⟨ret_bool (by rw [H3.out]), hb3⟩
          | true =>
            go_wp2_with fail
            refine (HP4.out _ hb3).mono ?_
            rintro e w4 ⟨rfl, k4⟩
            have hb4 := hb3.trans (k4.mono hb3.size)
            have H3 := toHid (show R = s4 by rw [HR.out, i0, i1]; rfl)
            clear HR
            go_wp2_with fail
            go_ret
            exact ⟨ret_bool (by rw [H3.out]), hb4⟩
end Go.Proofs.YtakpifphpojbjaaGreatDoor
