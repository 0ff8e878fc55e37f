/-
  What is proved here: what the texts HNoth0, HNoth1, HNoth2, HNoth3, HLawNothing prove, in one text.
-/
import Derived.Test.YtakpifphpojbjaaGreatDoorHBack
import Derived.Test.YtakpifphpojbjaaGreatDoorHMA
import Derived.Test.YtakpifphpojbjaaGreatDoorHMS
import Derived.Test.YtakpifphpojbjaaGreatDoorGLawCheck
import Derived.Deep.RegionHeld3
namespace Go.Proofs.YtakpifphpojbjaaGreatDoor
open Go.RowKit
set_option linter.unusedVariables false

/-- A difference that may be read, by where it lies. -/
def DAt (w : World) (G N : List AN) (H E : List AE) (ga : Option Addr) (gn : Nat) (na : Option Addr) (nn : Nat) (ha : Option Addr) (hn : Nat) (ea : Option Addr) (en : Nat) : Prop := NsAt w G ga gn ∧ NsAt w N na nn ∧ EsAt w H ha hn ∧ EsAt w E ea en

theorem DAt.below {w w' : World} {G N : List AN} {H E : List AE} {ga : Option Addr} {gn : Nat} {na : Option Addr} {nn : Nat} {ha : Option Addr} {hn : Nat} {ea : Option Addr} {en : Nat} (h : DAt w G N H E ga gn na nn ha hn ea en) (k : Below w.heap.size w w') : DAt w' G N H E ga gn na nn ha hn ea en := ⟨h.1.below k, h.2.1.below k, h.2.2.1.below k, h.2.2.2.below k⟩

def DOk (G N : List AN) (H E : List AE) : Prop := (∀ x ∈ G, x.ok) ∧ (∀ x ∈ N, x.ok) ∧ (∀ x ∈ H, x.ok) ∧ (∀ x ∈ E, x.ok)

/-- Two graphs of which one isn't right. -/
theorem between_bad {N1 : List Nd} {E1 : List Ed} {N2 : List Nd} {E2 : List Ed} {na : Option Addr} {nl : Nat} {ea : Option Addr} {el : Nat} {ma : Option Addr} {ml : Nat} {fa : Option Addr} {fl : Nat} {w : World} (h1 : GrOk w N1 E1 na nl ea el) (h2 : GrOk w N2 E2 ma ml fa fl) (nc ec : Nat) (nx : Int) (mc fc : Nat) (mx : Int) (er : Int) (her : er = if gE N1 E1 nx = 0 then gE N2 E2 mx else gE N1 E1 nx) (h0 : er ≠ 0) (W : World) (k : Below w.heap.size w W) :
    Calls Tryz.prog 18 #[.agg #[.slice na nl nc, .slice ea el ec, .int .i64 nx], .agg #[.slice ma ml mc, .slice fa fl fc, .int .i64 mx]] W fun e w' => e = .returned (.tuple #[.agg #[.slice none 0 0, .slice none 0 0, .slice none 0 0, .slice none 0 0, .int .i64 0, .int .i64 0], .int .i64 er]) ∧ Below W.heap.size W w' := by
  refine (between_any [] [] [] [] na nl nc ea el ec nx ma ml mc fa fl fc mx (gE N1 E1 nx) (gE N2 E2 mx) er W (fun V kV => check_ok h1 nc ec nx V (k.trans (kV.mono k.size))) (fun V kV => check_ok h2 mc fc mx V (k.trans (kV.mono k.size))) her (fun h => absurd h h0)).mono ?_
  rintro e w' ⟨⟨v, rfl, hv, _⟩, kk⟩
  rw [hv h0]
  exact ⟨rfl, kk⟩

/-- Two graphs that are right. -/
theorem between_good {N1 : List Nd} {E1 : List Ed} {N2 : List Nd} {E2 : List Ed} {na : Option Addr} {nl : Nat} {ea : Option Addr} {el : Nat} {ma : Option Addr} {ml : Nat} {fa : Option Addr} {fl : Nat} {w : World} (h1 : GrOk w N1 E1 na nl ea el) (h2 : GrOk w N2 E2 ma ml fa fl) (nc ec : Nat) (nx : Int) (mc fc : Nat) (mx : Int) (e1 : gE N1 E1 nx = 0) (e2 : gE N2 E2 mx = 0)
    {XN YN : List AN} {XE YE : List AE} (p1 : NsAt w XN na nl) (p2 : EsAt w XE ea el) (p3 : NsAt w YN ma ml) (p4 : EsAt w YE fa fl) (o1 : ∀ x ∈ XN, x.ok) (o2 : ∀ x ∈ XE, x.ok) (o3 : ∀ x ∈ YN, x.ok) (o4 : ∀ x ∈ YE, x.ok) (l1 : nl ≤ 40) (l2 : el ≤ 60) (l3 : ml ≤ 40) (l4 : fl ≤ 60) (W : World) (k : Below w.heap.size w W) :
    Calls Tryz.prog 18 #[.agg #[.slice na nl nc, .slice ea el ec, .int .i64 nx], .agg #[.slice ma ml mc, .slice fa fl fc, .int .i64 mx]] W fun e w' => (∃ v, e = .returned (.tuple #[v, .int .i64 0]) ∧ DOwnV W w' (lackL sameN XN YN) (lackL sameN YN XN) (lackL sameE XE YE) (lackL sameE YE XE) nx mx v) ∧ Below W.heap.size W w' := by
  refine (between_any XN XE YN YE na nl nc ea el ec nx ma ml mc fa fl fc mx 0 0 0 W (fun V kV => by have := check_ok h1 nc ec nx V (k.trans (kV.mono k.size)); rw [e1] at this; exact this) (fun V kV => by have := check_ok h2 mc fc mx V (k.trans (kV.mono k.size)); rw [e2] at this; exact this) rfl (fun _ => ⟨p1.below k, p2.below k, p3.below k, p4.below k, ⟨by omega, by omega, by omega, by omega⟩, o1, o2, o3, o4⟩)).mono ?_
  rintro e w' ⟨⟨v, rfl, _, hv⟩, kk⟩
  exact ⟨⟨v, rfl, hv rfl⟩, kk⟩

theorem lack_ok {G N : List AN} {H E : List AE} (o1 : ∀ x ∈ G, x.ok) (o2 : ∀ x ∈ N, x.ok) (o3 : ∀ x ∈ H, x.ok) (o4 : ∀ x ∈ E, x.ok) : DOk (lackL sameN G N) (lackL sameN N G) (lackL sameE H E) (lackL sameE E H) :=
  ⟨fun x hx => o1 x (lackL_mem hx), fun x hx => o2 x (lackL_mem hx), fun x hx => o3 x (lackL_mem hx), fun x hx => o4 x (lackL_mem hx)⟩

/-- What is turned back, at lengths that are letters. -/
theorem back_at {G N : List AN} {H E : List AE} (ho : DOk G N H E) {gn nn hn en : Nat} (hl : gn = G.length ∧ nn = N.length ∧ hn = H.length ∧ en = E.length) (hs : gn ≤ 1000 ∧ nn ≤ 1000 ∧ hn ≤ 1000 ∧ en ≤ 1000) {W : World} {ga : Option Addr} {na : Option Addr} {ha : Option Addr} {ea : Option Addr} (h : DAt W G N H E ga gn na nn ha hn ea en) (gc nc hc ec : Nat) (f t : Int) :
    Calls Tryz.prog 24 #[.agg #[.slice ga gn gc, .slice na nn nc, .slice ha hn hc, .slice ea en ec, .int .i64 f, .int .i64 t]] W fun e w' => (∃ a1 c1 a2 c2 a3 c3 a4 c4, e = .returned (.agg #[.slice a1 nn c1, .slice a2 gn c2, .slice a3 en c3, .slice a4 hn c4, .int .i64 t, .int .i64 f]) ∧ DAt w' N G E H a1 nn a2 gn a3 en a4 hn) ∧ Below W.heap.size W w' := by
  refine (back_any G N H E ga gn gc na nn nc ha hn hc ea en ec f t W h.1 h.2.1 h.2.2.1 h.2.2.2 hs.1 hs.2.1 hs.2.2.1 hs.2.2.2 ho.1 ho.2.1 ho.2.2.1 ho.2.2.2).mono ?_
  rintro e w' ⟨⟨v, rfl, a1, c1, a2, c2, a3, c3, a4, c4, rfl, q1, q2, q3, q4⟩, k⟩
  obtain ⟨rfl, rfl, rfl, rfl⟩ := hl
  exact ⟨⟨a1, c1, a2, c2, a3, c3, a4, c4, rfl, q1, q2, q3, q4⟩, k⟩

/-- The same difference, twice in memory. -/
theorem same_at {G N : List AN} {H E : List AE} (ho : DOk G N H E) {gn nn hn en : Nat} {W : World} {ga : Option Addr} {na : Option Addr} {ha : Option Addr} {ea : Option Addr} (h : DAt W G N H E ga gn na nn ha hn ea en) {ia ja ka la : Option Addr} (h' : DAt W G N H E ia gn ja nn ka hn la en) (gc nc hc ec ic jc kc lc : Nat) (f t : Int) :
    Calls Tryz.prog 19 #[.agg #[.slice ga gn gc, .slice na nn nc, .slice ha hn hc, .slice ea en ec, .int .i64 f, .int .i64 t], .agg #[.slice ia gn ic, .slice ja nn jc, .slice ka hn kc, .slice la en lc, .int .i64 f, .int .i64 t]] W fun e w' => e = .returned (.bool true) ∧ Below W.heap.size W w' := by
  have := sameDelta_any G N G N H E H E ga gn gc na nn nc ha hn hc ea en ec f t ia gn ic ja nn jc ka hn kc la en lc f t W h.1 h.2.1 h.2.2.1 h.2.2.2 h'.1 h'.2.1 h'.2.2.1 h'.2.2.2 ho.1 ho.2.1 ho.2.2.1 ho.2.2.2 ho.1 ho.2.1 ho.2.2.1 ho.2.2.2
  rw [eqB_self _ sameN_self, eqB_self _ sameN_self, eqB_self _ sameE_self, eqB_self _ sameE_self] at this
  simpa using this

theorem ops_none (w : World) : OpsAt w [] none 0 := ⟨rfl, by omega, fun h => absurd h (Nat.lt_irrefl _)⟩

/-- No operations: the graph, laid anew. -/
theorem apply_none {XN : List AN} {XE : List AE} {na : Option Addr} {nl nc : Nat} {ea : Option Addr} {el ec : Nat} {nx : Int} {w : World} (hC : ∀ W, Below w.heap.size w W → Calls Tryz.prog 30 #[.agg #[.slice na nl nc, .slice ea el ec, .int .i64 nx]] W fun e w' => e = .returned (.int .i64 0) ∧ Below W.heap.size W w') (p1 : NsAt w XN na nl) (p2 : EsAt w XE ea el) (o1 : ∀ x ∈ XN, x.ok) (o2 : ∀ x ∈ XE, x.ok) (l1 : nl ≤ 40) (l2 : el ≤ 60) (W : World) (k : Below w.heap.size w W) {xl yl : Nat} (hxl : xl = XN.length) (hyl : yl = XE.length) :
    Calls Tryz.prog 10 #[.agg #[.slice na nl nc, .slice ea el ec, .int .i64 nx], .slice none 0 0] W fun e w' => (∃ a1 c1 a2 c2 a3 c3, e = .returned (.tuple #[.agg #[.slice a1 xl c1, .slice a2 yl c2, .int .i64 nx], .slice a3 0 c3, .int .i64 0, .int .i64 0]) ∧ NsAt w' XN a1 xl ∧ EsAt w' XE a2 yl) ∧ Below W.heap.size W w' := by
  refine (apply_of XN XE nx na nl nc ea el ec [] none 0 0 (fun _ => 0) (fun _ => ⟨XN, XE, nx, []⟩) W (fun V kV => hC V (k.trans (kV.mono k.size))) (p1.below k) (p2.below k) (by omega) (by omega) o1 o2 (ops_none W) (by omega) rfl (fun _ => by show 0 ≤ _; omega) (fun i o hi => by simp at hi)).mono ?_
  rintro e w' ⟨hA, kk⟩
  subst hxl hyl
  rcases hA with ⟨i, hi, _⟩ | ⟨_, a1, c1, a2, c2, a3, c3, rfl, _, q1, _, q2, _⟩
  · omega
  · exact ⟨⟨a1, c1, a2, c2, a3, c3, rfl, q1, q2⟩, kk⟩

set_option maxHeartbeats 8000000 in
set_option maxRecDepth 100000 in
theorem nothing_bad (N1 : List Nd) (E1 : List Ed) (na : Option Addr) (nl nc : Nat) (ea : Option Addr) (el ec : Nat) (nx : Int) (N2 : List Nd) (E2 : List Ed) (ma : Option Addr) (ml mc : Nat) (fa : Option Addr) (fl fc : Nat) (mx : Int) (w : World) (h1 : GrOk w N1 E1 na nl ea el) (h2 : GrOk w N2 E2 ma ml fa fl) (h0 : gE N1 E1 nx ≠ 0) :
    Calls Tryz.prog 6 #[.agg #[.slice na nl nc, .slice ea el ec, .int .i64 nx], .agg #[.slice ma ml mc, .slice fa fl fc, .int .i64 mx]] w fun e w' => e = .returned (.bool true) ∧ Below w.heap.size w w' := by
  obtain ⟨er, her⟩ : ∃ z, z = gE N1 E1 nx := ⟨_, rfl⟩
  have HB1 : Hid (∀ W, Below w.heap.size w W → Calls Tryz.prog 18 #[.agg #[.slice na nl nc, .slice ea el ec, .int .i64 nx], .agg #[.slice na nl nc, .slice ea el ec, .int .i64 nx]] W fun e w' => e = .returned (.tuple #[.agg #[.slice none 0 0, .slice none 0 0, .slice none 0 0, .slice none 0 0, .int .i64 0, .int .i64 0], .int .i64 er]) ∧ Below W.heap.size W w') := fun W k => between_bad h1 h1 nc ec nx nc ec nx er (by rw [her]; split <;> rfl) (by rw [her]; exact h0) W k
  have hz' : (er != 0) = true := by rw [her]; simp [h0]
  clear h1 h2 her h0
  have b0 : Below w.heap.size w ((w.alloc (.cells #[.slice na nl nc, .slice ea el ec, .int .i64 nx] 25)).alloc (.cells #[.slice ma ml mc, .slice fa fl fc, .int .i64 mx] 25)) := ((Below.refl _ _).alloc (Nat.le_refl _) _).alloc (by simp) _
  have hx := (Below.heap_alloc (w.alloc (.cells #[.slice na nl nc, .slice ea el ec, .int .i64 nx] 25)) (.cells #[.slice ma ml mc, .slice fa fl fc, .int .i64 mx] 25) w.heap.size (by simp)).trans (alloc_new w (.cells #[.slice na nl nc, .slice ea el ec, .int .i64 nx] 25))
  have hy := alloc_two w (.cells #[.slice na nl nc, .slice ea el ec, .int .i64 nx] 25) (.cells #[.slice ma ml mc, .slice fa fl fc, .int .i64 mx] 25)
  have z0 : ((w.alloc (.cells #[.slice na nl nc, .slice ea el ec, .int .i64 nx] 25)).alloc (.cells #[.slice ma ml mc, .slice fa fl fc, .int .i64 mx] 25)).heap.size = w.heap.size + 2 := by simp
  have HB := toHid b0
  have HX := toHid hx
  have HY := toHid hy
  have HZ := toHid z0
  clear b0 hx hy z0
  go_enter Tryz.func6, Tryz.ntmps6
  go_wp2_with fail
  refine (HB1.out _ HB.out).mono ?_
  generalize ((w.alloc (.cells #[.slice na nl nc, .slice ea el ec, .int .i64 nx] 25)).alloc (.cells #[.slice ma ml mc, .slice fa fl fc, .int .i64 mx] 25)) = W at HB HX HY HZ ⊢
  rintro e w1 ⟨rfl, k1⟩
  have HK1 := toHid (below3 HB.out HB.out.size k1)
  clear k1 HX HY HZ HB
  go_wp2_with fail
  have b2 := HK1.out.alloc HK1.out.size (.cells #[.slice none 0 0, .slice none 0 0, .slice none 0 0, .slice none 0 0, .int .i64 0, .int .i64 0] 41)
  have HB2 := toHid b2
  clear b2
  generalize w1.alloc (.cells #[.slice none 0 0, .slice none 0 0, .slice none 0 0, .slice none 0 0, .int .i64 0, .int .i64 0] 41) = W1 at HB2 ⊢
  generalize w1.heap.size = m1
  refine (changed_true _).mono ?_
  rintro e w2 ⟨rfl, k2⟩
  have HK2 := toHid (below3 HB2.out HB2.out.size k2)
  clear k2
  go_wp2_with fail
  refine (changed_true _).mono ?_
  rintro e w3 ⟨rfl, k3⟩
  go_wp2_with fail
  go_ret
  exact ⟨rfl, below3 HK2.out HK2.out.size k3⟩

set_option maxHeartbeats 8000000 in
set_option maxRecDepth 100000 in
theorem nothing_half (N1 : List Nd) (E1 : List Ed) (na : Option Addr) (nl nc : Nat) (ea : Option Addr) (el ec : Nat) (nx : Int) (N2 : List Nd) (E2 : List Ed) (ma : Option Addr) (ml mc : Nat) (fa : Option Addr) (fl fc : Nat) (mx : Int) (w : World) (h1 : GrOk w N1 E1 na nl ea el) (h2 : GrOk w N2 E2 ma ml fa fl) (h0 : gE N1 E1 nx = 0) (h00 : gE N2 E2 mx ≠ 0) :
    Calls Tryz.prog 6 #[.agg #[.slice na nl nc, .slice ea el ec, .int .i64 nx], .agg #[.slice ma ml mc, .slice fa fl fc, .int .i64 mx]] w fun e w' => e = .returned (.bool true) ∧ Below w.heap.size w w' := by
  obtain ⟨XN, XE, p1, p2, o1, o2, l1, l2, _, _⟩ := gr_abs h1 h0
  obtain ⟨xl, hxl⟩ : ∃ z, z = XN.length := ⟨_, rfl⟩
  obtain ⟨yl, hyl⟩ : ∃ z, z = XE.length := ⟨_, rfl⟩
  have HB1 : Hid (∀ W, Below w.heap.size w W → Calls Tryz.prog 18 #[.agg #[.slice na nl nc, .slice ea el ec, .int .i64 nx], .agg #[.slice na nl nc, .slice ea el ec, .int .i64 nx]] W fun e w' => (∃ ga gc na1 nc1 ha hc ea1 ec1, e = .returned (.tuple #[.agg #[.slice ga 0 gc, .slice na1 0 nc1, .slice ha 0 hc, .slice ea1 0 ec1, .int .i64 nx, .int .i64 nx], .int .i64 0])) ∧ Below W.heap.size W w') := fun W k => (between_good h1 h1 nc ec nx nc ec nx h0 h0 p1 p2 p1 p2 o1 o2 o1 o2 l1 l2 l1 l2 W k).mono fun e w' ⟨⟨v, he, ga, gc, na1, nc1, ha, hc, ea1, ec1, hv, _⟩, kk⟩ => ⟨by
    rw [lackL_self _ sameN_self, lackL_self _ sameE_self] at hv
    exact ⟨ga, gc, na1, nc1, ha, hc, ea1, ec1, by rw [he, hv]; rfl⟩, kk⟩
  have HAP : Hid (∀ W, Below w.heap.size w W → Calls Tryz.prog 10 #[.agg #[.slice na nl nc, .slice ea el ec, .int .i64 nx], .slice none 0 0] W fun e w' => (∃ a1 c1 a2 c2 a3 c3, e = .returned (.tuple #[.agg #[.slice a1 xl c1, .slice a2 yl c2, .int .i64 nx], .slice a3 0 c3, .int .i64 0, .int .i64 0]) ∧ NsAt w' XN a1 xl ∧ EsAt w' XE a2 yl) ∧ Below W.heap.size W w') := fun W k => apply_none (fun V kV => by have := check_ok h1 nc ec nx V kV; rw [h0] at this; exact this) p1 p2 o1 o2 l1 l2 W k hxl hyl
  have HSG : Hid (∀ W a1 c1 a2 c2, Below w.heap.size w W → NsAt W XN a1 xl → EsAt W XE a2 yl → Calls Tryz.prog 12 #[.agg #[.slice a1 xl c1, .slice a2 yl c2, .int .i64 nx], .agg #[.slice na nl nc, .slice ea el ec, .int .i64 nx]] W fun e w' => e = .returned (.bool true) ∧ Below W.heap.size W w') := fun W a1 c1 a2 c2 k q1 q2 => by
    have := sameGraph_ref XN XN XE XE a1 xl c1 a2 yl c2 nx na nl nc ea el ec nx W q1 q2 (p1.below k) (p2.below k) o1 o2 o1 o2
    rw [eqB_self _ sameN_self, eqB_self _ sameE_self] at this
    simpa using this
  obtain ⟨er, her⟩ : ∃ z, z = gE N2 E2 mx := ⟨_, rfl⟩
  have HB2 : Hid (∀ W, Below w.heap.size w W → Calls Tryz.prog 18 #[.agg #[.slice na nl nc, .slice ea el ec, .int .i64 nx], .agg #[.slice ma ml mc, .slice fa fl fc, .int .i64 mx]] W fun e w' => e = .returned (.tuple #[.agg #[.slice none 0 0, .slice none 0 0, .slice none 0 0, .slice none 0 0, .int .i64 0, .int .i64 0], .int .i64 er]) ∧ Below W.heap.size W w') := fun W k => between_bad h1 h2 nc ec nx mc fc mx er (by rw [her, if_pos h0]) (by rw [her]; exact h00) W k
  have hz' : (er != 0) = true := by rw [her]; simp [h00]
  clear h1 h2 her h0 h00 p1 p2 o1 o2 hxl hyl l1 l2
  have b0 : Below w.heap.size w ((w.alloc (.cells #[.slice na nl nc, .slice ea el ec, .int .i64 nx] 25)).alloc (.cells #[.slice ma ml mc, .slice fa fl fc, .int .i64 mx] 25)) := ((Below.refl _ _).alloc (Nat.le_refl _) _).alloc (by simp) _
  have hx := (Below.heap_alloc (w.alloc (.cells #[.slice na nl nc, .slice ea el ec, .int .i64 nx] 25)) (.cells #[.slice ma ml mc, .slice fa fl fc, .int .i64 mx] 25) w.heap.size (by simp)).trans (alloc_new w (.cells #[.slice na nl nc, .slice ea el ec, .int .i64 nx] 25))
  have hy := alloc_two w (.cells #[.slice na nl nc, .slice ea el ec, .int .i64 nx] 25) (.cells #[.slice ma ml mc, .slice fa fl fc, .int .i64 mx] 25)
  have z0 : ((w.alloc (.cells #[.slice na nl nc, .slice ea el ec, .int .i64 nx] 25)).alloc (.cells #[.slice ma ml mc, .slice fa fl fc, .int .i64 mx] 25)).heap.size = w.heap.size + 2 := by simp
  have HB := toHid b0
  have HX := toHid hx
  have HY := toHid hy
  have HZ := toHid z0
  clear b0 hx hy z0
  go_enter Tryz.func6, Tryz.ntmps6
  go_wp2_with fail
  refine (HB1.out _ HB.out).mono ?_
  generalize ((w.alloc (.cells #[.slice na nl nc, .slice ea el ec, .int .i64 nx] 25)).alloc (.cells #[.slice ma ml mc, .slice fa fl fc, .int .i64 mx] 25)) = W at HB HX HY HZ ⊢
  rintro e w1 ⟨⟨ga, gc, na1, nc1, ha, hc, ea1, ec1, rfl⟩, k1⟩
  have s1 : w.heap.size + 2 ≤ w1.heap.size := by have := k1.size; rw [HZ.out] at this; exact this
  have b2 := (below3 HB.out HB.out.size k1).alloc (Nat.le_trans HB.out.size k1.size) (.cells #[.slice ga 0 gc, .slice na1 0 nc1, .slice ha 0 hc, .slice ea1 0 ec1, .int .i64 nx, .int .i64 nx] 41)
  have x2 := (Below.heap_alloc w1 (.cells #[.slice ga 0 gc, .slice na1 0 nc1, .slice ha 0 hc, .slice ea1 0 ec1, .int .i64 nx, .int .i64 nx] 41) w.heap.size (by omega)).trans ((k1.block w.heap.size (by rw [HZ.out]; omega)).trans HX.out)
  have y2 := (Below.heap_alloc w1 (.cells #[.slice ga 0 gc, .slice na1 0 nc1, .slice ha 0 hc, .slice ea1 0 ec1, .int .i64 nx, .int .i64 nx] 41) (w.heap.size + 1) (by omega)).trans ((k1.block (w.heap.size + 1) (by rw [HZ.out]; omega)).trans HY.out)
  have d2 := alloc_new w1 (.cells #[.slice ga 0 gc, .slice na1 0 nc1, .slice ha 0 hc, .slice ea1 0 ec1, .int .i64 nx, .int .i64 nx] 41)
  have z2 : (w1.alloc (.cells #[.slice ga 0 gc, .slice na1 0 nc1, .slice ha 0 hc, .slice ea1 0 ec1, .int .i64 nx, .int .i64 nx] 41)).heap.size = w1.heap.size + 1 := by simp
  have HBx := toHid b2
  have HX2 := toHid x2
  have HY2 := toHid y2
  have HD2 := toHid d2
  have HZ2 := toHid z2
  clear b2 x2 y2 d2 z2 k1 HX HY HZ HB HB1
  go_wp2_with fail
  generalize w1.alloc (.cells #[.slice ga 0 gc, .slice na1 0 nc1, .slice ha 0 hc, .slice ea1 0 ec1, .int .i64 nx, .int .i64 nx] 41) = W1 at HBx HX2 HY2 HD2 HZ2 ⊢
  generalize w1.heap.size = m at s1 HD2 HZ2 ⊢
  refine (changed_true _).mono ?_
  rintro e w2 ⟨rfl, k2⟩
  have s2 : m < w2.heap.size := by have := k2.size; rw [HZ2.out] at this; exact this
  have x3 := (k2.block w.heap.size (by rw [HZ2.out]; omega)).trans HX2.out
  have y3 := (k2.block (w.heap.size + 1) (by rw [HZ2.out]; omega)).trans HY2.out
  have d3 := (k2.block m (by rw [HZ2.out]; omega)).trans HD2.out
  have HB3 := toHid (below3 HBx.out HBx.out.size k2)
  have HX3 := toHid x3
  have HY3 := toHid y3
  have HD3 := toHid d3
  have c0 := cell_of x3 0
  have c1 := cell_of x3 1
  have c2 := cell_of x3 2
  simp at c0 c1 c2
  clear x3 y3 d3 k2 HBx HX2 HY2 HD2 HZ2
  go_wp2_with fail
  refine (HAP.out _ HB3.out).mono ?_
  rintro e w3 ⟨⟨na3, nc3, ea3, ec3, ma3, mc3, rfl, q1, q2⟩, k3⟩
  have s3 : m < w3.heap.size := Nat.lt_of_lt_of_le s2 k3.size
  have kA : Below w3.heap.size w3 (w3.alloc (.cells #[.slice na3 xl nc3, .slice ea3 yl ec3, .int .i64 nx] 25)) := (Below.refl _ _).alloc (Nat.le_refl _) _
  have k4 := below3 k3 k3.size kA
  have x4 := (k4.block w.heap.size (by omega)).trans HX3.out
  have y4 := (k4.block (w.heap.size + 1) (by omega)).trans HY3.out
  have d4 := (k4.block m s2).trans HD3.out
  have HB4 := toHid (below3 HB3.out HB3.out.size k4)
  have HQ := toHid (HSG.out _ na3 nc3 ea3 ec3 HB4.out (q1.below kA) (q2.below kA))
  have HX4 := toHid x4
  have HY4 := toHid y4
  have HD4 := toHid d4
  have z4 : (w3.alloc (.cells #[.slice na3 xl nc3, .slice ea3 yl ec3, .int .i64 nx] 25)).heap.size = w3.heap.size + 1 := by simp
  have HZ4 := toHid z4
  clear c0 c1 c2
  have c0 := cell_of x4 0
  have c1 := cell_of x4 1
  have c2 := cell_of x4 2
  have e0 := cell_of d4 0
  have e1 := cell_of d4 1
  have e2 := cell_of d4 2
  have e3 := cell_of d4 3
  simp at c0 c1 c2 e0 e1 e2 e3
  clear x4 y4 d4 z4 k3 k4 kA q1 q2 HX3 HY3 HD3 HB3 HAP HSG
  go_wp2_with fail
  refine HQ.out.mono ?_
  clear HQ
  generalize w3.alloc (.cells #[.slice na3 xl nc3, .slice ea3 yl ec3, .int .i64 nx] 25) = W3 at HB4 HX4 HY4 HD4 HZ4 c0 c1 c2 e0 e1 e2 e3 ⊢
  generalize w3.heap.size = m3 at s3 HZ4 ⊢
  rintro e w4 ⟨rfl, k4⟩
  have s4 : m < w4.heap.size := by have := k4.size; rw [HZ4.out] at this; omega
  have x5 := (k4.block w.heap.size (by rw [HZ4.out]; omega)).trans HX4.out
  have y5 := (k4.block (w.heap.size + 1) (by rw [HZ4.out]; omega)).trans HY4.out
  have d5 := (k4.block m (by rw [HZ4.out]; omega)).trans HD4.out
  have HB5 := toHid (below3 HB4.out HB4.out.size k4)
  have HD5 := toHid d5
  clear c0 c1 c2 e0 e1 e2 e3
  have c0 := cell_of x5 0
  have c1 := cell_of x5 1
  have c2 := cell_of x5 2
  have e0 := cell_of y5 0
  have e1 := cell_of y5 1
  have e2 := cell_of y5 2
  simp at c0 c1 c2 e0 e1 e2
  clear x5 y5 d5 k4 HB4 HX4 HY4 HD4 HZ4
  go_wp2_with fail
  refine (HB2.out _ HB5.out).mono ?_
  rintro e w5 ⟨rfl, k5⟩
  have d6 := (k5.block m s4).trans HD5.out
  have HB6 := toHid (below3 HB5.out HB5.out.size k5)
  have s5 : m < w5.heap.size := Nat.lt_of_lt_of_le s4 k5.size
  have r0 := cell_of d6 0
  have r1 := cell_of d6 1
  have r2 := cell_of d6 2
  have r3 := cell_of d6 3
  have r4 := cell_of d6 4
  have r5 := cell_of d6 5
  have g0 := free_of d6 0
  have g1 := free_of d6 1
  have g2 := free_of d6 2
  have g3 := free_of d6 3
  have g4 := free_of d6 4
  have g5 := free_of d6 5
  simp at r0 r1 r2 r3 r4 r5
  clear d6 k5 HD5 HB5 c0 c1 c2 e0 e1 e2
  go_upto_region 8 with fail
  have hbl : Below w.heap.size w (putL w5 m 0 [.slice none 0 0, .slice none 0 0, .slice none 0 0, .slice none 0 0, .int .i64 0, .int .i64 0]) := HB6.out.trans ((putL_bel m _ _ w5).mono (by omega))
  have eP : ∀ X : World, (((((X.setCell ⟨m, 0, none⟩ (.slice none 0 0)).setCell ⟨m, 1, none⟩ (.slice none 0 0)).setCell ⟨m, 2, none⟩ (.slice none 0 0)).setCell ⟨m, 3, none⟩ (.slice none 0 0)).setCell ⟨m, 4, none⟩ (.int .i64 0)).setCell ⟨m, 5, none⟩ (.int .i64 0) = putL X m 0 [.slice none 0 0, .slice none 0 0, .slice none 0 0, .slice none 0 0, .int .i64 0, .int .i64 0] := fun _ => rfl
  rw [eP]
  generalize putL w5 m 0 [.slice none 0 0, .slice none 0 0, .slice none 0 0, .slice none 0 0, .int .i64 0, .int .i64 0] = Y at hbl ⊢
  go_quiet (fail)
  all_goals
    go_wp2_with fail
    go_ret
    exact ⟨rfl, hbl.trans ((below_drewN Y _).mono hbl.size)⟩

set_option maxHeartbeats 8000000 in
set_option maxRecDepth 100000 in
theorem nothing_good (N1 : List Nd) (E1 : List Ed) (na : Option Addr) (nl nc : Nat) (ea : Option Addr) (el ec : Nat) (nx : Int) (N2 : List Nd) (E2 : List Ed) (ma : Option Addr) (ml mc : Nat) (fa : Option Addr) (fl fc : Nat) (mx : Int) (w : World) (h1 : GrOk w N1 E1 na nl ea el) (h2 : GrOk w N2 E2 ma ml fa fl) (h0 : gE N1 E1 nx = 0) (h00 : gE N2 E2 mx = 0) :
    Calls Tryz.prog 6 #[.agg #[.slice na nl nc, .slice ea el ec, .int .i64 nx], .agg #[.slice ma ml mc, .slice fa fl fc, .int .i64 mx]] w fun e w' => e = .returned (.bool true) ∧ Below w.heap.size w w' := by
  obtain ⟨XN, XE, p1, p2, o1, o2, l1, l2, _, _⟩ := gr_abs h1 h0
  obtain ⟨xl, hxl⟩ : ∃ z, z = XN.length := ⟨_, rfl⟩
  obtain ⟨yl, hyl⟩ : ∃ z, z = XE.length := ⟨_, rfl⟩
  have HB1 : Hid (∀ W, Below w.heap.size w W → Calls Tryz.prog 18 #[.agg #[.slice na nl nc, .slice ea el ec, .int .i64 nx], .agg #[.slice na nl nc, .slice ea el ec, .int .i64 nx]] W fun e w' => (∃ ga gc na1 nc1 ha hc ea1 ec1, e = .returned (.tuple #[.agg #[.slice ga 0 gc, .slice na1 0 nc1, .slice ha 0 hc, .slice ea1 0 ec1, .int .i64 nx, .int .i64 nx], .int .i64 0])) ∧ Below W.heap.size W w') := fun W k => (between_good h1 h1 nc ec nx nc ec nx h0 h0 p1 p2 p1 p2 o1 o2 o1 o2 l1 l2 l1 l2 W k).mono fun e w' ⟨⟨v, he, ga, gc, na1, nc1, ha, hc, ea1, ec1, hv, _⟩, kk⟩ => ⟨by
    rw [lackL_self _ sameN_self, lackL_self _ sameE_self] at hv
    exact ⟨ga, gc, na1, nc1, ha, hc, ea1, ec1, by rw [he, hv]; rfl⟩, kk⟩
  have HAP : Hid (∀ W, Below w.heap.size w W → Calls Tryz.prog 10 #[.agg #[.slice na nl nc, .slice ea el ec, .int .i64 nx], .slice none 0 0] W fun e w' => (∃ a1 c1 a2 c2 a3 c3, e = .returned (.tuple #[.agg #[.slice a1 xl c1, .slice a2 yl c2, .int .i64 nx], .slice a3 0 c3, .int .i64 0, .int .i64 0]) ∧ NsAt w' XN a1 xl ∧ EsAt w' XE a2 yl) ∧ Below W.heap.size W w') := fun W k => apply_none (fun V kV => by have := check_ok h1 nc ec nx V kV; rw [h0] at this; exact this) p1 p2 o1 o2 l1 l2 W k hxl hyl
  have HSG : Hid (∀ W a1 c1 a2 c2, Below w.heap.size w W → NsAt W XN a1 xl → EsAt W XE a2 yl → Calls Tryz.prog 12 #[.agg #[.slice a1 xl c1, .slice a2 yl c2, .int .i64 nx], .agg #[.slice na nl nc, .slice ea el ec, .int .i64 nx]] W fun e w' => e = .returned (.bool true) ∧ Below W.heap.size W w') := fun W a1 c1 a2 c2 k q1 q2 => by
    have := sameGraph_ref XN XN XE XE a1 xl c1 a2 yl c2 nx na nl nc ea el ec nx W q1 q2 (p1.below k) (p2.below k) o1 o2 o1 o2
    rw [eqB_self _ sameN_self, eqB_self _ sameE_self] at this
    simpa using this
  obtain ⟨YN, YE, p3, p4, o3, o4, l3, l4, _, _⟩ := gr_abs h2 h00
  obtain ⟨G, hG⟩ : ∃ z, z = lackL sameN XN YN := ⟨_, rfl⟩
  obtain ⟨N, hN⟩ : ∃ z, z = lackL sameN YN XN := ⟨_, rfl⟩
  obtain ⟨H, hH⟩ : ∃ z, z = lackL sameE XE YE := ⟨_, rfl⟩
  obtain ⟨E, hE⟩ : ∃ z, z = lackL sameE YE XE := ⟨_, rfl⟩
  obtain ⟨gn, hgn⟩ : ∃ z, z = G.length := ⟨_, rfl⟩
  obtain ⟨nn, hnn⟩ : ∃ z, z = N.length := ⟨_, rfl⟩
  obtain ⟨hn, hhn⟩ : ∃ z, z = H.length := ⟨_, rfl⟩
  obtain ⟨en, hen⟩ : ∃ z, z = E.length := ⟨_, rfl⟩
  have hok : DOk G N H E := by rw [hG, hN, hH, hE]; exact lack_ok o1 o3 o2 o4
  have hsz : gn ≤ 1000 ∧ nn ≤ 1000 ∧ hn ≤ 1000 ∧ en ≤ 1000 := by
    have q1 := lackL_length sameN XN YN
    have q2 := lackL_length sameN YN XN
    have q3 := lackL_length sameE XE YE
    have q4 := lackL_length sameE YE XE
    rw [← hG, ← hgn] at q1
    rw [← hN, ← hnn] at q2
    rw [← hH, ← hhn] at q3
    rw [← hE, ← hen] at q4
    obtain ⟨_, t1, t2⟩ := p1
    obtain ⟨_, t3, t4⟩ := p2
    obtain ⟨_, t5, t6⟩ := p3
    obtain ⟨_, t7, t8⟩ := p4
    have := t1.1; have := t2.1; have := t3.1; have := t4.1; have := t5.1; have := t6.1; have := t7.1; have := t8.1
    omega
  have HB2 : Hid (∀ W, Below w.heap.size w W → Calls Tryz.prog 18 #[.agg #[.slice na nl nc, .slice ea el ec, .int .i64 nx], .agg #[.slice ma ml mc, .slice fa fl fc, .int .i64 mx]] W fun e w' => (∃ ga5 gc5 na5 nc5 ha5 hc5 ea5 ec5, e = .returned (.tuple #[.agg #[.slice ga5 gn gc5, .slice na5 nn nc5, .slice ha5 hn hc5, .slice ea5 en ec5, .int .i64 nx, .int .i64 mx], .int .i64 0]) ∧ NsOwn (fun i => W.heap.size ≤ i) w' G (.slice ga5 gn gc5) ∧ NsOwn (fun i => W.heap.size ≤ i) w' N (.slice na5 nn nc5) ∧ EsOwn (fun i => W.heap.size ≤ i) w' H (.slice ha5 hn hc5) ∧ EsOwn (fun i => W.heap.size ≤ i) w' E (.slice ea5 en ec5)) ∧ Below W.heap.size W w') := fun W k => (between_good h1 h2 nc ec nx mc fc mx h0 h00 p1 p2 p3 p4 o1 o2 o3 o4 l1 l2 l3 l4 W k).mono fun e w' ⟨⟨v, he, ga, gc, na1, nc1, ha, hc, ea1, ec1, hv, q1, q2, q3, q4⟩, kk⟩ => ⟨by
    rw [← hG, ← hN, ← hH, ← hE, ← hgn, ← hnn, ← hhn, ← hen] at hv
    rw [← hG, ← hgn] at q1
    rw [← hN, ← hnn] at q2
    rw [← hH, ← hhn] at q3
    rw [← hE, ← hen] at q4
    exact ⟨ga, gc, na1, nc1, ha, hc, ea1, ec1, by rw [he, hv], q1, q2, q3, q4⟩, kk⟩
  have HLEN := toHid (show gn = G.length ∧ nn = N.length ∧ hn = H.length ∧ en = E.length from ⟨hgn, hnn, hhn, hen⟩)
  have HOK := toHid hok
  have HSZ := toHid hsz
  clear h1 h2 h0 h00 p1 p2 p3 p4 o1 o2 o3 o4 hxl hyl l1 l2 l3 l4 hG hN hH hE hgn hnn hhn hen hok hsz
  have b0 : Below w.heap.size w ((w.alloc (.cells #[.slice na nl nc, .slice ea el ec, .int .i64 nx] 25)).alloc (.cells #[.slice ma ml mc, .slice fa fl fc, .int .i64 mx] 25)) := ((Below.refl _ _).alloc (Nat.le_refl _) _).alloc (by simp) _
  have hx := (Below.heap_alloc (w.alloc (.cells #[.slice na nl nc, .slice ea el ec, .int .i64 nx] 25)) (.cells #[.slice ma ml mc, .slice fa fl fc, .int .i64 mx] 25) w.heap.size (by simp)).trans (alloc_new w (.cells #[.slice na nl nc, .slice ea el ec, .int .i64 nx] 25))
  have hy := alloc_two w (.cells #[.slice na nl nc, .slice ea el ec, .int .i64 nx] 25) (.cells #[.slice ma ml mc, .slice fa fl fc, .int .i64 mx] 25)
  have z0 : ((w.alloc (.cells #[.slice na nl nc, .slice ea el ec, .int .i64 nx] 25)).alloc (.cells #[.slice ma ml mc, .slice fa fl fc, .int .i64 mx] 25)).heap.size = w.heap.size + 2 := by simp
  have HB := toHid b0
  have HX := toHid hx
  have HY := toHid hy
  have HZ := toHid z0
  clear b0 hx hy z0
  go_enter Tryz.func6, Tryz.ntmps6
  go_wp2_with fail
  refine (HB1.out _ HB.out).mono ?_
  generalize ((w.alloc (.cells #[.slice na nl nc, .slice ea el ec, .int .i64 nx] 25)).alloc (.cells #[.slice ma ml mc, .slice fa fl fc, .int .i64 mx] 25)) = W at HB HX HY HZ ⊢
  rintro e w1 ⟨⟨ga, gc, na1, nc1, ha, hc, ea1, ec1, rfl⟩, k1⟩
  have s1 : w.heap.size + 2 ≤ w1.heap.size := by have := k1.size; rw [HZ.out] at this; exact this
  have b2 := (below3 HB.out HB.out.size k1).alloc (Nat.le_trans HB.out.size k1.size) (.cells #[.slice ga 0 gc, .slice na1 0 nc1, .slice ha 0 hc, .slice ea1 0 ec1, .int .i64 nx, .int .i64 nx] 41)
  have x2 := (Below.heap_alloc w1 (.cells #[.slice ga 0 gc, .slice na1 0 nc1, .slice ha 0 hc, .slice ea1 0 ec1, .int .i64 nx, .int .i64 nx] 41) w.heap.size (by omega)).trans ((k1.block w.heap.size (by rw [HZ.out]; omega)).trans HX.out)
  have y2 := (Below.heap_alloc w1 (.cells #[.slice ga 0 gc, .slice na1 0 nc1, .slice ha 0 hc, .slice ea1 0 ec1, .int .i64 nx, .int .i64 nx] 41) (w.heap.size + 1) (by omega)).trans ((k1.block (w.heap.size + 1) (by rw [HZ.out]; omega)).trans HY.out)
  have d2 := alloc_new w1 (.cells #[.slice ga 0 gc, .slice na1 0 nc1, .slice ha 0 hc, .slice ea1 0 ec1, .int .i64 nx, .int .i64 nx] 41)
  have z2 : (w1.alloc (.cells #[.slice ga 0 gc, .slice na1 0 nc1, .slice ha 0 hc, .slice ea1 0 ec1, .int .i64 nx, .int .i64 nx] 41)).heap.size = w1.heap.size + 1 := by simp
  have HBx := toHid b2
  have HX2 := toHid x2
  have HY2 := toHid y2
  have HD2 := toHid d2
  have HZ2 := toHid z2
  clear b2 x2 y2 d2 z2 k1 HX HY HZ HB HB1
  go_wp2_with fail
  generalize w1.alloc (.cells #[.slice ga 0 gc, .slice na1 0 nc1, .slice ha 0 hc, .slice ea1 0 ec1, .int .i64 nx, .int .i64 nx] 41) = W1 at HBx HX2 HY2 HD2 HZ2 ⊢
  generalize w1.heap.size = m at s1 HD2 HZ2 ⊢
  refine (changed_true _).mono ?_
  rintro e w2 ⟨rfl, k2⟩
  have s2 : m < w2.heap.size := by have := k2.size; rw [HZ2.out] at this; exact this
  have x3 := (k2.block w.heap.size (by rw [HZ2.out]; omega)).trans HX2.out
  have y3 := (k2.block (w.heap.size + 1) (by rw [HZ2.out]; omega)).trans HY2.out
  have d3 := (k2.block m (by rw [HZ2.out]; omega)).trans HD2.out
  have HB3 := toHid (below3 HBx.out HBx.out.size k2)
  have HX3 := toHid x3
  have HY3 := toHid y3
  have HD3 := toHid d3
  have c0 := cell_of x3 0
  have c1 := cell_of x3 1
  have c2 := cell_of x3 2
  simp at c0 c1 c2
  clear x3 y3 d3 k2 HBx HX2 HY2 HD2 HZ2
  go_wp2_with fail
  refine (HAP.out _ HB3.out).mono ?_
  rintro e w3 ⟨⟨na3, nc3, ea3, ec3, ma3, mc3, rfl, q1, q2⟩, k3⟩
  have s3 : m < w3.heap.size := Nat.lt_of_lt_of_le s2 k3.size
  have kA : Below w3.heap.size w3 (w3.alloc (.cells #[.slice na3 xl nc3, .slice ea3 yl ec3, .int .i64 nx] 25)) := (Below.refl _ _).alloc (Nat.le_refl _) _
  have k4 := below3 k3 k3.size kA
  have x4 := (k4.block w.heap.size (by omega)).trans HX3.out
  have y4 := (k4.block (w.heap.size + 1) (by omega)).trans HY3.out
  have d4 := (k4.block m s2).trans HD3.out
  have HB4 := toHid (below3 HB3.out HB3.out.size k4)
  have HQ := toHid (HSG.out _ na3 nc3 ea3 ec3 HB4.out (q1.below kA) (q2.below kA))
  have HX4 := toHid x4
  have HY4 := toHid y4
  have HD4 := toHid d4
  have z4 : (w3.alloc (.cells #[.slice na3 xl nc3, .slice ea3 yl ec3, .int .i64 nx] 25)).heap.size = w3.heap.size + 1 := by simp
  have HZ4 := toHid z4
  clear c0 c1 c2
  have c0 := cell_of x4 0
  have c1 := cell_of x4 1
  have c2 := cell_of x4 2
  have e0 := cell_of d4 0
  have e1 := cell_of d4 1
  have e2 := cell_of d4 2
  have e3 := cell_of d4 3
  simp at c0 c1 c2 e0 e1 e2 e3
  clear x4 y4 d4 z4 k3 k4 kA q1 q2 HX3 HY3 HD3 HB3 HAP HSG
  go_wp2_with fail
  refine HQ.out.mono ?_
  clear HQ
  generalize w3.alloc (.cells #[.slice na3 xl nc3, .slice ea3 yl ec3, .int .i64 nx] 25) = W3 at HB4 HX4 HY4 HD4 HZ4 c0 c1 c2 e0 e1 e2 e3 ⊢
  generalize w3.heap.size = m3 at s3 HZ4 ⊢
  rintro e w4 ⟨rfl, k4⟩
  have s4 : m < w4.heap.size := by have := k4.size; rw [HZ4.out] at this; omega
  have x5 := (k4.block w.heap.size (by rw [HZ4.out]; omega)).trans HX4.out
  have y5 := (k4.block (w.heap.size + 1) (by rw [HZ4.out]; omega)).trans HY4.out
  have d5 := (k4.block m (by rw [HZ4.out]; omega)).trans HD4.out
  have HB5 := toHid (below3 HB4.out HB4.out.size k4)
  have HD5 := toHid d5
  clear c0 c1 c2 e0 e1 e2 e3
  have c0 := cell_of x5 0
  have c1 := cell_of x5 1
  have c2 := cell_of x5 2
  have e0 := cell_of y5 0
  have e1 := cell_of y5 1
  have e2 := cell_of y5 2
  simp at c0 c1 c2 e0 e1 e2
  clear x5 y5 d5 k4 HB4 HX4 HY4 HD4 HZ4
  go_wp2_with fail
  refine (HB2.out _ HB5.out).mono ?_
  rintro e w5 ⟨⟨ga5, gc5, na5, nc5, ha5, hc5, ea5, ec5, rfl, q1, q2, q3, q4⟩, k5⟩
  have d6 := (k5.block m s4).trans HD5.out
  have HB6 := toHid (below3 HB5.out HB5.out.size k5)
  have s5 : m < w5.heap.size := Nat.lt_of_lt_of_le s4 k5.size
  have HDA : Hid (DAt (putL w5 m 0 [.slice ga5 gn gc5, .slice na5 nn nc5, .slice ha5 hn hc5, .slice ea5 en ec5, .int .i64 nx, .int .i64 mx]) G N H E ga5 gn na5 nn ha5 hn ea5 en) := by
    have hK : Keep (fun i => w4.heap.size ≤ i) AnyB w5 (putL w5 m 0 [.slice ga5 gn gc5, .slice na5 nn nc5, .slice ha5 hn hc5, .slice ea5 en ec5, .int .i64 nx, .int .i64 mx]) := ⟨by rw [putL_size]; exact Nat.le_refl _, fun i hi _ => ⟨trivial, putL_other _ _ _ w5 i (by have hi' : w4.heap.size ≤ i := hi; omega)⟩⟩
    obtain ⟨l1, l2, l3, l4⟩ := HLEN.out
    generalize putL w5 m 0 [.slice ga5 gn gc5, .slice na5 nn nc5, .slice ha5 hn hc5, .slice ea5 en ec5, .int .i64 nx, .int .i64 mx] = Yw at hK ⊢
    have t1 := q1.kept hK
    have t2 := q2.kept hK
    have t3 := q3.kept hK
    have t4 := q4.kept hK
    rw [l1] at t1 ⊢
    rw [l2] at t2 ⊢
    rw [l3] at t3 ⊢
    rw [l4] at t4 ⊢
    exact ⟨t1.reads2.2, t2.reads2.2, t3.reads2.2, t4.reads2.2⟩
  have hnb : Hid ((putL w5 m 0 [.slice ga5 gn gc5, .slice na5 nn nc5, .slice ha5 hn hc5, .slice ea5 en ec5, .int .i64 nx, .int .i64 mx]).heap[m]? = some (.cells #[.slice ga5 gn gc5, .slice na5 nn nc5, .slice ha5 hn hc5, .slice ea5 en ec5, .int .i64 nx, .int .i64 mx] 41 (0, 0))) := putL_here [.slice ga5 gn gc5, .slice na5 nn nc5, .slice ha5 hn hc5, .slice ea5 en ec5, .int .i64 nx, .int .i64 mx] 0 w5 _ d6
  have hbl : Below w.heap.size w (putL w5 m 0 [.slice ga5 gn gc5, .slice na5 nn nc5, .slice ha5 hn hc5, .slice ea5 en ec5, .int .i64 nx, .int .i64 mx]) := HB6.out.trans ((putL_bel m _ _ w5).mono (by omega))
  have HBL := toHid hbl
  have hyz : Hid (m < (putL w5 m 0 [.slice ga5 gn gc5, .slice na5 nn nc5, .slice ha5 hn hc5, .slice ea5 en ec5, .int .i64 nx, .int .i64 mx]).heap.size) := by show m < _; rw [putL_size]; exact s5
  have r0 := cell_of d6 0
  have r1 := cell_of d6 1
  have r2 := cell_of d6 2
  have r3 := cell_of d6 3
  have r4 := cell_of d6 4
  have r5 := cell_of d6 5
  have g0 := free_of d6 0
  have g1 := free_of d6 1
  have g2 := free_of d6 2
  have g3 := free_of d6 3
  have g4 := free_of d6 4
  have g5 := free_of d6 5
  simp at r0 r1 r2 r3 r4 r5
  clear d6 k5 HD5 HB5 c0 c1 c2 e0 e1 e2 q1 q2 q3 q4 hbl HB2 HB6
  go_upto_region 8 with fail
  have eP : ∀ X : World, (((((X.setCell ⟨m, 0, none⟩ (.slice ga5 gn gc5)).setCell ⟨m, 1, none⟩ (.slice na5 nn nc5)).setCell ⟨m, 2, none⟩ (.slice ha5 hn hc5)).setCell ⟨m, 3, none⟩ (.slice ea5 en ec5)).setCell ⟨m, 4, none⟩ (.int .i64 nx)).setCell ⟨m, 5, none⟩ (.int .i64 mx) = putL X m 0 [.slice ga5 gn gc5, .slice na5 nn nc5, .slice ha5 hn hc5, .slice ea5 en ec5, .int .i64 nx, .int .i64 mx] := fun _ => rfl
  rw [eP]
  generalize putL w5 m 0 [.slice ga5 gn gc5, .slice na5 nn nc5, .slice ha5 hn hc5, .slice ea5 en ec5, .int .i64 nx, .int .i64 mx] = Y at HDA hnb HBL hyz ⊢
  have HS : Hid (∀ W' : World, Below Y.heap.size Y W' → W'.cell? ⟨m, 0, none⟩ = some (.slice ga5 gn gc5) ∧ W'.cell? ⟨m, 1, none⟩ = some (.slice na5 nn nc5) ∧ W'.cell? ⟨m, 2, none⟩ = some (.slice ha5 hn hc5) ∧ W'.cell? ⟨m, 3, none⟩ = some (.slice ea5 en ec5) ∧ W'.cell? ⟨m, 4, none⟩ = some (.int .i64 nx) ∧ W'.cell? ⟨m, 5, none⟩ = some (.int .i64 mx)) := fun W' kk => by
    have q : ∀ o, W'.cell? ⟨m, o, none⟩ = _ := fun o => (kk.cell (p := ⟨m, o, none⟩) hyz.out).trans (cell_of hnb.out o)
    exact ⟨q 0, q 1, q 2, q 3, q 4, q 5⟩
  obtain ⟨t0, t1, t2, t3, t4, t5⟩ := HS.out Y (Below.refl _ _)
  have D0 : Below Y.heap.size Y Y.drew := (Below.refl _ _).drew
  clear r0 r1 r2 r3 r4 r5 g0 g1 g2 g3 g4 g5
  go_region_held3 (fun W' => W'.cell? ⟨m, 0, none⟩ = some (.slice ga5 gn gc5) ∧ W'.cell? ⟨m, 1, none⟩ = some (.slice na5 nn nc5) ∧ W'.cell? ⟨m, 2, none⟩ = some (.slice ha5 hn hc5) ∧ W'.cell? ⟨m, 3, none⟩ = some (.slice ea5 en ec5) ∧ W'.cell? ⟨m, 4, none⟩ = some (.int .i64 nx) ∧ W'.cell? ⟨m, 5, none⟩ = some (.int .i64 mx))
    (first
      | with_reducible exact HS.out _ k9
      | with_reducible exact HS.out _ k8
      | with_reducible exact HS.out _ k7
      | with_reducible exact HS.out _ D0
      | go_keep)
    (first
      | (go_at_call 19; refine (same_at HOK.out hb8 (HDA.out.below k8) _ _ _ _ _ _ _ _ _ _).mono ?_; rintro e u9 ⟨rfl, h9⟩; have k9 : Below Y.heap.size Y u9 := below3 k8 k8.size h9)
      | (go_at_call 24; refine (back_at ⟨HOK.out.2.1, HOK.out.1, HOK.out.2.2.2, HOK.out.2.2.1⟩ ⟨HLEN.out.2.1, HLEN.out.1, HLEN.out.2.2.2, HLEN.out.2.2.1⟩ ⟨HSZ.out.2.1, HSZ.out.1, HSZ.out.2.2.2, HSZ.out.2.2.1⟩ hb7 _ _ _ _ _ _).mono ?_; rintro e u8 ⟨⟨i1, j1, i2, j2, i3, j3, i4, j4, rfl, hb8⟩, h8⟩; have k8 : Below Y.heap.size Y u8 := below3 k7 k7.size h8)
      | (go_at_call 24; refine (back_at HOK.out HLEN.out HSZ.out (HDA.out.below D0) _ _ _ _ _ _).mono ?_; rintro e u7 ⟨⟨a1, c1, a2, c2, a3, c3, a4, c4, rfl, hb7⟩, h7⟩; have k7 : Below Y.heap.size Y u7 := D0.trans h7))
  all_goals
    go_wp2_with fail
    go_ret
    exact ⟨rfl, below3 HBL.out HBL.out.size k9⟩

theorem law_nothing (N1 : List Nd) (E1 : List Ed) (na : Option Addr) (nl nc : Nat) (ea : Option Addr) (el ec : Nat) (nx : Int) (N2 : List Nd) (E2 : List Ed) (ma : Option Addr) (ml mc : Nat) (fa : Option Addr) (fl fc : Nat) (mx : Int) (w : World) (h1 : GrOk w N1 E1 na nl ea el) (h2 : GrOk w N2 E2 ma ml fa fl) :
    Calls Tryz.prog 6 #[.agg #[.slice na nl nc, .slice ea el ec, .int .i64 nx], .agg #[.slice ma ml mc, .slice fa fl fc, .int .i64 mx]] w fun e w' => e = .returned (.bool true) ∧ Below w.heap.size w w' := by
  by_cases h0 : gE N1 E1 nx = 0
  · by_cases h00 : gE N2 E2 mx = 0
    · exact nothing_good N1 E1 na nl nc ea el ec nx N2 E2 ma ml mc fa fl fc mx w h1 h2 h0 h00
    · exact nothing_half N1 E1 na nl nc ea el ec nx N2 E2 ma ml mc fa fl fc mx w h1 h2 h0 h00
  · exact nothing_bad N1 E1 na nl nc ea el ec nx N2 E2 ma ml mc fa fl fc mx w h1 h2 h0
end Go.Proofs.YtakpifphpojbjaaGreatDoor
