/-
  What is proved here: what the texts HNoth0, HLackV, HBet0, HBet1, HBet2, HLawBetween prove, in one text.
-/
import Derived.Test.YtakpifphpojbjaaGreatDoorHBack
import Derived.Test.YtakpifphpojbjaaGreatDoorHMA
import Derived.Test.YtakpifphpojbjaaGreatDoorHMS
import Derived.Test.YtakpifphpojbjaaGreatDoorGLawCheck
import Derived.Deep.RegionHeld3
import Derived.Test.YtakpifphpojbjaaGreatDoorHLackM
import Derived.Deep.DeepFit
namespace Go.Proofs.YtakpifphpojbjaaGreatDoor
open Go.RowKit
set_option linter.unusedVariables false

/-- A difference that may be read, by where it lies. -/
def DAt (w : World) (G N : List AN) (H E : List AE) (ga : Option Addr) (gn : Nat) (na : Option Addr) (nn : Nat) (ha : Option Addr) (hn : Nat) (ea : Option Addr) (en : Nat) : Prop := NsAt w G ga gn ∧ NsAt w N na nn ∧ EsAt w H ha hn ∧ EsAt w E ea en

theorem DAt.below {w w' : World} {G N : List AN} {H E : List AE} {ga : Option Addr} {gn : Nat} {na : Option Addr} {nn : Nat} {ha : Option Addr} {hn : Nat} {ea : Option Addr} {en : Nat} (h : DAt w G N H E ga gn na nn ha hn ea en) (k : Below w.heap.size w w') : DAt w' G N H E ga gn na nn ha hn ea en := ⟨h.1.below k, h.2.1.below k, h.2.2.1.below k, h.2.2.2.below k⟩

def DOk (G N : List AN) (H E : List AE) : Prop := (∀ x ∈ G, x.ok) ∧ (∀ x ∈ N, x.ok) ∧ (∀ x ∈ H, x.ok) ∧ (∀ x ∈ E, x.ok)

/-- Two graphs of which one isn't right. -/
theorem between_bad {N1 : List Nd} {E1 : List Ed} {N2 : List Nd} {E2 : List Ed} {na : Option Addr} {nl : Nat} {ea : Option Addr} {el : Nat} {ma : Option Addr} {ml : Nat} {fa : Option Addr} {fl : Nat} {w : World} (h1 : GrOk w N1 E1 na nl ea el) (h2 : GrOk w N2 E2 ma ml fa fl) (nc ec : Nat) (nx : Int) (mc fc : Nat) (mx : Int) (er : Int) (her : er = if gE N1 E1 nx = 0 then gE N2 E2 mx else gE N1 E1 nx) (h0 : er ≠ 0) (W : World) (k : Below w.heap.size w W) :
    Calls Tryz.prog 18 #[.agg #[.slice na nl nc, .slice ea el ec, .int .i64 nx], .agg #[.slice ma ml mc, .slice fa fl fc, .int .i64 mx]] W fun e w' => e = .returned (.tuple #[.agg #[.slice none 0 0, .slice none 0 0, .slice none 0 0, .slice none 0 0, .int .i64 0, .int .i64 0], .int .i64 er]) ∧ Below W.heap.size W w' := by
  refine (between_any [] [] [] [] na nl nc ea el ec nx ma ml mc fa fl fc mx (gE N1 E1 nx) (gE N2 E2 mx) er W (fun V kV => check_ok h1 nc ec nx V (k.trans (kV.mono k.size))) (fun V kV => check_ok h2 mc fc mx V (k.trans (kV.mono k.size))) her (fun h => absurd h h0)).mono ?_
  rintro e w' ⟨⟨v, rfl, hv, _⟩, kk⟩
  rw [hv h0]
  exact ⟨rfl, kk⟩

/-- Two graphs that are right. -/
theorem between_good {N1 : List Nd} {E1 : List Ed} {N2 : List Nd} {E2 : List Ed} {na : Option Addr} {nl : Nat} {ea : Option Addr} {el : Nat} {ma : Option Addr} {ml : Nat} {fa : Option Addr} {fl : Nat} {w : World} (h1 : GrOk w N1 E1 na nl ea el) (h2 : GrOk w N2 E2 ma ml fa fl) (nc ec : Nat) (nx : Int) (mc fc : Nat) (mx : Int) (e1 : gE N1 E1 nx = 0) (e2 : gE N2 E2 mx = 0)
    {XN YN : List AN} {XE YE : List AE} (p1 : NsAt w XN na nl) (p2 : EsAt w XE ea el) (p3 : NsAt w YN ma ml) (p4 : EsAt w YE fa fl) (o1 : ∀ x ∈ XN, x.ok) (o2 : ∀ x ∈ XE, x.ok) (o3 : ∀ x ∈ YN, x.ok) (o4 : ∀ x ∈ YE, x.ok) (l1 : nl ≤ 40) (l2 : el ≤ 60) (l3 : ml ≤ 40) (l4 : fl ≤ 60) (W : World) (k : Below w.heap.size w W) :
    Calls Tryz.prog 18 #[.agg #[.slice na nl nc, .slice ea el ec, .int .i64 nx], .agg #[.slice ma ml mc, .slice fa fl fc, .int .i64 mx]] W fun e w' => (∃ v, e = .returned (.tuple #[v, .int .i64 0]) ∧ DOwnV W w' (lackL sameN XN YN) (lackL sameN YN XN) (lackL sameE XE YE) (lackL sameE YE XE) nx mx v) ∧ Below W.heap.size W w' := by
  refine (between_any XN XE YN YE na nl nc ea el ec nx ma ml mc fa fl fc mx 0 0 0 W (fun V kV => by have := check_ok h1 nc ec nx V (k.trans (kV.mono k.size)); rw [e1] at this; exact this) (fun V kV => by have := check_ok h2 mc fc mx V (k.trans (kV.mono k.size)); rw [e2] at this; exact this) rfl (fun _ => ⟨p1.below k, p2.below k, p3.below k, p4.below k, ⟨by omega, by omega, by omega, by omega⟩, o1, o2, o3, o4⟩)).mono ?_
  rintro e w' ⟨⟨v, rfl, _, hv⟩, kk⟩
  exact ⟨⟨v, rfl, hv rfl⟩, kk⟩

theorem lack_ok {G N : List AN} {H E : List AE} (o1 : ∀ x ∈ G, x.ok) (o2 : ∀ x ∈ N, x.ok) (o3 : ∀ x ∈ H, x.ok) (o4 : ∀ x ∈ E, x.ok) : DOk (lackL sameN G N) (lackL sameN N G) (lackL sameE H E) (lackL sameE E H) :=
  ⟨fun x hx => o1 x (lackL_mem hx), fun x hx => o2 x (lackL_mem hx), fun x hx => o3 x (lackL_mem hx), fun x hx => o4 x (lackL_mem hx)⟩

/-- What is turned back, at lengths that are letters. -/
theorem back_at {G N : List AN} {H E : List AE} (ho : DOk G N H E) {gn nn hn en : Nat} (hl : gn = G.length ∧ nn = N.length ∧ hn = H.length ∧ en = E.length) (hs : gn ≤ 1000 ∧ nn ≤ 1000 ∧ hn ≤ 1000 ∧ en ≤ 1000) {W : World} {ga : Option Addr} {na : Option Addr} {ha : Option Addr} {ea : Option Addr} (h : DAt W G N H E ga gn na nn ha hn ea en) (gc nc hc ec : Nat) (f t : Int) :
    Calls Tryz.prog 24 #[.agg #[.slice ga gn gc, .slice na nn nc, .slice ha hn hc, .slice ea en ec, .int .i64 f, .int .i64 t]] W fun e w' => (∃ a1 c1 a2 c2 a3 c3 a4 c4, e = .returned (.agg #[.slice a1 nn c1, .slice a2 gn c2, .slice a3 en c3, .slice a4 hn c4, .int .i64 t, .int .i64 f]) ∧ DAt w' N G E H a1 nn a2 gn a3 en a4 hn) ∧ Below W.heap.size W w' := by
  refine (back_any G N H E ga gn gc na nn nc ha hn hc ea en ec f t W h.1 h.2.1 h.2.2.1 h.2.2.2 hs.1 hs.2.1 hs.2.2.1 hs.2.2.2 ho.1 ho.2.1 ho.2.2.1 ho.2.2.2).mono ?_
  rintro e w' ⟨⟨v, rfl, a1, c1, a2, c2, a3, c3, a4, c4, rfl, q1, q2, q3, q4⟩, k⟩
  obtain ⟨rfl, rfl, rfl, rfl⟩ := hl
  exact ⟨⟨a1, c1, a2, c2, a3, c3, a4, c4, rfl, q1, q2, q3, q4⟩, k⟩

/-- The same difference, twice in memory. -/
theorem same_at {G N : List AN} {H E : List AE} (ho : DOk G N H E) {gn nn hn en : Nat} {W : World} {ga : Option Addr} {na : Option Addr} {ha : Option Addr} {ea : Option Addr} (h : DAt W G N H E ga gn na nn ha hn ea en) {ia ja ka la : Option Addr} (h' : DAt W G N H E ia gn ja nn ka hn la en) (gc nc hc ec ic jc kc lc : Nat) (f t : Int) :
    Calls Tryz.prog 19 #[.agg #[.slice ga gn gc, .slice na nn nc, .slice ha hn hc, .slice ea en ec, .int .i64 f, .int .i64 t], .agg #[.slice ia gn ic, .slice ja nn jc, .slice ka hn kc, .slice la en lc, .int .i64 f, .int .i64 t]] W fun e w' => e = .returned (.bool true) ∧ Below W.heap.size W w' := by
  have := sameDelta_any G N G N H E H E ga gn gc na nn nc ha hn hc ea en ec f t ia gn ic ja nn jc ka hn kc la en lc f t W h.1 h.2.1 h.2.2.1 h.2.2.2 h'.1 h'.2.1 h'.2.2.1 h'.2.2.2 ho.1 ho.2.1 ho.2.2.1 ho.2.2.2 ho.1 ho.2.1 ho.2.2.1 ho.2.2.2
  rw [eqB_self _ sameN_self, eqB_self _ sameN_self, eqB_self _ sameE_self, eqB_self _ sameE_self] at this
  simpa using this

theorem ops_none (w : World) : OpsAt w [] none 0 := ⟨rfl, by omega, fun h => absurd h (Nat.lt_irrefl _)⟩

/-- No operations: the graph, laid anew. -/
theorem apply_none {XN : List AN} {XE : List AE} {na : Option Addr} {nl nc : Nat} {ea : Option Addr} {el ec : Nat} {nx : Int} {w : World} (hC : ∀ W, Below w.heap.size w W → Calls Tryz.prog 30 #[.agg #[.slice na nl nc, .slice ea el ec, .int .i64 nx]] W fun e w' => e = .returned (.int .i64 0) ∧ Below W.heap.size W w') (p1 : NsAt w XN na nl) (p2 : EsAt w XE ea el) (o1 : ∀ x ∈ XN, x.ok) (o2 : ∀ x ∈ XE, x.ok) (l1 : nl ≤ 40) (l2 : el ≤ 60) (W : World) (k : Below w.heap.size w W) {xl yl : Nat} (hxl : xl = XN.length) (hyl : yl = XE.length) :
    Calls Tryz.prog 10 #[.agg #[.slice na nl nc, .slice ea el ec, .int .i64 nx], .slice none 0 0] W fun e w' => (∃ a1 c1 a2 c2 a3 c3, e = .returned (.tuple #[.agg #[.slice a1 xl c1, .slice a2 yl c2, .int .i64 nx], .slice a3 0 c3, .int .i64 0, .int .i64 0]) ∧ NsAt w' XN a1 xl ∧ EsAt w' XE a2 yl) ∧ Below W.heap.size W w' := by
  refine (apply_of XN XE nx na nl nc ea el ec [] none 0 0 (fun _ => 0) (fun _ => ⟨XN, XE, nx, []⟩) W (fun V kV => hC V (k.trans (kV.mono k.size))) (p1.below k) (p2.below k) (by omega) (by omega) o1 o2 (ops_none W) (by omega) rfl (fun _ => by show 0 ≤ _; omega) (fun i o hi => by simp at hi)).mono ?_
  rintro e w' ⟨hA, kk⟩
  subst hxl hyl
  rcases hA with ⟨i, hi, _⟩ | ⟨_, a1, c1, a2, c2, a3, c3, rfl, _, q1, _, q2, _⟩
  · omega
  · exact ⟨⟨a1, c1, a2, c2, a3, c3, rfl, q1, q2⟩, kk⟩

def MinEndN (v W w' : World) (X : List AN) (e : Ending) : Prop := ∃ x, e = .returned x ∧ ∃ N, w'.ownsRow W.heap.size 49 3 x N.length (rowN N) ∧ Pair2 (NdIn v) N X
def MinEndE (v W w' : World) (X : List AE) (e : Ending) : Prop := ∃ x, e = .returned x ∧ ∃ N, w'.ownsRow W.heap.size 53 5 x N.length (rowX N) ∧ Pair2 (EdIn v) N X

set_option maxHeartbeats 4000000 in
set_option maxRecDepth 100000 in
theorem minusN_base (X Y : List AN) (a : Option Addr) (l c : Nat) (a' : Option Addr) (l' c' : Nat) (v w : World) (kv : Below v.heap.size v w) (hX : NsAt v X a l) (hY : NsAt w Y a' l') (hl : l ≤ 1000) (hx : ∀ x ∈ X, x.ok) (hy : ∀ y ∈ Y, y.ok) :
    Calls Tryz.prog 20 #[.slice a l c, .slice a' l' c', .func (.func 21) #[] #[]] w fun e w' => MinEndN v w w' (lackL sameN X Y) e ∧ Below w.heap.size w w' := by
  obtain ⟨A, hA⟩ : ∃ A, A = lackL sameN X Y := ⟨_, rfl⟩
  rw [← hA]
  obtain ⟨P0, hnv, hpair⟩ := hX
  obtain ⟨hl0, hmx, hat⟩ := hnv.below kv
  have HKV := toHid kv
  have HAT := toHid hat
  have HL := toHid hl0
  have HPAIR := toHid hpair
  have HXL : Hid (X.length = l) := by rw [HL.out]; exact HPAIR.out.1.symm
  have HOK := toHid hx
  have HYA := toHid hY
  have HYO := toHid hy
  have HA := toHid (show A = [] ++ lackL sameN (X.drop 0) Y from hA)
  clear hat hl0 hpair hx hY hy hA hnv kv
  obtain ⟨i0, hi0, hiz, his, hib⟩ := info_Node
  have HI0 := toHid hi0
  have HIZ := toHid hiz
  have HIS := toHid his
  have HIB := toHid hib
  clear hi0 hiz his hib
  have b0 : Below w.heap.size w (w.alloc (.cells #[.func (.func 21) #[] #[]] 50)) := (Below.refl _ _).alloc (Nat.le_refl _) _
  have z0 : (w.alloc (.cells #[.func (.func 21) #[] #[]] 50)).heap.size = w.heap.size + 1 := by simp
  have hfx := alloc_new w (.cells #[.func (.func 21) #[] #[]] 50)
  have B0 := toHid b0
  have Z0 := toHid z0
  have HFX := toHid (cell_of hfx 0)
  clear b0 z0 hfx
  go_enter Tryz.func20, Tryz.ntmps20
  go_wp2_with fail
  generalize w.alloc (.cells #[.func (.func 21) #[] #[]] 50) = W0 at B0 Z0 HFX ⊢
  go_loopg [7, 12] l (fun g s7 s12 wr => ∃ (i : Nat) (acc : List Nd) (XA : List AN) (ov : Value), i ≤ l ∧ l - i ≤ g ∧ ov = s7 ∧ s12 = .int .i64 i ∧ acc.length ≤ i ∧ wr.ownsRow (w.heap.size + 1) 49 3 ov acc.length (rowN acc) ∧ Below (w.heap.size + 1) W0 wr ∧ Pair2 (NdIn v) acc XA ∧ A = XA ++ lackL sameN (X.drop i) Y)
  case atStart => exact ⟨0, [], [], .slice none 0 0, Nat.zero_le _, by omega, rfl, rfl, Nat.le_refl _, World.ownsRow_nil _ _ _ _, Below.refl _ _, Pair2.nil, HA.out⟩
  case round =>
    clear HA
    obtain ⟨i, acc, XA, ov, hi, hg, rfl, rfl, hai, hown, hbw, hpr, hfe⟩ := hrel
    have HOWN := toHid hown
    have HPR := toHid hpr
    have HFE := toHid hfe
    clear hown hpr hfe
    have hz : w.heap.size + 1 ≤ wr.heap.size := by have := hbw.size; rw [Z0.out] at this; exact this
    have hw0 : Below w.heap.size w wr := B0.out.trans (hbw.mono (by omega))
    have HFB : Hid (wr.cell? ⟨w.heap.size, 0, none⟩ = some (.func (.func 21) #[] #[])) := (hbw.cell (p := ⟨w.heap.size, 0, none⟩) (Nat.lt_succ_self _)).trans HFX.out
    by_cases hlt : i < l
    · obtain ⟨b, off, ha, hb, hc⟩ := HAT.out (by omega)
      subst ha
      obtain ⟨p, hp, _⟩ := drop_get (L := P0) (i := i) (by have := HL.out; omega)
      obtain ⟨x, hx, hpx⟩ := HPAIR.out.left hp
      obtain ⟨c0, c1, c2⟩ := hc i p hp
      have qq : ∀ o, wr.cell? ⟨b, o, none⟩ = w.cell? ⟨b, o, none⟩ := fun o => hw0.cell (p := ⟨b, o, none⟩) hb
      have d0 := (qq _).trans c0
      have d1 := (qq _).trans c1
      have d2 := (qq _).trans c2
      have hdx : X.drop i = x :: X.drop (i + 1) := by
        obtain ⟨z, hz, hd⟩ := drop_get (L := X) (i := i) (by have := HXL.out; omega)
        rw [hx] at hz
        injection hz with hz
        rw [hz]
        exact hd
      have HXO : Hid x.ok := HOK.out x (List.mem_of_getElem? hx)
      have H4 := toHid (show A = XA ++ (if Y.any (sameN x) = true then lackL sameN (X.drop (i + 1)) Y else x :: lackL sameN (X.drop (i + 1)) Y) by rw [HFE.out, hdx, lackL_cons])
      have HPX := toHid hpx
      clear hc hp hx hpx c0 c1 c2 qq hdx HFE
      have hil : (i : Int) < l := by omega
      have hb1 : Below (w.heap.size + 1) W0 (wr.alloc (.cells #[.int .i64 p.id, .slice p.la p.ll p.lc, .slice p.pa p.pl p.pc] 49)) := hbw.alloc hz _
      have hxb := alloc_new wr (.cells #[.int .i64 p.id, .slice p.la p.ll p.lc, .slice p.pa p.pl p.pc] 49)
      have hz1 : (wr.alloc (.cells #[.int .i64 p.id, .slice p.la p.ll p.lc, .slice p.pa p.pl p.pc] 49)).heap.size = wr.heap.size + 1 := by simp
      have HOWN1 := toHid (HOWN.out.alloc (.cells #[.int .i64 p.id, .slice p.la p.ll p.lc, .slice p.pa p.pl p.pc] 49))
      have hfb1 : (wr.alloc (.cells #[.int .i64 p.id, .slice p.la p.ll p.lc, .slice p.pa p.pl p.pc] 49)).cell? ⟨w.heap.size, 0, none⟩ = some (.func (.func 21) #[] #[]) := (((Below.refl wr.heap.size wr).alloc (Nat.le_refl _) _).cell (p := ⟨w.heap.size, 0, none⟩) (by show w.heap.size < wr.heap.size; omega)).trans HFB.out
      have hw1 : Below w.heap.size w (wr.alloc (.cells #[.int .i64 p.id, .slice p.la p.ll p.lc, .slice p.pa p.pl p.pc] 49)) := hw0.alloc (by omega) _
      have HC := toHid (minusN_has p x Y a' l' c' w.heap.size wr.heap.size (wr.alloc (.cells #[.int .i64 p.id, .slice p.la p.ll p.lc, .slice p.pa p.pl p.pc] 49)) ((HPX.out.below HKV.out).below hw1) (HYA.out.below hw1) HXO.out HYO.out hfb1 (by rw [hz1]; omega) hxb)
      have HB1 := toHid hb1
      have HXB := toHid hxb
      have HZ1 := toHid hz1
      clear hb1 hxb hz1 hfb1 hw1
      go_wp2_with fail
      refine HC.out.mono ?_
      generalize wr.alloc (.cells #[.int .i64 p.id, .slice p.la p.ll p.lc, .slice p.pa p.pl p.pc] 49) = W1 at HB1 HXB HZ1 HOWN1 HC ⊢
      rintro e w2 ⟨rfl, k2⟩
      have hs2 : wr.heap.size + 1 ≤ w2.heap.size := by have := k2.size; rw [HZ1.out] at this; exact this
      have hxb2 := (k2.block wr.heap.size (by rw [HZ1.out]; omega)).trans HXB.out
      have HB2 := toHid (HB1.out.trans (k2.mono (by rw [HZ1.out]; omega)))
      have OWN2 := toHid (row_keep HOWN1.out (w' := w2) (fun g hg hgl => k2.block g hgl))
      clear k2 d0 d1 d2 HC
      cases hs : Y.any (sameN x) with
      | true =>
        have H5 := toHid (show A = XA ++ lackL sameN (X.drop (i + 1)) Y by rw [H4.out, if_pos hs])
        clear H4 hs hxb2
        go_wp2_with fail
        go_roundg (l - (i + 1))
        case measure => omega
        case rel => exact ⟨i + 1, acc, XA, ov, by omega, by omega, rfl, by go_num, by omega, OWN2.out, HB2.out, HPR.out, H5.out⟩
      | false =>
        have H5 := toHid (show A = (XA ++ [x]) ++ lackL sameN (X.drop (i + 1)) Y by rw [H4.out, if_neg (by rw [hs]; decide), List.append_assoc]; rfl)
        clear H4 hs
        have x0 := cell_of hxb2 0
        have x1 := cell_of hxb2 1
        have x2 := cell_of hxb2 2
        simp at x0 x1 x2
        clear hxb2
        have hxl : wr.heap.size < w2.heap.size := by omega
        have HBy : (acc.length + 1) * 56 ≤ 140737488355328 := by omega
        have HBm : acc.length + 1 ≤ maxLen := by unfold maxLen; omega
        go_wp2_with (at_builtin; refine wpList_append_lies _ rfl _ _ 22 rfl (w.heap.size + 1) 49 i0 _ 3 56 Tryz.underlying22 HI0.out HIZ.out HIS.out HIB.out rfl (by omega) ov acc.length (rowN acc) rfl (OWN2.out.alloc _) ⟨w2.heap.size, 0, none⟩ 1 1 [.int .i64 p.id, .slice p.la p.ll p.lc, .slice p.pa p.pl p.pc] rfl rfl (World.news_of_block (cs := #[.int .i64 p.id, .slice p.la p.ll p.lc, .slice p.pa p.pl p.pc]) (t := 49) (fr := (0, 0)) (alloc_new w2 _)) (by simp [Value.oneCell']) (by omega) HBm HBy (by simp; omega) (w2.heap.size + 1) (by simp) ?_)
        intro gg cap w5 hown5 hgrow hat5 hlt5
        have hb6 : Below (w.heap.size + 1) W0 w5 := (HB2.out.alloc (by omega) _).grown hgrow (by simp; omega) (fun j hj => (by
          rcases HOWN.out.2 with ⟨h0, _⟩ | ⟨g', cap, cur, h0, h1, _⟩
          · rw [h0] at hj; cases hj
          · rw [h0] at hj
            have : g' = j := by simpa [Value.ownBlock] using hj
            subst this
            exact h1))
        have HOWN5 : Hid (w5.ownsRow (w.heap.size + 1) 49 3 (.slice (some ⟨gg, 0, none⟩) (acc.length + 1) cap) (acc.length + 1) (rowN (acc ++ [p]))) := by
          rw [rowN_snoc]
          exact hown5
        clear hown5 hgrow hat5 hlt5 x0 x1 x2
        go_wp2_with fail
        go_roundg (l - (i + 1))
        case measure => omega
        case rel => exact ⟨i + 1, acc ++ [p], XA ++ [x], .slice (some ⟨gg, 0, none⟩) (acc.length + 1) cap, by omega, by omega, rfl, by go_num, (by rw [List.length_append, List.length_singleton]; omega), (by rw [List.length_append, List.length_singleton]; exact HOWN5.out), hb6, HPR.out.snoc HPX.out, H5.out⟩
    · have H3 := toHid (show A = XA by rw [HFE.out, List.drop_eq_nil_of_le (by have := HXL.out; omega)]; simp [lackL])
      clear HFE
      have HFIN : Hid (∃ N, wr.ownsRow w.heap.size 49 3 ov N.length (rowN N) ∧ Pair2 (NdIn v) N A) := ⟨acc, ⟨HOWN.out.1, HOWN.out.2.elim .inl (fun ⟨g, cap, cur, e1, e2, e3⟩ => .inr ⟨g, cap, cur, e1, by omega, e3⟩)⟩, by rw [H3.out]; exact HPR.out⟩
      clear HPR HOWN H3
      go_wp2_with fail
      go_ret
      exact ⟨⟨ov, rfl, HFIN.out⟩, hw0⟩


set_option maxHeartbeats 4000000 in
set_option maxRecDepth 100000 in
theorem minusE_base (X Y : List AE) (a : Option Addr) (l c : Nat) (a' : Option Addr) (l' c' : Nat) (v w : World) (kv : Below v.heap.size v w) (hX : EsAt v X a l) (hY : EsAt w Y a' l') (hl : l ≤ 1000) (hx : ∀ x ∈ X, x.ok) (hy : ∀ y ∈ Y, y.ok) :
    Calls Tryz.prog 22 #[.slice a l c, .slice a' l' c', .func (.func 23) #[] #[]] w fun e w' => MinEndE v w w' (lackL sameE X Y) e ∧ Below w.heap.size w w' := by
  obtain ⟨A, hA⟩ : ∃ A, A = lackL sameE X Y := ⟨_, rfl⟩
  rw [← hA]
  obtain ⟨P0, hnv, hpair⟩ := hX
  obtain ⟨hl0, hmx, hat⟩ := hnv.below kv
  have HKV := toHid kv
  have HAT := toHid hat
  have HL := toHid hl0
  have HPAIR := toHid hpair
  have HXL : Hid (X.length = l) := by rw [HL.out]; exact HPAIR.out.1.symm
  have HOK := toHid hx
  have HYA := toHid hY
  have HYO := toHid hy
  have HA := toHid (show A = [] ++ lackL sameE (X.drop 0) Y from hA)
  clear hat hl0 hpair hx hY hy hA hnv kv
  obtain ⟨i0, hi0, hiz, his, hib⟩ := info_Edge
  have HI0 := toHid hi0
  have HIZ := toHid hiz
  have HIS := toHid his
  have HIB := toHid hib
  clear hi0 hiz his hib
  have b0 : Below w.heap.size w (w.alloc (.cells #[.func (.func 23) #[] #[]] 54)) := (Below.refl _ _).alloc (Nat.le_refl _) _
  have z0 : (w.alloc (.cells #[.func (.func 23) #[] #[]] 54)).heap.size = w.heap.size + 1 := by simp
  have hfx := alloc_new w (.cells #[.func (.func 23) #[] #[]] 54)
  have B0 := toHid b0
  have Z0 := toHid z0
  have HFX := toHid (cell_of hfx 0)
  clear b0 z0 hfx
  go_enter Tryz.func22, Tryz.ntmps22
  go_wp2_with fail
  generalize w.alloc (.cells #[.func (.func 23) #[] #[]] 54) = W0 at B0 Z0 HFX ⊢
  go_loopg [7, 12] l (fun g s7 s12 wr => ∃ (i : Nat) (acc : List Ed) (XA : List AE) (ov : Value), i ≤ l ∧ l - i ≤ g ∧ ov = s7 ∧ s12 = .int .i64 i ∧ acc.length ≤ i ∧ wr.ownsRow (w.heap.size + 1) 53 5 ov acc.length (rowX acc) ∧ Below (w.heap.size + 1) W0 wr ∧ Pair2 (EdIn v) acc XA ∧ A = XA ++ lackL sameE (X.drop i) Y)
  case atStart => exact ⟨0, [], [], .slice none 0 0, Nat.zero_le _, by omega, rfl, rfl, Nat.le_refl _, World.ownsRow_nil _ _ _ _, Below.refl _ _, Pair2.nil, HA.out⟩
  case round =>
    clear HA
    obtain ⟨i, acc, XA, ov, hi, hg, rfl, rfl, hai, hown, hbw, hpr, hfe⟩ := hrel
    have HOWN := toHid hown
    have HPR := toHid hpr
    have HFE := toHid hfe
    clear hown hpr hfe
    have hz : w.heap.size + 1 ≤ wr.heap.size := by have := hbw.size; rw [Z0.out] at this; exact this
    have hw0 : Below w.heap.size w wr := B0.out.trans (hbw.mono (by omega))
    have HFB : Hid (wr.cell? ⟨w.heap.size, 0, none⟩ = some (.func (.func 23) #[] #[])) := (hbw.cell (p := ⟨w.heap.size, 0, none⟩) (Nat.lt_succ_self _)).trans HFX.out
    by_cases hlt : i < l
    · obtain ⟨b, off, ha, hb, hc⟩ := HAT.out (by omega)
      subst ha
      obtain ⟨p, hp, _⟩ := drop_get (L := P0) (i := i) (by have := HL.out; omega)
      obtain ⟨x, hx, hpx⟩ := HPAIR.out.left hp
      obtain ⟨hsz, c0, c1, c2, c3, c4⟩ := hc i p hp
      have qq : ∀ o, wr.cell? ⟨b, o, none⟩ = w.cell? ⟨b, o, none⟩ := fun o => hw0.cell (p := ⟨b, o, none⟩) hb
      have d0 := (qq _).trans c0
      have d1 := (qq _).trans c1
      have d2 := (qq _).trans c2
      have d3 := (qq _).trans c3
      have d4 := (qq _).trans c4
      have hdx : X.drop i = x :: X.drop (i + 1) := by
        obtain ⟨z, hz, hd⟩ := drop_get (L := X) (i := i) (by have := HXL.out; omega)
        rw [hx] at hz
        injection hz with hz
        rw [hz]
        exact hd
      have HXO : Hid x.ok := HOK.out x (List.mem_of_getElem? hx)
      have H4 := toHid (show A = XA ++ (if Y.any (sameE x) = true then lackL sameE (X.drop (i + 1)) Y else x :: lackL sameE (X.drop (i + 1)) Y) by rw [HFE.out, hdx, lackL_cons])
      have HPX := toHid hpx
      clear hc hp hx hpx c0 c1 c2 c3 c4 qq hdx HFE
      have hil : (i : Int) < l := by omega
      have hb1 : Below (w.heap.size + 1) W0 (wr.alloc (.cells #[.int .i64 p.id, .int .i64 p.frm, .int .i64 p.dst, .string p.typ, .slice p.pa p.pl p.pc] 53)) := hbw.alloc hz _
      have hxb := alloc_new wr (.cells #[.int .i64 p.id, .int .i64 p.frm, .int .i64 p.dst, .string p.typ, .slice p.pa p.pl p.pc] 53)
      have hz1 : (wr.alloc (.cells #[.int .i64 p.id, .int .i64 p.frm, .int .i64 p.dst, .string p.typ, .slice p.pa p.pl p.pc] 53)).heap.size = wr.heap.size + 1 := by simp
      have HOWN1 := toHid (HOWN.out.alloc (.cells #[.int .i64 p.id, .int .i64 p.frm, .int .i64 p.dst, .string p.typ, .slice p.pa p.pl p.pc] 53))
      have hfb1 : (wr.alloc (.cells #[.int .i64 p.id, .int .i64 p.frm, .int .i64 p.dst, .string p.typ, .slice p.pa p.pl p.pc] 53)).cell? ⟨w.heap.size, 0, none⟩ = some (.func (.func 23) #[] #[]) := (((Below.refl wr.heap.size wr).alloc (Nat.le_refl _) _).cell (p := ⟨w.heap.size, 0, none⟩) (by show w.heap.size < wr.heap.size; omega)).trans HFB.out
      have hw1 : Below w.heap.size w (wr.alloc (.cells #[.int .i64 p.id, .int .i64 p.frm, .int .i64 p.dst, .string p.typ, .slice p.pa p.pl p.pc] 53)) := hw0.alloc (by omega) _
      have HC := toHid (minusE_has p x Y a' l' c' w.heap.size wr.heap.size (wr.alloc (.cells #[.int .i64 p.id, .int .i64 p.frm, .int .i64 p.dst, .string p.typ, .slice p.pa p.pl p.pc] 53)) ((HPX.out.below HKV.out).below hw1) (HYA.out.below hw1) HXO.out HYO.out hfb1 (by rw [hz1]; omega) hxb)
      have HB1 := toHid hb1
      have HXB := toHid hxb
      have HZ1 := toHid hz1
      clear hb1 hxb hz1 hfb1 hw1
      go_wp2_with fail
      refine HC.out.mono ?_
      generalize wr.alloc (.cells #[.int .i64 p.id, .int .i64 p.frm, .int .i64 p.dst, .string p.typ, .slice p.pa p.pl p.pc] 53) = W1 at HB1 HXB HZ1 HOWN1 HC ⊢
      rintro e w2 ⟨rfl, k2⟩
      have hs2 : wr.heap.size + 1 ≤ w2.heap.size := by have := k2.size; rw [HZ1.out] at this; exact this
      have hxb2 := (k2.block wr.heap.size (by rw [HZ1.out]; omega)).trans HXB.out
      have HB2 := toHid (HB1.out.trans (k2.mono (by rw [HZ1.out]; omega)))
      have OWN2 := toHid (row_keep HOWN1.out (w' := w2) (fun g hg hgl => k2.block g hgl))
      clear k2 d0 d1 d2 d3 d4 HC
      cases hs : Y.any (sameE x) with
      | true =>
        have H5 := toHid (show A = XA ++ lackL sameE (X.drop (i + 1)) Y by rw [H4.out, if_pos hs])
        clear H4 hs hxb2
        go_wp2_with fail
        go_roundg (l - (i + 1))
        case measure => omega
        case rel => exact ⟨i + 1, acc, XA, ov, by omega, by omega, rfl, by go_num, by omega, OWN2.out, HB2.out, HPR.out, H5.out⟩
      | false =>
        have H5 := toHid (show A = (XA ++ [x]) ++ lackL sameE (X.drop (i + 1)) Y by rw [H4.out, if_neg (by rw [hs]; decide), List.append_assoc]; rfl)
        clear H4 hs
        have x0 := cell_of hxb2 0
        have x1 := cell_of hxb2 1
        have x2 := cell_of hxb2 2
        have x3 := cell_of hxb2 3
        have x4 := cell_of hxb2 4
        simp at x0 x1 x2 x3 x4
        clear hxb2
        have hxl : wr.heap.size < w2.heap.size := by omega
        have HBy : (acc.length + 1) * 64 ≤ 140737488355328 := by omega
        have HBm : acc.length + 1 ≤ maxLen := by unfold maxLen; omega
        go_wp2_with (at_builtin; refine wpList_append_lies _ rfl _ _ 23 rfl (w.heap.size + 1) 53 i0 _ 5 64 Tryz.underlying23 HI0.out HIZ.out HIS.out HIB.out rfl (by omega) ov acc.length (rowX acc) rfl (OWN2.out.alloc _) ⟨w2.heap.size, 0, none⟩ 1 1 [.int .i64 p.id, .int .i64 p.frm, .int .i64 p.dst, .string p.typ, .slice p.pa p.pl p.pc] rfl rfl (World.news_of_block (cs := #[.int .i64 p.id, .int .i64 p.frm, .int .i64 p.dst, .string p.typ, .slice p.pa p.pl p.pc]) (t := 53) (fr := (0, 0)) (alloc_new w2 _)) (by simp [Value.oneCell']) (by omega) HBm HBy (by simp; omega) (w2.heap.size + 1) (by simp) ?_)
        intro gg cap w5 hown5 hgrow hat5 hlt5
        have hb6 : Below (w.heap.size + 1) W0 w5 := (HB2.out.alloc (by omega) _).grown hgrow (by simp; omega) (fun j hj => (by
          rcases HOWN.out.2 with ⟨h0, _⟩ | ⟨g', cap, cur, h0, h1, _⟩
          · rw [h0] at hj; cases hj
          · rw [h0] at hj
            have : g' = j := by simpa [Value.ownBlock] using hj
            subst this
            exact h1))
        have HOWN5 : Hid (w5.ownsRow (w.heap.size + 1) 53 5 (.slice (some ⟨gg, 0, none⟩) (acc.length + 1) cap) (acc.length + 1) (rowX (acc ++ [p]))) := by
          rw [rowX_snoc]
          exact hown5
        clear hown5 hgrow hat5 hlt5 x0 x1 x2 x3 x4
        go_wp2_with fail
        go_roundg (l - (i + 1))
        case measure => omega
        case rel => exact ⟨i + 1, acc ++ [p], XA ++ [x], .slice (some ⟨gg, 0, none⟩) (acc.length + 1) cap, by omega, by omega, rfl, by go_num, (by rw [List.length_append, List.length_singleton]; omega), (by rw [List.length_append, List.length_singleton]; exact HOWN5.out), hb6, HPR.out.snoc HPX.out, H5.out⟩
    · have H3 := toHid (show A = XA by rw [HFE.out, List.drop_eq_nil_of_le (by have := HXL.out; omega)]; simp [lackL])
      clear HFE
      have HFIN : Hid (∃ N, wr.ownsRow w.heap.size 53 5 ov N.length (rowX N) ∧ Pair2 (EdIn v) N A) := ⟨acc, ⟨HOWN.out.1, HOWN.out.2.elim .inl (fun ⟨g, cap, cur, e1, e2, e3⟩ => .inr ⟨g, cap, cur, e1, by omega, e3⟩)⟩, by rw [H3.out]; exact HPR.out⟩
      clear HPR HOWN H3
      go_wp2_with fail
      go_ret
      exact ⟨⟨ov, rfl, HFIN.out⟩, hw0⟩

theorem row_base {w : World} {B n size : Nat} {e : TypeId} {v : Value} {xs : List Value} (h : w.ownsRow B e size v n xs) {g : Nat} (hg : v.ownBlock = some g) : B ≤ g := by
  rcases h.2 with ⟨h0, _⟩ | ⟨g', cap, cur, h0, h1, _⟩
  · rw [h0] at hg; cases hg
  · rw [h0] at hg
    have : g' = g := by simpa [Value.ownBlock] using hg
    subst this
    exact h1

theorem nrow_at {V u wx : World} {B : Nat} {G : List AN} {L : List Nd} {a : Option Addr} {gn c : Nat} (hr : u.ownsRow B 49 3 (.slice a gn c) L.length (rowN L)) (hp : Pair2 (NdIn V) L G) (k : Below V.heap.size V wx) (hs : ∀ g, B ≤ g → g < u.heap.size → wx.heap[g]? = u.heap[g]?) : NsAt wx G a gn := by
  have hr' : wx.ownsRow B 49 3 (.slice a gn c) L.length (rowN L) := row_keep hr fun g hg hl => hs g (row_base hr hg) hl
  exact ⟨L, row_nodes hr', hp.mono fun p x _ _ h => h.below k⟩

theorem erow_at {V u wx : World} {B : Nat} {G : List AE} {L : List Ed} {a : Option Addr} {gn c : Nat} (hr : u.ownsRow B 53 5 (.slice a gn c) L.length (rowX L)) (hp : Pair2 (EdIn V) L G) (k : Below V.heap.size V wx) (hs : ∀ g, B ≤ g → g < u.heap.size → wx.heap[g]? = u.heap[g]?) : EsAt wx G a gn := by
  have hr' : wx.ownsRow B 53 5 (.slice a gn c) L.length (rowX L) := row_keep hr fun g hg hl => hs g (row_base hr hg) hl
  refine ⟨L, row_edges hr' (fun p hp' => ?_), hp.mono fun p x _ _ h => h.below k⟩
  obtain ⟨i, hi⟩ := List.getElem?_of_mem hp'
  obtain ⟨x, _, hx⟩ := hp.left hi
  exact hx.2.2.2.2.1

/-- The answer of minus, in letters. -/
def MinN (V W w' : World) (G : List AN) (gn : Nat) (e : Ending) : Prop := ∃ a c L, e = .returned (.slice a gn c) ∧ w'.ownsRow W.heap.size 49 3 (.slice a gn c) L.length (rowN L) ∧ Pair2 (NdIn V) L G
def MinE (V W w' : World) (G : List AE) (gn : Nat) (e : Ending) : Prop := ∃ a c L, e = .returned (.slice a gn c) ∧ w'.ownsRow W.heap.size 53 5 (.slice a gn c) L.length (rowX L) ∧ Pair2 (EdIn V) L G

theorem minN_at {X Y : List AN} {a : Option Addr} {l : Nat} {a' : Option Addr} {l' : Nat} {V W : World} (k : Below V.heap.size V W) (hX : NsAt V X a l) (hY : NsAt V Y a' l') (hl : l ≤ 1000) (hx : ∀ x ∈ X, x.ok) (hy : ∀ y ∈ Y, y.ok) {G : List AN} (hG : G = lackL sameN X Y) {gn : Nat} (hgn : gn = G.length) (c c' : Nat) :
    Calls Tryz.prog 20 #[.slice a l c, .slice a' l' c', .func (.func 21) #[] #[]] W fun e w' => MinN V W w' G gn e ∧ Below W.heap.size W w' := by
  refine (minusN_base X Y a l c a' l' c' V W k hX (hY.below k) hl hx hy).mono ?_
  rintro e w' ⟨⟨x, rfl, L, hr, hp⟩, kk⟩
  obtain ⟨a1, c1, rfl, _⟩ := slice_of_row hr
  rw [← hG] at hp
  have : L.length = gn := by rw [hgn]; exact hp.1
  refine ⟨⟨a1, c1, L, by rw [this], ?_, hp⟩, kk⟩
  rw [this] at hr ⊢
  exact hr

theorem minE_at {X Y : List AE} {a : Option Addr} {l : Nat} {a' : Option Addr} {l' : Nat} {V W : World} (k : Below V.heap.size V W) (hX : EsAt V X a l) (hY : EsAt V Y a' l') (hl : l ≤ 1000) (hx : ∀ x ∈ X, x.ok) (hy : ∀ y ∈ Y, y.ok) {G : List AE} (hG : G = lackL sameE X Y) {gn : Nat} (hgn : gn = G.length) (c c' : Nat) :
    Calls Tryz.prog 22 #[.slice a l c, .slice a' l' c', .func (.func 23) #[] #[]] W fun e w' => MinE V W w' G gn e ∧ Below W.heap.size W w' := by
  refine (minusE_base X Y a l c a' l' c' V W k hX (hY.below k) hl hx hy).mono ?_
  rintro e w' ⟨⟨x, rfl, L, hr, hp⟩, kk⟩
  obtain ⟨a1, c1, rfl, _⟩ := slice_of_row hr
  rw [← hG] at hp
  have : L.length = gn := by rw [hgn]; exact hp.1
  refine ⟨⟨a1, c1, L, by rw [this], ?_, hp⟩, kk⟩
  rw [this] at hr ⊢
  exact hr

set_option maxHeartbeats 4000000 in
theorem turnedBack_any (ga : Option Addr) (gl gc : Nat) (na : Option Addr) (nl nc : Nat) (ha : Option Addr) (hl hc : Nat) (ea : Option Addr) (el ec : Nat) (f t : Int) (w : World) :
    Calls Tryz.prog 25 #[.agg #[.slice ga gl gc, .slice na nl nc, .slice ha hl hc, .slice ea el ec, .int .i64 f, .int .i64 t]] w fun e w' => e = .returned (.agg #[.slice na nl nc, .slice ga gl gc, .slice ea el ec, .slice ha hl hc, .int .i64 t, .int .i64 f]) ∧ Below w.heap.size w w' := by
  go_enter Tryz.func25, Tryz.ntmps25
  go_wp2_with fail
  have E := alloc_two w (.cells #[.slice ga gl gc, .slice na nl nc, .slice ha hl hc, .slice ea el ec, .int .i64 f, .int .i64 t] 41) (.cells #[.slice na nl nc, .slice ga gl gc, .slice ea el ec, .slice ha hl hc, .int .i64 t, .int .i64 f] 41)
  have hbb : Below w.heap.size w ((w.alloc (.cells #[.slice ga gl gc, .slice na nl nc, .slice ha hl hc, .slice ea el ec, .int .i64 f, .int .i64 t] 41)).alloc (.cells #[.slice na nl nc, .slice ga gl gc, .slice ea el ec, .slice ha hl hc, .int .i64 t, .int .i64 f] 41)) := ((Below.refl _ _).alloc (Nat.le_refl _) _).alloc (by simp) _
  generalize (w.alloc (.cells #[.slice ga gl gc, .slice na nl nc, .slice ha hl hc, .slice ea el ec, .int .i64 f, .int .i64 t] 41)).alloc (.cells #[.slice na nl nc, .slice ga gl gc, .slice ea el ec, .slice ha hl hc, .int .i64 t, .int .i64 f] 41) = Y at E hbb ⊢
  have t0 := cell_of E 0
  have t1 := cell_of E 1
  have t2 := cell_of E 2
  have t3 := cell_of E 3
  have t4 := cell_of E 4
  have t5 := cell_of E 5
  simp at t0 t1 t2 t3 t4 t5
  exact bodyPost_ret (v := .agg #[.slice na nl nc, .slice ga gl gc, .slice ea el ec, .slice ha hl hc, .int .i64 t, .int .i64 f]) (by simp [results, Tryz.results25, go_sem, t0, t1, t2, t3, t4, t5]) rfl ⟨rfl, hbb⟩

theorem bset6 {B : Nat} {a u : World} (k : Below B a u) (p : Nat) (hp : B ≤ p) (v0 v1 v2 v3 v4 v5 : Value) : Below B a ((((((u.setCell ⟨p, 0, none⟩ v0).setCell ⟨p, 1, none⟩ v1).setCell ⟨p, 2, none⟩ v2).setCell ⟨p, 3, none⟩ v3).setCell ⟨p, 4, none⟩ v4).setCell ⟨p, 5, none⟩ v5) :=
  (((((k.setCell (p := ⟨p, 0, none⟩) hp v0).setCell (p := ⟨p, 1, none⟩) hp v1).setCell (p := ⟨p, 2, none⟩) hp v2).setCell (p := ⟨p, 3, none⟩) hp v3).setCell (p := ⟨p, 4, none⟩) hp v4).setCell (p := ⟨p, 5, none⟩) hp v5

theorem zero_at (W : World) : DAt W [] [] [] [] none 0 none 0 none 0 none 0 :=
  ⟨⟨[], ⟨rfl, by omega, fun h => absurd h (Nat.lt_irrefl _)⟩, Pair2.nil⟩, ⟨[], ⟨rfl, by omega, fun h => absurd h (Nat.lt_irrefl _)⟩, Pair2.nil⟩, ⟨[], ⟨rfl, by omega, fun h => absurd h (Nat.lt_irrefl _)⟩, Pair2.nil⟩, ⟨[], ⟨rfl, by omega, fun h => absurd h (Nat.lt_irrefl _)⟩, Pair2.nil⟩⟩

theorem zero_same (W : World) : Calls Tryz.prog 19 #[.agg #[.slice none 0 0, .slice none 0 0, .slice none 0 0, .slice none 0 0, .int .i64 0, .int .i64 0], .agg #[.slice none 0 0, .slice none 0 0, .slice none 0 0, .slice none 0 0, .int .i64 0, .int .i64 0]] W fun e w' => e = .returned (.bool true) ∧ Below W.heap.size W w' :=
  same_at ⟨fun x hx => (by cases hx), fun x hx => (by cases hx), fun x hx => (by cases hx), fun x hx => (by cases hx)⟩ (zero_at W) (zero_at W) 0 0 0 0 0 0 0 0 0 0

set_option maxHeartbeats 8000000 in
set_option maxRecDepth 100000 in
theorem between_bad1 (N1 : List Nd) (E1 : List Ed) (na : Option Addr) (nl nc : Nat) (ea : Option Addr) (el ec : Nat) (nx : Int) (N2 : List Nd) (E2 : List Ed) (ma : Option Addr) (ml mc : Nat) (fa : Option Addr) (fl fc : Nat) (mx : Int) (w : World) (h1 : GrOk w N1 E1 na nl ea el) (h2 : GrOk w N2 E2 ma ml fa fl) (h0 : gE N1 E1 nx ≠ 0) :
    Calls Tryz.prog 4 #[.agg #[.slice na nl nc, .slice ea el ec, .int .i64 nx], .agg #[.slice ma ml mc, .slice fa fl fc, .int .i64 mx]] w fun e w' => e = .returned (.bool true) ∧ Below w.heap.size w w' := by
  obtain ⟨er, her⟩ : ∃ z, z = gE N1 E1 nx := ⟨_, rfl⟩
  have HB2 : Hid (∀ W, Below w.heap.size w W → Calls Tryz.prog 18 #[.agg #[.slice na nl nc, .slice ea el ec, .int .i64 nx], .agg #[.slice ma ml mc, .slice fa fl fc, .int .i64 mx]] W fun e w' => e = .returned (.tuple #[.agg #[.slice none 0 0, .slice none 0 0, .slice none 0 0, .slice none 0 0, .int .i64 0, .int .i64 0], .int .i64 er]) ∧ Below W.heap.size W w') := fun W k => between_bad h1 h2 nc ec nx mc fc mx er (by rw [her, if_neg h0]) (by rw [her]; exact h0) W k
  have HC1 : Hid (∀ W, Below w.heap.size w W → Calls Tryz.prog 14 #[.agg #[.slice na nl nc, .slice ea el ec, .int .i64 nx]] W fun e w' => e = .returned (.int .i64 er) ∧ Below W.heap.size W w') := fun W k => by rw [her]; exact checkGraph_ok h1 nc ec nx W k
  have hz : (er == 0) = false := by rw [her]; simp [h0]
  have hz' : (er != 0) = true := by rw [her]; simp [h0]
  clear h1 h2 her h0
  have b0 : Below w.heap.size w ((w.alloc (.cells #[.slice na nl nc, .slice ea el ec, .int .i64 nx] 25)).alloc (.cells #[.slice ma ml mc, .slice fa fl fc, .int .i64 mx] 25)) := ((Below.refl _ _).alloc (Nat.le_refl _) _).alloc (by simp) _
  have hx := (Below.heap_alloc (w.alloc (.cells #[.slice na nl nc, .slice ea el ec, .int .i64 nx] 25)) (.cells #[.slice ma ml mc, .slice fa fl fc, .int .i64 mx] 25) w.heap.size (by simp)).trans (alloc_new w (.cells #[.slice na nl nc, .slice ea el ec, .int .i64 nx] 25))
  have hy := alloc_two w (.cells #[.slice na nl nc, .slice ea el ec, .int .i64 nx] 25) (.cells #[.slice ma ml mc, .slice fa fl fc, .int .i64 mx] 25)
  have z0 : ((w.alloc (.cells #[.slice na nl nc, .slice ea el ec, .int .i64 nx] 25)).alloc (.cells #[.slice ma ml mc, .slice fa fl fc, .int .i64 mx] 25)).heap.size = w.heap.size + 2 := by simp
  have HB := toHid b0
  have HX := toHid hx
  have HY := toHid hy
  have HZ := toHid z0
  clear b0 hx hy z0
  go_enter Tryz.func4, Tryz.ntmps4
  go_wp2_with fail
  refine (HB2.out _ HB.out).mono ?_
  generalize ((w.alloc (.cells #[.slice na nl nc, .slice ea el ec, .int .i64 nx] 25)).alloc (.cells #[.slice ma ml mc, .slice fa fl fc, .int .i64 mx] 25)) = W at HB HX HY HZ ⊢
  rintro e w1 ⟨rfl, k1⟩
  have s1 : w.heap.size + 2 ≤ w1.heap.size := by have := k1.size; rw [HZ.out] at this; exact this
  have b2 := (below3 HB.out HB.out.size k1).alloc (Nat.le_trans HB.out.size k1.size) (.cells #[.slice none 0 0, .slice none 0 0, .slice none 0 0, .slice none 0 0, .int .i64 0, .int .i64 0] 41)
  have x2 := (Below.heap_alloc w1 (.cells #[.slice none 0 0, .slice none 0 0, .slice none 0 0, .slice none 0 0, .int .i64 0, .int .i64 0] 41) w.heap.size (by omega)).trans ((k1.block w.heap.size (by rw [HZ.out]; omega)).trans HX.out)
  have y2 := (Below.heap_alloc w1 (.cells #[.slice none 0 0, .slice none 0 0, .slice none 0 0, .slice none 0 0, .int .i64 0, .int .i64 0] 41) (w.heap.size + 1) (by omega)).trans ((k1.block (w.heap.size + 1) (by rw [HZ.out]; omega)).trans HY.out)
  have d2 := alloc_new w1 (.cells #[.slice none 0 0, .slice none 0 0, .slice none 0 0, .slice none 0 0, .int .i64 0, .int .i64 0] 41)
  have z2 : (w1.alloc (.cells #[.slice none 0 0, .slice none 0 0, .slice none 0 0, .slice none 0 0, .int .i64 0, .int .i64 0] 41)).heap.size = w1.heap.size + 1 := by simp
  have HBx := toHid b2
  have HX2 := toHid x2
  have HY2 := toHid y2
  have HD2 := toHid d2
  have HZ2 := toHid z2
  have c0 := cell_of x2 0
  have c1 := cell_of x2 1
  have c2 := cell_of x2 2
  simp at c0 c1 c2
  clear b2 x2 y2 d2 z2 k1 HX HY HZ HB HB2
  go_wp2_with fail
  generalize w1.alloc (.cells #[.slice none 0 0, .slice none 0 0, .slice none 0 0, .slice none 0 0, .int .i64 0, .int .i64 0] 41) = W1 at HBx HX2 HY2 HD2 HZ2 c0 c1 c2 ⊢
  generalize w1.heap.size = m at s1 HD2 HZ2 ⊢
  refine (HC1.out _ HBx.out).mono ?_
  rintro e w2 ⟨rfl, k2⟩
  have s2 : m < w2.heap.size := by have := k2.size; rw [HZ2.out] at this; exact this
  have x3 := (k2.block w.heap.size (by rw [HZ2.out]; omega)).trans HX2.out
  have y3 := (k2.block (w.heap.size + 1) (by rw [HZ2.out]; omega)).trans HY2.out
  have d3 := (k2.block m (by rw [HZ2.out]; omega)).trans HD2.out
  have HB3 := toHid (below3 HBx.out HBx.out.size k2)
  have HX3 := toHid x3
  have HY3 := toHid y3
  have HD3 := toHid d3
  clear c0 c1 c2
  clear x3 y3 d3
  go_wp2_with fail
  refine (changed_true _).mono ?_
  rintro e w3 ⟨rfl, k3⟩
  have d4 := (k3.block m s2).trans HD3.out
  have HB4 := toHid (below3 HB3.out HB3.out.size k3)
  have s3 : m < w3.heap.size := Nat.lt_of_lt_of_le s2 k3.size
  have HD4 := toHid d4
  clear d4 k3 k2 HD3
  go_wp2_with fail
  refine (changed_true _).mono ?_
  rintro e w4 ⟨rfl, k4⟩
  have d5 := (k4.block m s3).trans HD4.out
  have HB5 := toHid (below3 HB4.out HB4.out.size k4)
  have r0 := cell_of d5 0
  have r1 := cell_of d5 1
  have r2 := cell_of d5 2
  have r3 := cell_of d5 3
  have r4 := cell_of d5 4
  have r5 := cell_of d5 5
  simp at r0 r1 r2 r3 r4 r5
  clear d5 k4
  go_wp2_with fail
  refine (zero_same _).mono ?_
  rintro e w5 ⟨rfl, k5⟩
  go_wp2_with fail
  go_ret
  exact ⟨rfl, below3 HB5.out HB5.out.size k5⟩

set_option maxHeartbeats 8000000 in
set_option maxRecDepth 100000 in
theorem between_bad2 (N1 : List Nd) (E1 : List Ed) (na : Option Addr) (nl nc : Nat) (ea : Option Addr) (el ec : Nat) (nx : Int) (N2 : List Nd) (E2 : List Ed) (ma : Option Addr) (ml mc : Nat) (fa : Option Addr) (fl fc : Nat) (mx : Int) (w : World) (h1 : GrOk w N1 E1 na nl ea el) (h2 : GrOk w N2 E2 ma ml fa fl) (h0 : gE N1 E1 nx = 0) (h00 : gE N2 E2 mx ≠ 0) :
    Calls Tryz.prog 4 #[.agg #[.slice na nl nc, .slice ea el ec, .int .i64 nx], .agg #[.slice ma ml mc, .slice fa fl fc, .int .i64 mx]] w fun e w' => e = .returned (.bool true) ∧ Below w.heap.size w w' := by
  obtain ⟨er, her⟩ : ∃ z, z = gE N2 E2 mx := ⟨_, rfl⟩
  have HB2 : Hid (∀ W, Below w.heap.size w W → Calls Tryz.prog 18 #[.agg #[.slice na nl nc, .slice ea el ec, .int .i64 nx], .agg #[.slice ma ml mc, .slice fa fl fc, .int .i64 mx]] W fun e w' => e = .returned (.tuple #[.agg #[.slice none 0 0, .slice none 0 0, .slice none 0 0, .slice none 0 0, .int .i64 0, .int .i64 0], .int .i64 er]) ∧ Below W.heap.size W w') := fun W k => between_bad h1 h2 nc ec nx mc fc mx er (by rw [her, if_pos h0]) (by rw [her]; exact h00) W k
  have HC1 : Hid (∀ W, Below w.heap.size w W → Calls Tryz.prog 14 #[.agg #[.slice na nl nc, .slice ea el ec, .int .i64 nx]] W fun e w' => e = .returned (.int .i64 0) ∧ Below W.heap.size W w') := fun W k => by have := checkGraph_ok h1 nc ec nx W k; rw [h0] at this; exact this
  have HC2 : Hid (∀ W, Below w.heap.size w W → Calls Tryz.prog 14 #[.agg #[.slice ma ml mc, .slice fa fl fc, .int .i64 mx]] W fun e w' => e = .returned (.int .i64 er) ∧ Below W.heap.size W w') := fun W k => by rw [her]; exact checkGraph_ok h2 mc fc mx W k
  have hz' : (er != 0) = true := by rw [her]; simp [h00]
  clear h1 h2 her h0 h00
  have b0 : Below w.heap.size w ((w.alloc (.cells #[.slice na nl nc, .slice ea el ec, .int .i64 nx] 25)).alloc (.cells #[.slice ma ml mc, .slice fa fl fc, .int .i64 mx] 25)) := ((Below.refl _ _).alloc (Nat.le_refl _) _).alloc (by simp) _
  have hx := (Below.heap_alloc (w.alloc (.cells #[.slice na nl nc, .slice ea el ec, .int .i64 nx] 25)) (.cells #[.slice ma ml mc, .slice fa fl fc, .int .i64 mx] 25) w.heap.size (by simp)).trans (alloc_new w (.cells #[.slice na nl nc, .slice ea el ec, .int .i64 nx] 25))
  have hy := alloc_two w (.cells #[.slice na nl nc, .slice ea el ec, .int .i64 nx] 25) (.cells #[.slice ma ml mc, .slice fa fl fc, .int .i64 mx] 25)
  have z0 : ((w.alloc (.cells #[.slice na nl nc, .slice ea el ec, .int .i64 nx] 25)).alloc (.cells #[.slice ma ml mc, .slice fa fl fc, .int .i64 mx] 25)).heap.size = w.heap.size + 2 := by simp
  have HB := toHid b0
  have HX := toHid hx
  have HY := toHid hy
  have HZ := toHid z0
  clear b0 hx hy z0
  go_enter Tryz.func4, Tryz.ntmps4
  go_wp2_with fail
  refine (HB2.out _ HB.out).mono ?_
  generalize ((w.alloc (.cells #[.slice na nl nc, .slice ea el ec, .int .i64 nx] 25)).alloc (.cells #[.slice ma ml mc, .slice fa fl fc, .int .i64 mx] 25)) = W at HB HX HY HZ ⊢
  rintro e w1 ⟨rfl, k1⟩
  have s1 : w.heap.size + 2 ≤ w1.heap.size := by have := k1.size; rw [HZ.out] at this; exact this
  have b2 := (below3 HB.out HB.out.size k1).alloc (Nat.le_trans HB.out.size k1.size) (.cells #[.slice none 0 0, .slice none 0 0, .slice none 0 0, .slice none 0 0, .int .i64 0, .int .i64 0] 41)
  have x2 := (Below.heap_alloc w1 (.cells #[.slice none 0 0, .slice none 0 0, .slice none 0 0, .slice none 0 0, .int .i64 0, .int .i64 0] 41) w.heap.size (by omega)).trans ((k1.block w.heap.size (by rw [HZ.out]; omega)).trans HX.out)
  have y2 := (Below.heap_alloc w1 (.cells #[.slice none 0 0, .slice none 0 0, .slice none 0 0, .slice none 0 0, .int .i64 0, .int .i64 0] 41) (w.heap.size + 1) (by omega)).trans ((k1.block (w.heap.size + 1) (by rw [HZ.out]; omega)).trans HY.out)
  have d2 := alloc_new w1 (.cells #[.slice none 0 0, .slice none 0 0, .slice none 0 0, .slice none 0 0, .int .i64 0, .int .i64 0] 41)
  have z2 : (w1.alloc (.cells #[.slice none 0 0, .slice none 0 0, .slice none 0 0, .slice none 0 0, .int .i64 0, .int .i64 0] 41)).heap.size = w1.heap.size + 1 := by simp
  have HBx := toHid b2
  have HX2 := toHid x2
  have HY2 := toHid y2
  have HD2 := toHid d2
  have HZ2 := toHid z2
  have c0 := cell_of x2 0
  have c1 := cell_of x2 1
  have c2 := cell_of x2 2
  simp at c0 c1 c2
  clear b2 x2 y2 d2 z2 k1 HX HY HZ HB HB2
  go_wp2_with fail
  generalize w1.alloc (.cells #[.slice none 0 0, .slice none 0 0, .slice none 0 0, .slice none 0 0, .int .i64 0, .int .i64 0] 41) = W1 at HBx HX2 HY2 HD2 HZ2 c0 c1 c2 ⊢
  generalize w1.heap.size = m at s1 HD2 HZ2 ⊢
  refine (HC1.out _ HBx.out).mono ?_
  rintro e w2 ⟨rfl, k2⟩
  have s2 : m < w2.heap.size := by have := k2.size; rw [HZ2.out] at this; exact this
  have x3 := (k2.block w.heap.size (by rw [HZ2.out]; omega)).trans HX2.out
  have y3 := (k2.block (w.heap.size + 1) (by rw [HZ2.out]; omega)).trans HY2.out
  have d3 := (k2.block m (by rw [HZ2.out]; omega)).trans HD2.out
  have HB3 := toHid (below3 HBx.out HBx.out.size k2)
  have HX3 := toHid x3
  have HY3 := toHid y3
  have HD3 := toHid d3
  clear c0 c1 c2
  have e0 := cell_of y3 0
  have e1 := cell_of y3 1
  have e2 := cell_of y3 2
  simp at e0 e1 e2
  clear x3 y3 d3
  go_wp2_with fail
  refine (HC2.out _ HB3.out).mono ?_
  rintro e w2' ⟨rfl, k2'⟩
  have d3' := (k2'.block m s2).trans HD3.out
  have HD3' := toHid d3'
  have HB3' := toHid (below3 HB3.out HB3.out.size k2')
  have s2' : m < w2'.heap.size := Nat.lt_of_lt_of_le s2 k2'.size
  clear d3' k2 k2' e0 e1 e2
  go_wp2_with fail
  refine (changed_true _).mono ?_
  rintro e w3 ⟨rfl, k3⟩
  have d4 := (k3.block m s2').trans HD3'.out
  have HB4 := toHid (below3 HB3'.out HB3'.out.size k3)
  have s3 : m < w3.heap.size := Nat.lt_of_lt_of_le s2' k3.size
  have HD4 := toHid d4
  clear d4 k3
  go_wp2_with fail
  refine (changed_true _).mono ?_
  rintro e w4 ⟨rfl, k4⟩
  have d5 := (k4.block m s3).trans HD4.out
  have HB5 := toHid (below3 HB4.out HB4.out.size k4)
  have r0 := cell_of d5 0
  have r1 := cell_of d5 1
  have r2 := cell_of d5 2
  have r3 := cell_of d5 3
  have r4 := cell_of d5 4
  have r5 := cell_of d5 5
  simp at r0 r1 r2 r3 r4 r5
  clear d5 k4
  go_wp2_with fail
  refine (zero_same _).mono ?_
  rintro e w5 ⟨rfl, k5⟩
  go_wp2_with fail
  go_ret
  exact ⟨rfl, below3 HB5.out HB5.out.size k5⟩

set_option maxHeartbeats 8000000 in
set_option maxRecDepth 100000 in
theorem between_good2 (N1 : List Nd) (E1 : List Ed) (na : Option Addr) (nl nc : Nat) (ea : Option Addr) (el ec : Nat) (nx : Int) (N2 : List Nd) (E2 : List Ed) (ma : Option Addr) (ml mc : Nat) (fa : Option Addr) (fl fc : Nat) (mx : Int) (w : World) (h1 : GrOk w N1 E1 na nl ea el) (h2 : GrOk w N2 E2 ma ml fa fl) (h0 : gE N1 E1 nx = 0) (h00 : gE N2 E2 mx = 0) :
    Calls Tryz.prog 4 #[.agg #[.slice na nl nc, .slice ea el ec, .int .i64 nx], .agg #[.slice ma ml mc, .slice fa fl fc, .int .i64 mx]] w fun e w' => e = .returned (.bool true) ∧ Below w.heap.size w w' := by
  obtain ⟨XN, XE, p1, p2, o1, o2, l1, l2, _, _⟩ := gr_abs h1 h0
  obtain ⟨YN, YE, p3, p4, o3, o4, l3, l4, _, _⟩ := gr_abs h2 h00
  obtain ⟨G, hG⟩ : ∃ z, z = lackL sameN XN YN := ⟨_, rfl⟩
  obtain ⟨N, hN⟩ : ∃ z, z = lackL sameN YN XN := ⟨_, rfl⟩
  obtain ⟨H, hH⟩ : ∃ z, z = lackL sameE XE YE := ⟨_, rfl⟩
  obtain ⟨E, hE⟩ : ∃ z, z = lackL sameE YE XE := ⟨_, rfl⟩
  obtain ⟨gn, hgn⟩ : ∃ z, z = G.length := ⟨_, rfl⟩
  obtain ⟨nn, hnn⟩ : ∃ z, z = N.length := ⟨_, rfl⟩
  obtain ⟨hn, hhn⟩ : ∃ z, z = H.length := ⟨_, rfl⟩
  obtain ⟨en, hen⟩ : ∃ z, z = E.length := ⟨_, rfl⟩
  have hok : DOk G N H E := by rw [hG, hN, hH, hE]; exact lack_ok o1 o3 o2 o4
  have hsz : gn ≤ 1000 ∧ nn ≤ 1000 ∧ hn ≤ 1000 ∧ en ≤ 1000 := by
    have q1 := lackL_length sameN XN YN
    have q2 := lackL_length sameN YN XN
    have q3 := lackL_length sameE XE YE
    have q4 := lackL_length sameE YE XE
    rw [← hG, ← hgn] at q1
    rw [← hN, ← hnn] at q2
    rw [← hH, ← hhn] at q3
    rw [← hE, ← hen] at q4
    obtain ⟨_, t1, t2⟩ := p1
    obtain ⟨_, t3, t4⟩ := p2
    obtain ⟨_, t5, t6⟩ := p3
    obtain ⟨_, t7, t8⟩ := p4
    have := t1.1; have := t2.1; have := t3.1; have := t4.1; have := t5.1; have := t6.1; have := t7.1; have := t8.1
    omega
  have HB2 : Hid (∀ W, Below w.heap.size w W → Calls Tryz.prog 18 #[.agg #[.slice na nl nc, .slice ea el ec, .int .i64 nx], .agg #[.slice ma ml mc, .slice fa fl fc, .int .i64 mx]] W fun e w' => (∃ ga5 gc5 na5 nc5 ha5 hc5 ea5 ec5, e = .returned (.tuple #[.agg #[.slice ga5 gn gc5, .slice na5 nn nc5, .slice ha5 hn hc5, .slice ea5 en ec5, .int .i64 nx, .int .i64 mx], .int .i64 0]) ∧ NsOwn (fun i => W.heap.size ≤ i) w' G (.slice ga5 gn gc5) ∧ NsOwn (fun i => W.heap.size ≤ i) w' N (.slice na5 nn nc5) ∧ EsOwn (fun i => W.heap.size ≤ i) w' H (.slice ha5 hn hc5) ∧ EsOwn (fun i => W.heap.size ≤ i) w' E (.slice ea5 en ec5)) ∧ Below W.heap.size W w') := fun W k => (between_good h1 h2 nc ec nx mc fc mx h0 h00 p1 p2 p3 p4 o1 o2 o3 o4 l1 l2 l3 l4 W k).mono fun e w' ⟨⟨v, he, ga, gc, na1, nc1, ha, hc, ea1, ec1, hv, q1, q2, q3, q4⟩, kk⟩ => ⟨by
    rw [← hG, ← hN, ← hH, ← hE, ← hgn, ← hnn, ← hhn, ← hen] at hv
    rw [← hG, ← hgn] at q1
    rw [← hN, ← hnn] at q2
    rw [← hH, ← hhn] at q3
    rw [← hE, ← hen] at q4
    exact ⟨ga, gc, na1, nc1, ha, hc, ea1, ec1, by rw [he, hv], q1, q2, q3, q4⟩, kk⟩
  have HC1 : Hid (∀ W, Below w.heap.size w W → Calls Tryz.prog 14 #[.agg #[.slice na nl nc, .slice ea el ec, .int .i64 nx]] W fun e w' => e = .returned (.int .i64 0) ∧ Below W.heap.size W w') := fun W k => by have := checkGraph_ok h1 nc ec nx W k; rw [h0] at this; exact this
  have HC2 : Hid (∀ W, Below w.heap.size w W → Calls Tryz.prog 14 #[.agg #[.slice ma ml mc, .slice fa fl fc, .int .i64 mx]] W fun e w' => e = .returned (.int .i64 0) ∧ Below W.heap.size W w') := fun W k => by have := checkGraph_ok h2 mc fc mx W k; rw [h00] at this; exact this
  have HM1 : Hid (∀ V, Below w.heap.size w V → ∀ W, Below V.heap.size V W → Calls Tryz.prog 20 #[.slice na nl nc, .slice ma ml mc, .func (.func 21) #[] #[]] W fun e w' => MinN V W w' G gn e ∧ Below W.heap.size W w') := fun V kV W k => minN_at k (p1.below kV) (p3.below kV) (by omega) o1 o3 hG hgn nc mc
  have HM2 : Hid (∀ V, Below w.heap.size w V → ∀ W, Below V.heap.size V W → Calls Tryz.prog 20 #[.slice ma ml mc, .slice na nl nc, .func (.func 21) #[] #[]] W fun e w' => MinN V W w' N nn e ∧ Below W.heap.size W w') := fun V kV W k => minN_at k (p3.below kV) (p1.below kV) (by omega) o3 o1 hN hnn mc nc
  have HM3 : Hid (∀ V, Below w.heap.size w V → ∀ W, Below V.heap.size V W → Calls Tryz.prog 22 #[.slice ea el ec, .slice fa fl fc, .func (.func 23) #[] #[]] W fun e w' => MinE V W w' H hn e ∧ Below W.heap.size W w') := fun V kV W k => minE_at k (p2.below kV) (p4.below kV) (by omega) o2 o4 hH hhn ec fc
  have HM4 : Hid (∀ V, Below w.heap.size w V → ∀ W, Below V.heap.size V W → Calls Tryz.prog 22 #[.slice fa fl fc, .slice ea el ec, .func (.func 23) #[] #[]] W fun e w' => MinE V W w' E en e ∧ Below W.heap.size W w') := fun V kV W k => minE_at k (p4.below kV) (p2.below kV) (by omega) o4 o2 hE hen fc ec
  have HLEN := toHid (show gn = G.length ∧ nn = N.length ∧ hn = H.length ∧ en = E.length from ⟨hgn, hnn, hhn, hen⟩)
  have HOK := toHid hok
  have HSZ := toHid hsz
  clear h1 h2 h0 h00 p1 p2 p3 p4 o1 o2 o3 o4 l1 l2 l3 l4 hG hN hH hE hgn hnn hhn hen hok hsz
  have b0 : Below w.heap.size w ((w.alloc (.cells #[.slice na nl nc, .slice ea el ec, .int .i64 nx] 25)).alloc (.cells #[.slice ma ml mc, .slice fa fl fc, .int .i64 mx] 25)) := ((Below.refl _ _).alloc (Nat.le_refl _) _).alloc (by simp) _
  have hx := (Below.heap_alloc (w.alloc (.cells #[.slice na nl nc, .slice ea el ec, .int .i64 nx] 25)) (.cells #[.slice ma ml mc, .slice fa fl fc, .int .i64 mx] 25) w.heap.size (by simp)).trans (alloc_new w (.cells #[.slice na nl nc, .slice ea el ec, .int .i64 nx] 25))
  have hy := alloc_two w (.cells #[.slice na nl nc, .slice ea el ec, .int .i64 nx] 25) (.cells #[.slice ma ml mc, .slice fa fl fc, .int .i64 mx] 25)
  have z0 : ((w.alloc (.cells #[.slice na nl nc, .slice ea el ec, .int .i64 nx] 25)).alloc (.cells #[.slice ma ml mc, .slice fa fl fc, .int .i64 mx] 25)).heap.size = w.heap.size + 2 := by simp
  have HB := toHid b0
  have HX := toHid hx
  have HY := toHid hy
  have HZ := toHid z0
  clear b0 hx hy z0
  go_enter Tryz.func4, Tryz.ntmps4
  go_wp2_with fail
  refine (HB2.out _ HB.out).mono ?_
  generalize ((w.alloc (.cells #[.slice na nl nc, .slice ea el ec, .int .i64 nx] 25)).alloc (.cells #[.slice ma ml mc, .slice fa fl fc, .int .i64 mx] 25)) = W at HB HX HY HZ ⊢
  rintro e w1 ⟨⟨ga5, gc5, na5, nc5, ha5, hc5, ea5, ec5, rfl, q1, q2, q3, q4⟩, k1⟩
  have HDA : Hid (DAt (w1.alloc (.cells #[.slice ga5 gn gc5, .slice na5 nn nc5, .slice ha5 hn hc5, .slice ea5 en ec5, .int .i64 nx, .int .i64 mx] 41)) G N H E ga5 gn na5 nn ha5 hn ea5 en) := by
    have kA : Below w1.heap.size w1 (w1.alloc (.cells #[.slice ga5 gn gc5, .slice na5 nn nc5, .slice ha5 hn hc5, .slice ea5 en ec5, .int .i64 nx, .int .i64 mx] 41)) := (Below.refl _ _).alloc (Nat.le_refl _) _
    refine DAt.below ?_ kA
    obtain ⟨l1, l2, l3, l4⟩ := HLEN.out
    rw [l1] at q1 ⊢
    rw [l2] at q2 ⊢
    rw [l3] at q3 ⊢
    rw [l4] at q4 ⊢
    exact ⟨q1.reads2.2, q2.reads2.2, q3.reads2.2, q4.reads2.2⟩
  clear q1 q2 q3 q4
  have s1 : w.heap.size + 2 ≤ w1.heap.size := by have := k1.size; rw [HZ.out] at this; exact this
  have b2 := (below3 HB.out HB.out.size k1).alloc (Nat.le_trans HB.out.size k1.size) (.cells #[.slice ga5 gn gc5, .slice na5 nn nc5, .slice ha5 hn hc5, .slice ea5 en ec5, .int .i64 nx, .int .i64 mx] 41)
  have x2 := (Below.heap_alloc w1 (.cells #[.slice ga5 gn gc5, .slice na5 nn nc5, .slice ha5 hn hc5, .slice ea5 en ec5, .int .i64 nx, .int .i64 mx] 41) w.heap.size (by omega)).trans ((k1.block w.heap.size (by rw [HZ.out]; omega)).trans HX.out)
  have y2 := (Below.heap_alloc w1 (.cells #[.slice ga5 gn gc5, .slice na5 nn nc5, .slice ha5 hn hc5, .slice ea5 en ec5, .int .i64 nx, .int .i64 mx] 41) (w.heap.size + 1) (by omega)).trans ((k1.block (w.heap.size + 1) (by rw [HZ.out]; omega)).trans HY.out)
  have d2 := alloc_new w1 (.cells #[.slice ga5 gn gc5, .slice na5 nn nc5, .slice ha5 hn hc5, .slice ea5 en ec5, .int .i64 nx, .int .i64 mx] 41)
  have z2 : (w1.alloc (.cells #[.slice ga5 gn gc5, .slice na5 nn nc5, .slice ha5 hn hc5, .slice ea5 en ec5, .int .i64 nx, .int .i64 mx] 41)).heap.size = w1.heap.size + 1 := by simp
  have HBx := toHid b2
  have HX2 := toHid x2
  have HY2 := toHid y2
  have HD2 := toHid d2
  have HZ2 := toHid z2
  have c0 := cell_of x2 0
  have c1 := cell_of x2 1
  have c2 := cell_of x2 2
  simp at c0 c1 c2
  clear b2 x2 y2 d2 z2 k1 HX HY HZ HB HB2
  go_wp2_with fail
  generalize w1.alloc (.cells #[.slice ga5 gn gc5, .slice na5 nn nc5, .slice ha5 hn hc5, .slice ea5 en ec5, .int .i64 nx, .int .i64 mx] 41) = W1 at HDA HBx HX2 HY2 HD2 HZ2 c0 c1 c2 ⊢
  generalize w1.heap.size = m at s1 HD2 HZ2 ⊢
  refine (HC1.out _ HBx.out).mono ?_
  rintro e w2 ⟨rfl, k2⟩
  have s2 : m < w2.heap.size := by have := k2.size; rw [HZ2.out] at this; exact this
  have x3 := (k2.block w.heap.size (by rw [HZ2.out]; omega)).trans HX2.out
  have y3 := (k2.block (w.heap.size + 1) (by rw [HZ2.out]; omega)).trans HY2.out
  have d3 := (k2.block m (by rw [HZ2.out]; omega)).trans HD2.out
  have HB3 := toHid (below3 HBx.out HBx.out.size k2)
  have HX3 := toHid x3
  have HY3 := toHid y3
  have HD3 := toHid d3
  clear c0 c1 c2
  have HDA3 := toHid (HDA.out.below k2)
  have e0 := cell_of y3 0
  have e1 := cell_of y3 1
  have e2 := cell_of y3 2
  simp at e0 e1 e2
  clear x3 y3 d3 k2 HBx HX2 HY2 HD2 HZ2 HDA
  go_wp2_with fail
  refine (HC2.out _ HB3.out).mono ?_
  rintro e w3 ⟨rfl, k3⟩
  have HB4 := toHid (below3 HB3.out HB3.out.size k3)
  have HX4 := toHid ((k3.block w.heap.size (by omega)).trans HX3.out)
  have HY4 := toHid ((k3.block (w.heap.size + 1) (by omega)).trans HY3.out)
  have HD4 := toHid ((k3.block m s2).trans HD3.out)
  have HDA4 := toHid (HDA3.out.below k3)
  have s3 : m < w3.heap.size := Nat.lt_of_lt_of_le s2 k3.size
  clear k3 e0 e1 e2 HB3 HX3 HY3 HD3 HDA3
  go_wp2_with fail
  refine (changed_true _).mono ?_
  rintro e V ⟨rfl, k4⟩
  have HBV := toHid (below3 HB4.out HB4.out.size k4)
  have HXV := toHid ((k4.block w.heap.size (by omega)).trans HX4.out)
  have HYV := toHid ((k4.block (w.heap.size + 1) (by omega)).trans HY4.out)
  have HDV := toHid ((k4.block m s3).trans HD4.out)
  have HDAV := toHid (HDA4.out.below k4)
  have sV : m < V.heap.size := Nat.lt_of_lt_of_le s3 k4.size
  clear k4 HB4 HX4 HY4 HD4 HDA4 HC1 HC2
  have HN1 := toHid (HM1.out V HBV.out)
  have HN2 := toHid (HM2.out V HBV.out)
  have HN3 := toHid (HM3.out V HBV.out)
  have HN4 := toHid (HM4.out V HBV.out)
  clear HM1 HM2 HM3 HM4
  go_upto_region 7 with fail
  have HS : Hid (∀ W' : World, Below V.heap.size V W' → W'.cell? ⟨w.heap.size, 0, none⟩ = some (.slice na nl nc) ∧ W'.cell? ⟨w.heap.size, 1, none⟩ = some (.slice ea el ec) ∧ W'.cell? ⟨w.heap.size, 2, none⟩ = some (.int .i64 nx) ∧ W'.cell? ⟨w.heap.size + 1, 0, none⟩ = some (.slice ma ml mc) ∧ W'.cell? ⟨w.heap.size + 1, 1, none⟩ = some (.slice fa fl fc) ∧ W'.cell? ⟨w.heap.size + 1, 2, none⟩ = some (.int .i64 mx)) := fun W' kk => by
    have q : ∀ o, W'.cell? ⟨w.heap.size, o, none⟩ = _ := fun o => (kk.cell (p := ⟨w.heap.size, o, none⟩) (by show w.heap.size < _; omega)).trans (cell_of HXV.out o)
    have q' : ∀ o, W'.cell? ⟨w.heap.size + 1, o, none⟩ = _ := fun o => (kk.cell (p := ⟨w.heap.size + 1, o, none⟩) (by show w.heap.size + 1 < _; omega)).trans (cell_of HYV.out o)
    exact ⟨q 0, q 1, q 2, q' 0, q' 1, q' 2⟩
  obtain ⟨x0, x1, x2, x3, x4, x5⟩ := HS.out V (Below.refl _ _)
  have D0 : Below V.heap.size V V.drew := (Below.refl _ _).drew
  go_cut [8] (fun s8 wx => ∃ p ga6 gc6 na6 nc6 ha6 hc6 ea6 ec6, s8 = .pointer (some ⟨p, 0, none⟩) ∧ wx.heap[p]? = some (.cells #[.slice ga6 gn gc6, .slice na6 nn nc6, .slice ha6 hn hc6, .slice ea6 en ec6, .int .i64 nx, .int .i64 mx] 41 (0, 0)) ∧ DAt wx G N H E ga6 gn na6 nn ha6 hn ea6 en ∧ Below V.heap.size V wx)
  case first =>
    go_region_held3 (fun W' => W'.cell? ⟨w.heap.size, 0, none⟩ = some (.slice na nl nc) ∧ W'.cell? ⟨w.heap.size, 1, none⟩ = some (.slice ea el ec) ∧ W'.cell? ⟨w.heap.size, 2, none⟩ = some (.int .i64 nx) ∧ W'.cell? ⟨w.heap.size + 1, 0, none⟩ = some (.slice ma ml mc) ∧ W'.cell? ⟨w.heap.size + 1, 1, none⟩ = some (.slice fa fl fc) ∧ W'.cell? ⟨w.heap.size + 1, 2, none⟩ = some (.int .i64 mx))
      (first
        | with_reducible exact HS.out _ k4
        | with_reducible exact HS.out _ k3
        | with_reducible exact HS.out _ k2
        | with_reducible exact HS.out _ k1
        | with_reducible exact HS.out _ D0
        | with_reducible exact HS.out _ (k4.alloc k4.size _)
        | with_reducible exact HS.out _ (k3.alloc k3.size _)
        | with_reducible exact HS.out _ (k2.alloc k2.size _)
        | with_reducible exact HS.out _ (k1.alloc k1.size _)
        | with_reducible exact HS.out _ (D0.alloc (Nat.le_refl _) _)
        | with_reducible exact HS.out _ (bset6 k4 u3.heap.size k3.size _ _ _ _ _ _)
        | with_reducible exact HS.out _ (bset6 k4 u2.heap.size k2.size _ _ _ _ _ _)
        | with_reducible exact HS.out _ (bset6 k4 u1.heap.size k1.size _ _ _ _ _ _)
        | with_reducible exact HS.out _ (bset6 k4 V.heap.size (Nat.le_refl _) _ _ _ _ _ _)
        | with_reducible exact HS.out _ (bset6 (k4.alloc k4.size _) u4.heap.size k4.size _ _ _ _ _ _)
        | go_keep)
      (first
        | (go_at_call 22; go_fit (HN4.out (u3) k3); rintro e u4 ⟨⟨a4, c4, L4, rfl, R4, P4⟩, h4⟩; have k4 : Below V.heap.size V u4 := k3.trans (h4.mono k3.size); have j4 : Below (u3).heap.size (u3) u4 := h4; have B4 : (u3).heap.size ≤ (u3).heap.size := Nat.le_refl _; first | (have hp' := (h4.block _ (lt_of_some hp)).trans hp; clear hp p0 p1 p2 p3 p4 p5 f0 f1 f2 f3 f4 f5; have hp := hp'; clear hp'; have p0 := cell_of hp 0; have p1 := cell_of hp 1; have p2 := cell_of hp 2; have p3 := cell_of hp 3; have p4 := cell_of hp 4; have p5 := cell_of hp 5; have f0 := free_of hp 0; have f1 := free_of hp 1; have f2 := free_of hp 2; have f3 := free_of hp 3; have f4 := free_of hp 4; have f5 := free_of hp 5; simp at p0 p1 p2 p3 p4 p5) | skip)
        | (go_at_call 22; go_fit (HN4.out (u3.alloc (.cells #[.slice none 0 0, .slice none 0 0, .slice none 0 0, .slice none 0 0, .int .i64 0, .int .i64 0] 41)) (k3.alloc k3.size _)); rintro e u4 ⟨⟨a4, c4, L4, rfl, R4, P4⟩, h4⟩; have k4 : Below V.heap.size V u4 := (k3.alloc k3.size _).trans (h4.mono (Nat.le_trans k3.size (by simp))); have j4 : Below (u3).heap.size (u3) u4 := ((Below.refl _ _).alloc (Nat.le_refl _) _).trans (h4.mono (by simp)); have hp : u4.heap[u3.heap.size]? = some (.cells #[.slice none 0 0, .slice none 0 0, .slice none 0 0, .slice none 0 0, .int .i64 0, .int .i64 0] 41 (0, 0)) := (h4.block (u3).heap.size (by simp)).trans (alloc_new (u3) (.cells #[.slice none 0 0, .slice none 0 0, .slice none 0 0, .slice none 0 0, .int .i64 0, .int .i64 0] 41)); have p0 := cell_of hp 0; have p1 := cell_of hp 1; have p2 := cell_of hp 2; have p3 := cell_of hp 3; have p4 := cell_of hp 4; have p5 := cell_of hp 5; have f0 := free_of hp 0; have f1 := free_of hp 1; have f2 := free_of hp 2; have f3 := free_of hp 3; have f4 := free_of hp 4; have f5 := free_of hp 5; simp at p0 p1 p2 p3 p4 p5)
        | (go_at_call 22; go_fit (HN3.out (u2) k2); rintro e u3 ⟨⟨a3, c3, L3, rfl, R3, P3⟩, h3⟩; have k3 : Below V.heap.size V u3 := k2.trans (h3.mono k2.size); have j3 : Below (u2).heap.size (u2) u3 := h3; have B3 : (u2).heap.size ≤ (u2).heap.size := Nat.le_refl _; first | (have hp' := (h3.block _ (lt_of_some hp)).trans hp; clear hp p0 p1 p2 p3 p4 p5 f0 f1 f2 f3 f4 f5; have hp := hp'; clear hp'; have p0 := cell_of hp 0; have p1 := cell_of hp 1; have p2 := cell_of hp 2; have p3 := cell_of hp 3; have p4 := cell_of hp 4; have p5 := cell_of hp 5; have f0 := free_of hp 0; have f1 := free_of hp 1; have f2 := free_of hp 2; have f3 := free_of hp 3; have f4 := free_of hp 4; have f5 := free_of hp 5; simp at p0 p1 p2 p3 p4 p5) | skip)
        | (go_at_call 22; go_fit (HN3.out (u2.alloc (.cells #[.slice none 0 0, .slice none 0 0, .slice none 0 0, .slice none 0 0, .int .i64 0, .int .i64 0] 41)) (k2.alloc k2.size _)); rintro e u3 ⟨⟨a3, c3, L3, rfl, R3, P3⟩, h3⟩; have k3 : Below V.heap.size V u3 := (k2.alloc k2.size _).trans (h3.mono (Nat.le_trans k2.size (by simp))); have j3 : Below (u2).heap.size (u2) u3 := ((Below.refl _ _).alloc (Nat.le_refl _) _).trans (h3.mono (by simp)); have hp : u3.heap[u2.heap.size]? = some (.cells #[.slice none 0 0, .slice none 0 0, .slice none 0 0, .slice none 0 0, .int .i64 0, .int .i64 0] 41 (0, 0)) := (h3.block (u2).heap.size (by simp)).trans (alloc_new (u2) (.cells #[.slice none 0 0, .slice none 0 0, .slice none 0 0, .slice none 0 0, .int .i64 0, .int .i64 0] 41)); have p0 := cell_of hp 0; have p1 := cell_of hp 1; have p2 := cell_of hp 2; have p3 := cell_of hp 3; have p4 := cell_of hp 4; have p5 := cell_of hp 5; have f0 := free_of hp 0; have f1 := free_of hp 1; have f2 := free_of hp 2; have f3 := free_of hp 3; have f4 := free_of hp 4; have f5 := free_of hp 5; simp at p0 p1 p2 p3 p4 p5)
        | (go_at_call 20; go_fit (HN2.out (u1) k1); rintro e u2 ⟨⟨a2, c2, L2, rfl, R2, P2⟩, h2⟩; have k2 : Below V.heap.size V u2 := k1.trans (h2.mono k1.size); have j2 : Below (u1).heap.size (u1) u2 := h2; have B2 : (u1).heap.size ≤ (u1).heap.size := Nat.le_refl _; first | (have hp' := (h2.block _ (lt_of_some hp)).trans hp; clear hp p0 p1 p2 p3 p4 p5 f0 f1 f2 f3 f4 f5; have hp := hp'; clear hp'; have p0 := cell_of hp 0; have p1 := cell_of hp 1; have p2 := cell_of hp 2; have p3 := cell_of hp 3; have p4 := cell_of hp 4; have p5 := cell_of hp 5; have f0 := free_of hp 0; have f1 := free_of hp 1; have f2 := free_of hp 2; have f3 := free_of hp 3; have f4 := free_of hp 4; have f5 := free_of hp 5; simp at p0 p1 p2 p3 p4 p5) | skip)
        | (go_at_call 20; go_fit (HN2.out (u1.alloc (.cells #[.slice none 0 0, .slice none 0 0, .slice none 0 0, .slice none 0 0, .int .i64 0, .int .i64 0] 41)) (k1.alloc k1.size _)); rintro e u2 ⟨⟨a2, c2, L2, rfl, R2, P2⟩, h2⟩; have k2 : Below V.heap.size V u2 := (k1.alloc k1.size _).trans (h2.mono (Nat.le_trans k1.size (by simp))); have j2 : Below (u1).heap.size (u1) u2 := ((Below.refl _ _).alloc (Nat.le_refl _) _).trans (h2.mono (by simp)); have hp : u2.heap[u1.heap.size]? = some (.cells #[.slice none 0 0, .slice none 0 0, .slice none 0 0, .slice none 0 0, .int .i64 0, .int .i64 0] 41 (0, 0)) := (h2.block (u1).heap.size (by simp)).trans (alloc_new (u1) (.cells #[.slice none 0 0, .slice none 0 0, .slice none 0 0, .slice none 0 0, .int .i64 0, .int .i64 0] 41)); have p0 := cell_of hp 0; have p1 := cell_of hp 1; have p2 := cell_of hp 2; have p3 := cell_of hp 3; have p4 := cell_of hp 4; have p5 := cell_of hp 5; have f0 := free_of hp 0; have f1 := free_of hp 1; have f2 := free_of hp 2; have f3 := free_of hp 3; have f4 := free_of hp 4; have f5 := free_of hp 5; simp at p0 p1 p2 p3 p4 p5)
        | (go_at_call 20; go_fit (HN1.out (V.drew) D0); rintro e u1 ⟨⟨a1, c1, L1, rfl, R1, P1⟩, h1⟩; have k1 : Below V.heap.size V u1 := D0.trans (h1.mono (Nat.le_refl _)); have j1 : Below (V.drew).heap.size (V.drew) u1 := h1; have B1 : (V.drew).heap.size ≤ (V.drew).heap.size := Nat.le_refl _)
        | (go_at_call 20; go_fit (HN1.out (V.drew.alloc (.cells #[.slice none 0 0, .slice none 0 0, .slice none 0 0, .slice none 0 0, .int .i64 0, .int .i64 0] 41)) (D0.alloc (Nat.le_refl _) _)); rintro e u1 ⟨⟨a1, c1, L1, rfl, R1, P1⟩, h1⟩; have k1 : Below V.heap.size V u1 := (D0.alloc (Nat.le_refl _) _).trans (h1.mono (Nat.le_trans (Nat.le_refl _) (by simp))); have j1 : Below (V.drew).heap.size (V.drew) u1 := ((Below.refl _ _).alloc (Nat.le_refl _) _).trans (h1.mono (by simp)); have hp : u1.heap[V.heap.size]? = some (.cells #[.slice none 0 0, .slice none 0 0, .slice none 0 0, .slice none 0 0, .int .i64 0, .int .i64 0] 41 (0, 0)) := (h1.block (V.drew).heap.size (by simp)).trans (alloc_new (V.drew) (.cells #[.slice none 0 0, .slice none 0 0, .slice none 0 0, .slice none 0 0, .int .i64 0, .int .i64 0] 41)); have p0 := cell_of hp 0; have p1 := cell_of hp 1; have p2 := cell_of hp 2; have p3 := cell_of hp 3; have p4 := cell_of hp 4; have p5 := cell_of hp 5; have f0 := free_of hp 0; have f1 := free_of hp 1; have f2 := free_of hp 2; have f3 := free_of hp 3; have f4 := free_of hp 4; have f5 := free_of hp 5; simp at p0 p1 p2 p3 p4 p5))
    all_goals
      go_wp2_with fail
      go_meet
      have K24 : Below u2.heap.size u2 u4 := j3.trans (j4.mono j3.size)
      have K14 : Below u1.heap.size u1 u4 := j2.trans (K24.mono j2.size)
      have z2 := j2.size
      have z3 := j3.size
      have z4 := j4.size
      have t1 := h1.size
      have t2 := h2.size
      have t3 := h3.size
      have t4 := h4.size
      try simp at t1
      try simp at t2
      try simp at t3
      try simp at t4
    · have kx : Below V.heap.size V (u4.alloc (.cells #[.slice a1 gn c1, .slice a2 nn c2, .slice a3 hn c3, .slice a4 en c4, .int .i64 nx, .int .i64 mx] 41)) := k4.alloc k4.size _
      have sx : ∀ g, g < u4.heap.size → (u4.alloc (.cells #[.slice a1 gn c1, .slice a2 nn c2, .slice a3 hn c3, .slice a4 en c4, .int .i64 nx, .int .i64 mx] 41)).heap[g]? = u4.heap[g]? := fun g hg => Below.heap_alloc u4 _ g hg
      have hpx := alloc_new u4 (.cells #[.slice a1 gn c1, .slice a2 nn c2, .slice a3 hn c3, .slice a4 en c4, .int .i64 nx, .int .i64 mx] 41)
      generalize u4.alloc (.cells #[.slice a1 gn c1, .slice a2 nn c2, .slice a3 hn c3, .slice a4 en c4, .int .i64 nx, .int .i64 mx] 41) = wx at kx sx hpx ⊢
      refine ⟨u4.heap.size, a1, c1, a2, c2, a3, c3, a4, c4, rfl, hpx, ⟨nrow_at R1 P1 kx ?_, nrow_at R2 P2 kx ?_, erow_at R3 P3 kx ?_, erow_at R4 P4 kx ?_⟩, kx⟩
      · intro g _ hg
        exact (sx g (by omega)).trans (K14.block g hg)
      · intro g _ hg
        exact (sx g (by omega)).trans (K24.block g hg)
      · intro g _ hg
        exact (sx g (by omega)).trans (j4.block g hg)
      · intro g _ hg
        exact sx g hg
    · have eP : ∀ X : World, ((((((X.setCell ⟨u3.heap.size, 0, none⟩ (.slice a1 gn c1)).setCell ⟨u3.heap.size, 1, none⟩ (.slice a2 nn c2)).setCell ⟨u3.heap.size, 2, none⟩ (.slice a3 hn c3)).setCell ⟨u3.heap.size, 3, none⟩ (.slice a4 en c4)).setCell ⟨u3.heap.size, 4, none⟩ (.int .i64 nx)).setCell ⟨u3.heap.size, 5, none⟩ (.int .i64 mx)) = putL X u3.heap.size 0 [.slice a1 gn c1, .slice a2 nn c2, .slice a3 hn c3, .slice a4 en c4, .int .i64 nx, .int .i64 mx] := fun _ => rfl
      rw [eP]
      have kx : Below V.heap.size V (putL u4 u3.heap.size 0 [.slice a1 gn c1, .slice a2 nn c2, .slice a3 hn c3, .slice a4 en c4, .int .i64 nx, .int .i64 mx]) := k4.trans ((putL_bel u3.heap.size _ _ u4).mono k3.size)
      have sx : ∀ g, g ≠ u3.heap.size → (putL u4 u3.heap.size 0 [.slice a1 gn c1, .slice a2 nn c2, .slice a3 hn c3, .slice a4 en c4, .int .i64 nx, .int .i64 mx]).heap[g]? = u4.heap[g]? := fun g hg => putL_other u3.heap.size [.slice a1 gn c1, .slice a2 nn c2, .slice a3 hn c3, .slice a4 en c4, .int .i64 nx, .int .i64 mx] 0 u4 g hg
      have hpx := putL_here [.slice a1 gn c1, .slice a2 nn c2, .slice a3 hn c3, .slice a4 en c4, .int .i64 nx, .int .i64 mx] 0 u4 _ hp
      generalize putL u4 u3.heap.size 0 [.slice a1 gn c1, .slice a2 nn c2, .slice a3 hn c3, .slice a4 en c4, .int .i64 nx, .int .i64 mx] = wx at kx sx hpx ⊢
      refine ⟨u3.heap.size, a1, c1, a2, c2, a3, c3, a4, c4, rfl, hpx, ⟨nrow_at R1 P1 kx ?_, nrow_at R2 P2 kx ?_, erow_at R3 P3 kx ?_, erow_at R4 P4 kx ?_⟩, kx⟩
      · intro g hl hg
        have hl' := hl
        try simp at hl'
        exact (sx g (by omega)).trans (K14.block g hg)
      · intro g hl hg
        have hl' := hl
        try simp at hl'
        exact (sx g (by omega)).trans (K24.block g hg)
      · intro g hl hg
        have hl' := hl
        try simp at hl'
        exact (sx g (by omega)).trans (j4.block g hg)
      · intro g hl hg
        have hl' := hl
        try simp at hl'
        exact sx g (by omega)
    · have eP : ∀ X : World, ((((((X.setCell ⟨u2.heap.size, 0, none⟩ (.slice a1 gn c1)).setCell ⟨u2.heap.size, 1, none⟩ (.slice a2 nn c2)).setCell ⟨u2.heap.size, 2, none⟩ (.slice a3 hn c3)).setCell ⟨u2.heap.size, 3, none⟩ (.slice a4 en c4)).setCell ⟨u2.heap.size, 4, none⟩ (.int .i64 nx)).setCell ⟨u2.heap.size, 5, none⟩ (.int .i64 mx)) = putL X u2.heap.size 0 [.slice a1 gn c1, .slice a2 nn c2, .slice a3 hn c3, .slice a4 en c4, .int .i64 nx, .int .i64 mx] := fun _ => rfl
      rw [eP]
      have kx : Below V.heap.size V (putL u4 u2.heap.size 0 [.slice a1 gn c1, .slice a2 nn c2, .slice a3 hn c3, .slice a4 en c4, .int .i64 nx, .int .i64 mx]) := k4.trans ((putL_bel u2.heap.size _ _ u4).mono k2.size)
      have sx : ∀ g, g ≠ u2.heap.size → (putL u4 u2.heap.size 0 [.slice a1 gn c1, .slice a2 nn c2, .slice a3 hn c3, .slice a4 en c4, .int .i64 nx, .int .i64 mx]).heap[g]? = u4.heap[g]? := fun g hg => putL_other u2.heap.size [.slice a1 gn c1, .slice a2 nn c2, .slice a3 hn c3, .slice a4 en c4, .int .i64 nx, .int .i64 mx] 0 u4 g hg
      have hpx := putL_here [.slice a1 gn c1, .slice a2 nn c2, .slice a3 hn c3, .slice a4 en c4, .int .i64 nx, .int .i64 mx] 0 u4 _ hp
      generalize putL u4 u2.heap.size 0 [.slice a1 gn c1, .slice a2 nn c2, .slice a3 hn c3, .slice a4 en c4, .int .i64 nx, .int .i64 mx] = wx at kx sx hpx ⊢
      refine ⟨u2.heap.size, a1, c1, a2, c2, a3, c3, a4, c4, rfl, hpx, ⟨nrow_at R1 P1 kx ?_, nrow_at R2 P2 kx ?_, erow_at R3 P3 kx ?_, erow_at R4 P4 kx ?_⟩, kx⟩
      · intro g hl hg
        have hl' := hl
        try simp at hl'
        exact (sx g (by omega)).trans (K14.block g hg)
      · intro g hl hg
        have hl' := hl
        try simp at hl'
        exact (sx g (by omega)).trans (K24.block g hg)
      · intro g hl hg
        have hl' := hl
        try simp at hl'
        exact (sx g (by omega)).trans (j4.block g hg)
      · intro g hl hg
        have hl' := hl
        try simp at hl'
        exact sx g (by omega)
    · have eP : ∀ X : World, ((((((X.setCell ⟨u1.heap.size, 0, none⟩ (.slice a1 gn c1)).setCell ⟨u1.heap.size, 1, none⟩ (.slice a2 nn c2)).setCell ⟨u1.heap.size, 2, none⟩ (.slice a3 hn c3)).setCell ⟨u1.heap.size, 3, none⟩ (.slice a4 en c4)).setCell ⟨u1.heap.size, 4, none⟩ (.int .i64 nx)).setCell ⟨u1.heap.size, 5, none⟩ (.int .i64 mx)) = putL X u1.heap.size 0 [.slice a1 gn c1, .slice a2 nn c2, .slice a3 hn c3, .slice a4 en c4, .int .i64 nx, .int .i64 mx] := fun _ => rfl
      rw [eP]
      have kx : Below V.heap.size V (putL u4 u1.heap.size 0 [.slice a1 gn c1, .slice a2 nn c2, .slice a3 hn c3, .slice a4 en c4, .int .i64 nx, .int .i64 mx]) := k4.trans ((putL_bel u1.heap.size _ _ u4).mono k1.size)
      have sx : ∀ g, g ≠ u1.heap.size → (putL u4 u1.heap.size 0 [.slice a1 gn c1, .slice a2 nn c2, .slice a3 hn c3, .slice a4 en c4, .int .i64 nx, .int .i64 mx]).heap[g]? = u4.heap[g]? := fun g hg => putL_other u1.heap.size [.slice a1 gn c1, .slice a2 nn c2, .slice a3 hn c3, .slice a4 en c4, .int .i64 nx, .int .i64 mx] 0 u4 g hg
      have hpx := putL_here [.slice a1 gn c1, .slice a2 nn c2, .slice a3 hn c3, .slice a4 en c4, .int .i64 nx, .int .i64 mx] 0 u4 _ hp
      generalize putL u4 u1.heap.size 0 [.slice a1 gn c1, .slice a2 nn c2, .slice a3 hn c3, .slice a4 en c4, .int .i64 nx, .int .i64 mx] = wx at kx sx hpx ⊢
      refine ⟨u1.heap.size, a1, c1, a2, c2, a3, c3, a4, c4, rfl, hpx, ⟨nrow_at R1 P1 kx ?_, nrow_at R2 P2 kx ?_, erow_at R3 P3 kx ?_, erow_at R4 P4 kx ?_⟩, kx⟩
      · intro g hl hg
        have hl' := hl
        try simp at hl'
        exact (sx g (by omega)).trans (K14.block g hg)
      · intro g hl hg
        have hl' := hl
        try simp at hl'
        exact (sx g (by omega)).trans (K24.block g hg)
      · intro g hl hg
        have hl' := hl
        try simp at hl'
        exact (sx g (by omega)).trans (j4.block g hg)
      · intro g hl hg
        have hl' := hl
        try simp at hl'
        exact sx g (by omega)
    · have eP : ∀ X : World, ((((((X.setCell ⟨V.heap.size, 0, none⟩ (.slice a1 gn c1)).setCell ⟨V.heap.size, 1, none⟩ (.slice a2 nn c2)).setCell ⟨V.heap.size, 2, none⟩ (.slice a3 hn c3)).setCell ⟨V.heap.size, 3, none⟩ (.slice a4 en c4)).setCell ⟨V.heap.size, 4, none⟩ (.int .i64 nx)).setCell ⟨V.heap.size, 5, none⟩ (.int .i64 mx)) = putL X V.heap.size 0 [.slice a1 gn c1, .slice a2 nn c2, .slice a3 hn c3, .slice a4 en c4, .int .i64 nx, .int .i64 mx] := fun _ => rfl
      rw [eP]
      have kx : Below V.heap.size V (putL u4 V.heap.size 0 [.slice a1 gn c1, .slice a2 nn c2, .slice a3 hn c3, .slice a4 en c4, .int .i64 nx, .int .i64 mx]) := k4.trans ((putL_bel V.heap.size _ _ u4).mono (Nat.le_refl _))
      have sx : ∀ g, g ≠ V.heap.size → (putL u4 V.heap.size 0 [.slice a1 gn c1, .slice a2 nn c2, .slice a3 hn c3, .slice a4 en c4, .int .i64 nx, .int .i64 mx]).heap[g]? = u4.heap[g]? := fun g hg => putL_other V.heap.size [.slice a1 gn c1, .slice a2 nn c2, .slice a3 hn c3, .slice a4 en c4, .int .i64 nx, .int .i64 mx] 0 u4 g hg
      have hpx := putL_here [.slice a1 gn c1, .slice a2 nn c2, .slice a3 hn c3, .slice a4 en c4, .int .i64 nx, .int .i64 mx] 0 u4 _ hp
      generalize putL u4 V.heap.size 0 [.slice a1 gn c1, .slice a2 nn c2, .slice a3 hn c3, .slice a4 en c4, .int .i64 nx, .int .i64 mx] = wx at kx sx hpx ⊢
      refine ⟨V.heap.size, a1, c1, a2, c2, a3, c3, a4, c4, rfl, hpx, ⟨nrow_at R1 P1 kx ?_, nrow_at R2 P2 kx ?_, erow_at R3 P3 kx ?_, erow_at R4 P4 kx ?_⟩, kx⟩
      · intro g hl hg
        have hl' := hl
        try simp at hl'
        exact (sx g (by omega)).trans (K14.block g hg)
      · intro g hl hg
        have hl' := hl
        try simp at hl'
        exact (sx g (by omega)).trans (K24.block g hg)
      · intro g hl hg
        have hl' := hl
        try simp at hl'
        exact (sx g (by omega)).trans (j4.block g hg)
      · intro g hl hg
        have hl' := hl
        try simp at hl'
        exact sx g (by omega)
  case rest =>
    obtain ⟨p, ga6, gc6, na6, nc6, ha6, hc6, ea6, ec6, rfl, hpw, hdw, kx⟩ := hcut
    have spw : p < wc.heap.size := (Array.getElem?_eq_some_iff.1 hpw).1
    have smw : m < wc.heap.size := Nat.lt_of_lt_of_le sV kx.size
    have HBW := toHid (below3 HBV.out HBV.out.size kx)
    have HPW := toHid hpw
    have HDW := toHid hdw
    have HMW := toHid ((kx.block m sV).trans HDV.out)
    have HDAW := toHid (HDAV.out.below kx)
    clear x0 x1 x2 x3 x4 x5 D0 HS HN1 HN2 HN3 HN4 HXV HYV HDV HDAV hpw hdw kx HBV
    have HS : Hid (∀ W' : World, Below wc.heap.size wc W' → W'.cell? ⟨m, 0, none⟩ = some (.slice ga5 gn gc5) ∧ W'.cell? ⟨m, 1, none⟩ = some (.slice na5 nn nc5) ∧ W'.cell? ⟨m, 2, none⟩ = some (.slice ha5 hn hc5) ∧ W'.cell? ⟨m, 3, none⟩ = some (.slice ea5 en ec5) ∧ W'.cell? ⟨m, 4, none⟩ = some (.int .i64 nx) ∧ W'.cell? ⟨m, 5, none⟩ = some (.int .i64 mx) ∧ W'.cell? ⟨p, 0, none⟩ = some (.slice ga6 gn gc6) ∧ W'.cell? ⟨p, 1, none⟩ = some (.slice na6 nn nc6) ∧ W'.cell? ⟨p, 2, none⟩ = some (.slice ha6 hn hc6) ∧ W'.cell? ⟨p, 3, none⟩ = some (.slice ea6 en ec6) ∧ W'.cell? ⟨p, 4, none⟩ = some (.int .i64 nx) ∧ W'.cell? ⟨p, 5, none⟩ = some (.int .i64 mx)) := fun W' kk => by
      have q : ∀ o, W'.cell? ⟨m, o, none⟩ = _ := fun o => (kk.cell (p := ⟨m, o, none⟩) smw).trans (cell_of HMW.out o)
      have q' : ∀ o, W'.cell? ⟨p, o, none⟩ = _ := fun o => (kk.cell (p := ⟨p, o, none⟩) spw).trans (cell_of HPW.out o)
      exact ⟨q 0, q 1, q 2, q 3, q 4, q 5, q' 0, q' 1, q' 2, q' 3, q' 4, q' 5⟩
    obtain ⟨t0, t1, t2, t3, t4, t5, r0, r1, r2, r3, r4, r5⟩ := HS.out wc (Below.refl _ _)
    have D0 : Below wc.heap.size wc wc.drew := (Below.refl _ _).drew
    go_upto_region 8 with fail
    go_region_held3 (fun W' => W'.cell? ⟨m, 0, none⟩ = some (.slice ga5 gn gc5) ∧ W'.cell? ⟨m, 1, none⟩ = some (.slice na5 nn nc5) ∧ W'.cell? ⟨m, 2, none⟩ = some (.slice ha5 hn hc5) ∧ W'.cell? ⟨m, 3, none⟩ = some (.slice ea5 en ec5) ∧ W'.cell? ⟨m, 4, none⟩ = some (.int .i64 nx) ∧ W'.cell? ⟨m, 5, none⟩ = some (.int .i64 mx) ∧ W'.cell? ⟨p, 0, none⟩ = some (.slice ga6 gn gc6) ∧ W'.cell? ⟨p, 1, none⟩ = some (.slice na6 nn nc6) ∧ W'.cell? ⟨p, 2, none⟩ = some (.slice ha6 hn hc6) ∧ W'.cell? ⟨p, 3, none⟩ = some (.slice ea6 en ec6) ∧ W'.cell? ⟨p, 4, none⟩ = some (.int .i64 nx) ∧ W'.cell? ⟨p, 5, none⟩ = some (.int .i64 mx))
      (first
        | with_reducible exact HS.out _ k10
        | with_reducible exact HS.out _ k9
        | with_reducible exact HS.out _ k8
        | with_reducible exact HS.out _ k7
        | with_reducible exact HS.out _ D0
        | go_keep)
      (first
        | (go_at_call 19; go_fit (same_at ⟨HOK.out.2.1, HOK.out.1, HOK.out.2.2.2, HOK.out.2.2.1⟩ (hb8.below h9) (hw9.below k9) c1 c2 c3 c4 nc6 gc6 ec6 hc6 mx nx); rintro e u10 ⟨rfl, h10⟩; have k10 : Below wc.heap.size wc u10 := below3 k9 k9.size h10)
        | (go_at_call 25; go_fit (turnedBack_any ga6 gn gc6 na6 nn nc6 ha6 hn hc6 ea6 en ec6 nx mx u8); rintro e u9 ⟨rfl, h9⟩; have k9 : Below wc.heap.size wc u9 := below3 k8 k8.size h9; have hw9 : DAt wc N G E H na6 nn ga6 gn ea6 en ha6 hn := ⟨HDW.out.2.1, HDW.out.1, HDW.out.2.2.2, HDW.out.2.2.1⟩)
        | (go_at_call 24; go_fit (back_at HOK.out HLEN.out HSZ.out (HDAW.out.below k7) gc5 nc5 hc5 ec5 nx mx); rintro e u8 ⟨⟨a1, c1, a2, c2, a3, c3, a4, c4, rfl, hb8⟩, h8⟩; have k8 : Below wc.heap.size wc u8 := below3 k7 k7.size h8)
        | (go_at_call 19; go_fit (same_at HOK.out (HDAW.out.below D0) (HDW.out.below D0) gc5 nc5 hc5 ec5 gc6 nc6 hc6 ec6 nx mx); rintro e u7 ⟨rfl, h7⟩; have k7 : Below wc.heap.size wc u7 := D0.trans h7))
    all_goals
      go_wp2_with fail
      go_ret
      exact ⟨rfl, below3 HBW.out HBW.out.size k10⟩

theorem law_between (N1 : List Nd) (E1 : List Ed) (na : Option Addr) (nl nc : Nat) (ea : Option Addr) (el ec : Nat) (nx : Int) (N2 : List Nd) (E2 : List Ed) (ma : Option Addr) (ml mc : Nat) (fa : Option Addr) (fl fc : Nat) (mx : Int) (w : World) (h1 : GrOk w N1 E1 na nl ea el) (h2 : GrOk w N2 E2 ma ml fa fl) :
    Calls Tryz.prog 4 #[.agg #[.slice na nl nc, .slice ea el ec, .int .i64 nx], .agg #[.slice ma ml mc, .slice fa fl fc, .int .i64 mx]] w fun e w' => e = .returned (.bool true) ∧ Below w.heap.size w w' := by
  by_cases h0 : gE N1 E1 nx = 0
  · by_cases h00 : gE N2 E2 mx = 0
    · exact between_good2 N1 E1 na nl nc ea el ec nx N2 E2 ma ml mc fa fl fc mx w h1 h2 h0 h00
    · exact between_bad2 N1 E1 na nl nc ea el ec nx N2 E2 ma ml mc fa fl fc mx w h1 h2 h0 h00
  · exact between_bad1 N1 E1 na nl nc ea el ec nx N2 E2 ma ml mc fa fl fc mx w h1 h2 h0
end Go.Proofs.YtakpifphpojbjaaGreatDoor
