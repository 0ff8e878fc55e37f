/-
  What is proved here: what the texts HApply, KOpen, KApply prove, in one text.
-/
import Derived.Test.YtaehecajihgggaaDoorQMAM
import Derived.Test.YtaehecajihgggaaDoorQMAN
import Derived.Test.YtaehecajihgggaaDoorQMAU
import Derived.Test.YtaehecajihgggaaDoorQMAF
namespace Go.Proofs.YtaehecajihgggaaDoor
open Go.RowKit
set_option linter.unusedVariables false

/-- Operations lie where a slice says. -/
def OpsAt (w : World) (L : List Om) (a : Option Addr) (l : Nat) : Prop :=
  l = L.length ∧ l ≤ 9223372036854775807 ∧ (0 < l → ∃ b off, a = some ⟨b, off, none⟩ ∧ b < w.heap.size ∧ ∀ (i : Nat) (o : Om), L[i]? = some o → w.cell? ⟨b, off + i * 11, none⟩ = some (.int .i64 o.k) ∧ w.cell? ⟨b, off + i * 11 + 1, none⟩ = some (.int .i64 o.id) ∧ w.cell? ⟨b, off + i * 11 + 1 + 1, none⟩ = some (.int .i64 o.frm) ∧ w.cell? ⟨b, off + i * 11 + 1 + 1 + 1, none⟩ = some (.int .i64 o.dst) ∧ w.cell? ⟨b, off + i * 11 + 1 + 1 + 1 + 1, none⟩ = some (.string o.name) ∧ w.cell? ⟨b, off + i * 11 + 1 + 1 + 1 + 1 + 1, none⟩ = some (.int .i64 o.vk) ∧ w.cell? ⟨b, off + i * 11 + 1 + 1 + 1 + 1 + 1 + 1, none⟩ = some (.int .i64 o.vn) ∧ w.cell? ⟨b, off + i * 11 + 1 + 1 + 1 + 1 + 1 + 1 + 1, none⟩ = some (.string o.vs) ∧ w.cell? ⟨b, off + i * 11 + 1 + 1 + 1 + 1 + 1 + 1 + 1 + 1, none⟩ = some (.slice o.va o.vl o.vc) ∧ w.cell? ⟨b, off + i * 11 + 1 + 1 + 1 + 1 + 1 + 1 + 1 + 1 + 1, none⟩ = some (.slice o.la o.ll o.lc) ∧ w.cell? ⟨b, off + i * 11 + 1 + 1 + 1 + 1 + 1 + 1 + 1 + 1 + 1 + 1, none⟩ = some (.slice o.pa o.pl o.pc))

def zeroGr : Value := .agg #[.slice none 0 0, .slice none 0 0, .int .i64 0]

/-- What Apply answers: the first error and where it is, or what the work is behind all. -/
def ApplyEnd (w' : World) (n : Nat) (er : Nat → Int) (S : WS) (e : Ending) : Prop :=
  (∃ i, i < n ∧ (∀ j, j < i → er j = 0) ∧ er i ≠ 0 ∧ e = .returned (.tuple #[zeroGr, .slice none 0 0, .int .i64 i, .int .i64 (er i)])) ∨
  ((∀ j, j < n → er j = 0) ∧ ∃ na nc ea ec ma mc, e = .returned (.tuple #[.agg #[.slice na S.N.length nc, .slice ea S.E.length ec, .int .i64 S.next], .slice ma S.made.length mc, .int .i64 0, .int .i64 0]) ∧ S.N.length ≤ nc ∧ NsAt w' S.N na S.N.length ∧ S.E.length ≤ ec ∧ EsAt w' S.E ea S.E.length ∧ IntsAt w' S.made ma S.made.length)

theorem work_reads {O : Nat → Prop} {w : World} {b : Nat} {S : WS} (h : WorkIn O w b S) (hm : S.made.length ≤ 9223372036854775807) : ∃ na nc ea ec ma mc, w.heap[b]? = some (.cells #[.slice na S.N.length nc, .slice ea S.E.length ec, .int .i64 S.next, .slice ma S.made.length mc] 49 (0, 0)) ∧
    ∀ w' : World, w.heap.size ≤ w'.heap.size → (∀ i, O i → w'.heap[i]? = w.heap[i]?) → S.N.length ≤ nc ∧ NsAt w' S.N na S.N.length ∧ S.E.length ≤ ec ∧ EsAt w' S.E ea S.E.length ∧ IntsAt w' S.made ma S.made.length := by
  obtain ⟨na, nc, ea, ec, ma, mc, PN, PE, PM, hw⟩ := h
  refine ⟨na, nc, ea, ec, ma, mc, hw.blk, fun w' hs hk => ?_⟩
  have h1 := (hw.ns.kept (A' := PN) (w' := w') ⟨hs, fun i hi _ => ⟨hi, hk i (hw.pn i hi).1⟩⟩).reads2
  have h2 := (hw.es.kept (A' := PE) (w' := w') ⟨hs, fun i hi _ => ⟨hi, hk i (hw.pe i hi).1⟩⟩).reads2
  have h3 := row_keep hw.mr (w' := w') fun g hg _ => hk g (hw.pm g (hw.ms g hg)).1
  obtain ⟨a, c, he, hi⟩ := ints_of_row h3 hm
  injection he with e1 _ e3
  subst e1
  exact ⟨h1.1, h1.2, h2.1, h2.2, hi⟩

set_option maxHeartbeats 16000000 in
set_option maxRecDepth 100000 in
theorem apply_of (XN : List AN) (XE : List AE) (next : Int) (na : Option Addr) (nl nc : Nat) (ea : Option Addr) (el ec : Nat) (ops : List Om) (oa : Option Addr) (ol oc : Nat) (er : Nat → Int) (Sf : Nat → WS) (w : World)
    (hC : ∀ W, Below w.heap.size w W → Calls Tryd.prog 6 #[.agg #[.slice na nl nc, .slice ea el ec, .int .i64 next]] W fun e w' => e = .returned (.int .i64 0) ∧ Below W.heap.size W w')
    (hN : NsAt w XN na nl) (hE : EsAt w XE ea el) (hnl : nl ≤ 1000) (hel : el ≤ 1000) (hNo : ∀ x ∈ XN, x.ok) (hEo : ∀ x ∈ XE, x.ok)
    (hops : OpsAt w ops oa ol) (hol : ol ≤ 20) (hS0 : Sf 0 = ⟨XN, XE, next, []⟩) (hmade : ∀ i, (Sf i).made.length ≤ 9223372036854775807)
    (hstep : ∀ i o, ops[i]? = some o → (∀ j, j < i → er j = 0) → ∀ O b W, WorkIn O W b (Sf i) → (∀ j, O j → w.heap.size ≤ j) → Below w.heap.size w W → Calls Tryd.prog 11 #[.pointer (some ⟨b, 0, none⟩), .agg #[.int .i64 o.k, .int .i64 o.id, .int .i64 o.frm, .int .i64 o.dst, .string o.name, .int .i64 o.vk, .int .i64 o.vn, .string o.vs, .slice o.va o.vl o.vc, .slice o.la o.ll o.lc, .slice o.pa o.pl o.pc]] W fun e w' => ActEnd O W w' b (Sf (i + 1)) (er i) e) :
    Calls Tryd.prog 5 #[.agg #[.slice na nl nc, .slice ea el ec, .int .i64 next], .slice oa ol oc] w fun e w' => ApplyEnd w' ol er (Sf ol) e ∧ Below w.heap.size w w' := by
  have HC := toHid hC
  have HSTEP := toHid hstep
  have HOPS := toHid hops
  have HS0 := toHid hS0
  have HMADE := toHid hmade
  have HF : Hid (∀ W, Below w.heap.size w W → Calls Tryd.prog 10 #[.agg #[.slice na nl nc, .slice ea el ec, .int .i64 next]] W fun e w' => (∃ na1 nc1 ea1 ec1 m, e = .returned (.agg #[.slice na1 XN.length nc1, .slice ea1 XE.length ec1, .int .i64 next]) ∧ W.heap.size ≤ m ∧ NsOwn (fun i => W.heap.size ≤ i ∧ i < m) w' XN (.slice na1 XN.length nc1) ∧ EsOwn (fun i => m ≤ i) w' XE (.slice ea1 XE.length ec1)) ∧ Below W.heap.size W w') := fun W kW => (freshGraph_any XN XE na nl nc ea el ec next W (hN.below kW) (hE.below kW) hnl hel hNo hEo).mono fun e w' ⟨⟨nv, ev, m, he, hm, h1, h2⟩, k⟩ => ⟨by
    obtain ⟨a1, c1, rfl, _⟩ := h1.reads
    obtain ⟨a2, c2, rfl, _⟩ := h2.reads
    exact ⟨a1, c1, a2, c2, m, he, hm, h1, h2⟩, k⟩
  obtain ⟨xl, hxl⟩ : ∃ z, z = XN.length := ⟨_, rfl⟩
  obtain ⟨yl, hyl⟩ : ∃ z, z = XE.length := ⟨_, rfl⟩
  rw [← hxl, ← hyl] at HF
  have HXL := toHid hxl
  have HYL := toHid hyl
  clear hC hstep hops hS0 hmade hN hE hNo hEo hnl hel hxl hyl
  have b0 : Below w.heap.size w ((w.alloc (.cells #[.slice na nl nc, .slice ea el ec, .int .i64 next] 25)).alloc (.cells #[.slice none 0 0, .slice none 0 0, .int .i64 0] 25)) := ((Below.refl _ _).alloc (Nat.le_refl _) _).alloc (by simp) _
  have hx := (Below.heap_alloc (w.alloc (.cells #[.slice na nl nc, .slice ea el ec, .int .i64 next] 25)) (.cells #[.slice none 0 0, .slice none 0 0, .int .i64 0] 25) w.heap.size (by simp)).trans (alloc_new w (.cells #[.slice na nl nc, .slice ea el ec, .int .i64 next] 25))
  have hy := alloc_two w (.cells #[.slice na nl nc, .slice ea el ec, .int .i64 next] 25) (.cells #[.slice none 0 0, .slice none 0 0, .int .i64 0] 25)
  have z0 : ((w.alloc (.cells #[.slice na nl nc, .slice ea el ec, .int .i64 next] 25)).alloc (.cells #[.slice none 0 0, .slice none 0 0, .int .i64 0] 25)).heap.size = w.heap.size + 2 := by simp
  have HB := toHid b0
  have HX := toHid hx
  have HY := toHid hy
  have HZ := toHid z0
  clear b0 hx hy z0
  go_enter Tryd.func5, Tryd.ntmps5
  go_wp2_with fail
  refine (HC.out _ HB.out).mono ?_
  generalize (w.alloc (.cells #[.slice na nl nc, .slice ea el ec, .int .i64 next] 25)).alloc (.cells #[.slice none 0 0, .slice none 0 0, .int .i64 0] 25) = W at HB HX HY HZ ⊢
  rintro e w1 ⟨rfl, k1⟩
  have HB1 := toHid (HB.out.trans (k1.mono HB.out.size))
  have HX1 := toHid ((k1.block w.heap.size (by rw [HZ.out]; omega)).trans HX.out)
  have HY1 := toHid ((k1.block (w.heap.size + 1) (by rw [HZ.out]; omega)).trans HY.out)
  have s1 : w.heap.size + 2 ≤ w1.heap.size := by have := k1.size; rw [HZ.out] at this; exact this
  clear k1 HB HX HY HZ HC
  have c0 := cell_of HX1.out 0
  have c1 := cell_of HX1.out 1
  have c2 := cell_of HX1.out 2
  simp at c0 c1 c2
  have hol' : ¬ ((20 : Int) < ol) := by omega
  go_wp2_with fail
  refine (HF.out _ HB1.out).mono ?_
  rintro e w2 ⟨⟨na1, nc1, ea1, ec1, m, rfl, hm, hno, heo⟩, k2⟩
  have HB2 := toHid (HB1.out.trans (k2.mono HB1.out.size))
  have HY2 := toHid ((k2.block (w.heap.size + 1) (by omega)).trans HY1.out)
  have s2 : w.heap.size + 2 ≤ w2.heap.size := Nat.le_trans s1 k2.size
  have hwk : ∃ O, WorkIn O (w2.alloc (.cells #[.slice na1 xl nc1, .slice ea1 yl ec1, .int .i64 next, .slice none 0 0] 49)) w2.heap.size (Sf 0) ∧ ∀ j, O j → w.heap.size + 2 ≤ j := by
    refine ⟨fun i => w1.heap.size ≤ i ∧ i < w2.heap.size + 1, ⟨na1, nc1, ea1, ec1, none, 0, (fun i => (w1.heap.size ≤ i ∧ i < m) ∧ i < w2.heap.size), (fun i => m ≤ i ∧ i < w2.heap.size), (fun _ => False), ?_⟩, fun j hj => by omega⟩
    rw [HS0.out]
    have kA : Below w2.heap.size w2 (w2.alloc (.cells #[.slice na1 xl nc1, .slice ea1 yl ec1, .int .i64 next, .slice none 0 0] 49)) := (Below.refl _ _).alloc (Nat.le_refl _) _
    have hs12 := k2.size
    refine ⟨?_, ⟨hs12, by omega⟩, fun i hi => by simp; exact hi.2, fun i hi => ⟨⟨hi.1.1, by omega⟩, by omega⟩, fun i hi => ⟨⟨by omega, by omega⟩, by omega, fun q => by omega⟩, fun i hi => hi.elim, ?_, ?_, (fun g hg => by cases hg), World.ownsRow_nil _ _ _ _⟩
    · rw [alloc_new, HXL.out, HYL.out]; rfl
    · rw [HXL.out] at hno
      exact hno.kept ⟨kA.size, fun i hi hl => ⟨⟨hi, hl⟩, kA.block i hl⟩⟩
    · rw [HYL.out] at heo
      exact heo.kept ⟨kA.size, fun i hi hl => ⟨⟨hi, hl⟩, kA.block i hl⟩⟩
  have HWK := toHid hwk
  clear hwk hno heo k2 hm HF HB1 HX1 HY1 c0 c1 c2 s1
  have b3 : Below w.heap.size w (w2.alloc (.cells #[.slice na1 xl nc1, .slice ea1 yl ec1, .int .i64 next, .slice none 0 0] 49)) := HB2.out.alloc (by omega) _
  have y3 := (Below.heap_alloc w2 (.cells #[.slice na1 xl nc1, .slice ea1 yl ec1, .int .i64 next, .slice none 0 0] 49) (w.heap.size + 1) (by omega)).trans HY2.out
  have HB3 := toHid b3
  have HY3 := toHid y3
  clear b3 y3
  go_wp2_with fail
  generalize w2.alloc (.cells #[.slice na1 xl nc1, .slice ea1 yl ec1, .int .i64 next, .slice none 0 0] 49) = W3 at HWK HB3 HY3 ⊢
  generalize w2.heap.size = b at HWK ⊢
  obtain ⟨O0, hO0, hO0b⟩ := HWK.out
  have HO0 := toHid hO0
  have HO0B := toHid hO0b
  clear hO0 hO0b HWK HB2 HY2
  go_loopg [29] ol (fun g s29 wr => ∃ (i : Nat) (O : Nat → Prop), i ≤ ol ∧ ol - i ≤ g ∧ s29 = .int .i64 i ∧ (∀ j, j < i → er j = 0) ∧ WorkIn O wr b (Sf i) ∧ (∀ j, O j → w.heap.size + 2 ≤ j) ∧ wr.heap[w.heap.size + 1]? = some (.cells #[.slice none 0 0, .slice none 0 0, .int .i64 0] 25 (0, 0)) ∧ Below w.heap.size w wr)
  case atStart => exact ⟨0, O0, Nat.zero_le _, by omega, rfl, fun j hj => absurd hj (Nat.not_lt_zero _), HO0.out, HO0B.out, HY3.out, HB3.out⟩
  case round =>
    obtain ⟨i, O, hi, hg, rfl, hers, hwk, hOb, hyr, hbr⟩ := hrel
    have HERS := toHid hers
    have HWK := toHid hwk
    have HOB := toHid hOb
    have HYR := toHid hyr
    have HBR := toHid hbr
    have sr : w.heap.size + 2 ≤ wr.heap.size := (Array.getElem?_eq_some_iff.1 hyr).1
    clear hers hwk hOb hyr hbr HO0 HO0B HB3 HY3
    by_cases hlt : i < ol
    · obtain ⟨ob, off, ha, hb, hc⟩ := HOPS.out.2.2 (by omega)
      subst ha
      obtain ⟨o, ho, _⟩ := drop_get (L := ops) (i := i) (by have := HOPS.out.1; omega)
      obtain ⟨c0, c1, c2, c3, c4, c5, c6, c7, c8, c9, c10⟩ := hc i o ho
      have q : ∀ x, wr.cell? ⟨ob, x, none⟩ = w.cell? ⟨ob, x, none⟩ := fun x => HBR.out.cell (p := ⟨ob, x, none⟩) hb
      have d0 := (q _).trans c0
      have d1 := (q _).trans c1
      have d2 := (q _).trans c2
      have d3 := (q _).trans c3
      have d4 := (q _).trans c4
      have d5 := (q _).trans c5
      have d6 := (q _).trans c6
      have d7 := (q _).trans c7
      have d8 := (q _).trans c8
      have d9 := (q _).trans c9
      have d10 := (q _).trans c10
      have hil : (i : Int) < ol := by omega
      obtain ⟨z, hz⟩ : ∃ z, z = er i := ⟨_, rfl⟩
      have HDO : Hid (Calls Tryd.prog 11 #[.pointer (some ⟨b, 0, none⟩), .agg #[.int .i64 o.k, .int .i64 o.id, .int .i64 o.frm, .int .i64 o.dst, .string o.name, .int .i64 o.vk, .int .i64 o.vn, .string o.vs, .slice o.va o.vl o.vc, .slice o.la o.ll o.lc, .slice o.pa o.pl o.pc]] (wr.alloc (.cells #[.int .i64 o.k, .int .i64 o.id, .int .i64 o.frm, .int .i64 o.dst, .string o.name, .int .i64 o.vk, .int .i64 o.vn, .string o.vs, .slice o.va o.vl o.vc, .slice o.la o.ll o.lc, .slice o.pa o.pl o.pc] 33)) fun e w' => ActEnd O (wr.alloc (.cells #[.int .i64 o.k, .int .i64 o.id, .int .i64 o.frm, .int .i64 o.dst, .string o.name, .int .i64 o.vk, .int .i64 o.vn, .string o.vs, .slice o.va o.vl o.vc, .slice o.la o.ll o.lc, .slice o.pa o.pl o.pc] 33)) w' b (Sf (i + 1)) z e) := by
        rw [hz]
        exact HSTEP.out i o ho HERS.out O b _ (HWK.out.below ((Below.refl _ _).alloc (Nat.le_refl _) _)) (fun j hj => by have := HOB.out j hj; omega) (HBR.out.alloc (by omega) _)
      have HZI := toHid hz
      have kA : Below wr.heap.size wr (wr.alloc (.cells #[.int .i64 o.k, .int .i64 o.id, .int .i64 o.frm, .int .i64 o.dst, .string o.name, .int .i64 o.vk, .int .i64 o.vn, .string o.vs, .slice o.va o.vl o.vc, .slice o.la o.ll o.lc, .slice o.pa o.pl o.pc] 33)) := (Below.refl _ _).alloc (Nat.le_refl _) _
      have HKA := toHid kA
      clear c0 c1 c2 c3 c4 c5 c6 c7 c8 c9 c10 q hc ho hz kA
      go_wp2_with fail
      refine HDO.out.mono ?_
      clear HDO
      generalize wr.alloc (.cells #[.int .i64 o.k, .int .i64 o.id, .int .i64 o.frm, .int .i64 o.dst, .string o.name, .int .i64 o.vk, .int .i64 o.vn, .string o.vs, .slice o.va o.vl o.vc, .slice o.la o.ll o.lc, .slice o.pa o.pl o.pc] 33) = W4 at HKA ⊢
      rintro e w5 ⟨rfl, hr5, hs5⟩
      have hr : Rest O wr w5 := (Rest.of_below HKA.out).trans hr5 (fun _ _ q => q)
      have y5 := (hr.block (w.heap.size + 1) (by omega) (fun q => by have := HOB.out _ q; omega)).trans HYR.out
      have k5 : Below w.heap.size w w5 := HBR.out.trans (hr.below (by omega) (fun j hj => by have := HOB.out j hj; omega))
      have HR5 := toHid hr
      have HY5 := toHid y5
      have HK5 := toHid k5
      have HS5 := toHid hs5
      clear hr5 hs5 hr y5 k5 d0 d1 d2 d3 d4 d5 d6 d7 d8 d9 d10
      by_cases hz0 : z = 0
      · subst hz0
        have HZ0 := toHid HZI.out.symm
        have HST := toHid (StepEnd.behind HWK.out HKA.out (HS5.out rfl))
        go_wp2_with fail
        go_roundg (ol - (i + 1))
        case measure => omega
        case rel =>
          refine ⟨i + 1, Now O wr w5, by omega, by omega, by go_num, fun j hj => ?_, HST.out.1, fun j hj => ?_, HY5.out, HK5.out⟩
          · rcases Nat.lt_or_ge j i with h | h
            · exact HERS.out j h
            · have : j = i := by omega
              rw [this]
              exact HZ0.out
          · rcases hj with h | h
            · exact HOB.out j h
            · omega
      · have hz' : (z != 0) = true := by simp [hz0]
        have HZN := toHid hz0
        have r0 := cell_of HY5.out 0
        have r1 := cell_of HY5.out 1
        have r2 := cell_of HY5.out 2
        have g0 := free_of HY5.out 0
        have g1 := free_of HY5.out 1
        have g2 := free_of HY5.out 2
        simp at r0 r1 r2
        clear hz0
        go_wp2_with fail
        have eP : ∀ X : World, ((X.setCell ⟨w.heap.size + 1, 0, none⟩ (.slice none 0 0)).setCell ⟨w.heap.size + 1, 1, none⟩ (.slice none 0 0)).setCell ⟨w.heap.size + 1, 2, none⟩ (.int .i64 0) = putL X (w.heap.size + 1) 0 [.slice none 0 0, .slice none 0 0, .int .i64 0] := fun _ => rfl
        rw [eP]
        have E := putL_here [.slice none 0 0, .slice none 0 0, .int .i64 0] 0 w5 _ HY5.out
        have hbb : Below w.heap.size w (putL w5 (w.heap.size + 1) 0 [.slice none 0 0, .slice none 0 0, .int .i64 0]) := HK5.out.trans ((putL_bel (w.heap.size + 1) _ _ w5).mono (by omega))
        generalize putL w5 (w.heap.size + 1) 0 [.slice none 0 0, .slice none 0 0, .int .i64 0] = Y at E hbb ⊢
        have t0 := cell_of E 0
        have t1 := cell_of E 1
        have t2 := cell_of E 2
        simp [setL] at t0 t1 t2
        exact bodyPost_ret (v := .tuple #[zeroGr, .slice none 0 0, .int .i64 i, .int .i64 z]) (by simp [results, Tryd.results5, go_sem, t0, t1, t2, zeroGr]) rfl ⟨.inl ⟨i, hlt, HERS.out, by rw [← HZI.out]; exact HZN.out, by rw [← HZI.out]⟩, hbb⟩
    · have hil : i = ol := by omega
      subst hil
      obtain ⟨na2, nc2, ea2, ec2, ma2, mc2, hblk, hread⟩ := work_reads HWK.out (HMADE.out i)
      obtain ⟨n2, hn2⟩ : ∃ z, z = (Sf i).N.length := ⟨_, rfl⟩
      obtain ⟨e2, he2⟩ : ∃ z, z = (Sf i).E.length := ⟨_, rfl⟩
      obtain ⟨x2, hx2⟩ : ∃ z, z = (Sf i).next := ⟨_, rfl⟩
      obtain ⟨m2, hm2⟩ : ∃ z, z = (Sf i).made.length := ⟨_, rfl⟩
      rw [← hn2, ← he2, ← hx2, ← hm2] at hblk
      have HEQ := toHid (show n2 = (Sf i).N.length ∧ e2 = (Sf i).E.length ∧ x2 = (Sf i).next ∧ m2 = (Sf i).made.length from ⟨hn2, he2, hx2, hm2⟩)
      have HREAD := toHid hread
      have HNB : Hid (¬ O (w.heap.size + 1)) := fun q => by have := HOB.out _ q; omega
      have hbl : b < wr.heap.size := (Array.getElem?_eq_some_iff.1 hblk).1
      have c0 := cell_of hblk 0
      have c1 := cell_of hblk 1
      have c2 := cell_of hblk 2
      have c3 := cell_of hblk 3
      have r0 := cell_of HYR.out 0
      have r1 := cell_of HYR.out 1
      have r2 := cell_of HYR.out 2
      have g0 := free_of HYR.out 0
      have g1 := free_of HYR.out 1
      have g2 := free_of HYR.out 2
      simp at c0 c1 c2 c3 r0 r1 r2
      clear hblk hread hn2 he2 hx2 hm2
      go_upto_region 14 with fail
      go_region
      all_goals
        go_wp2_with fail
        have eP : ∀ X : World, ((X.setCell ⟨w.heap.size + 1, 0, none⟩ (.slice na2 n2 nc2)).setCell ⟨w.heap.size + 1, 1, none⟩ (.slice ea2 e2 ec2)).setCell ⟨w.heap.size + 1, 2, none⟩ (.int .i64 x2) = putL X (w.heap.size + 1) 0 [.slice na2 n2 nc2, .slice ea2 e2 ec2, .int .i64 x2] := fun _ => rfl
        rw [eP]
        have E : (putL wr (w.heap.size + 1) 0 [.slice na2 n2 nc2, .slice ea2 e2 ec2, .int .i64 x2]).drew.heap[w.heap.size + 1]? = _ := putL_here [.slice na2 n2 nc2, .slice ea2 e2 ec2, .int .i64 x2] 0 wr _ HYR.out
        have hbb : Below w.heap.size w (putL wr (w.heap.size + 1) 0 [.slice na2 n2 nc2, .slice ea2 e2 ec2, .int .i64 x2]).drew := (HBR.out.trans ((putL_bel (w.heap.size + 1) _ _ wr).mono (by omega))).drew
        have hrd := HREAD.out (putL wr (w.heap.size + 1) 0 [.slice na2 n2 nc2, .slice ea2 e2 ec2, .int .i64 x2]).drew (by show _ ≤ (putL wr _ _ _).heap.size; rw [putL_size]; exact Nat.le_refl _) (fun j hj => putL_other _ _ _ wr j (fun e => HNB.out (e ▸ hj)))
        generalize (putL wr (w.heap.size + 1) 0 [.slice na2 n2 nc2, .slice ea2 e2 ec2, .int .i64 x2]).drew = Y at E hbb hrd ⊢
        have t0 := cell_of E 0
        have t1 := cell_of E 1
        have t2 := cell_of E 2
        simp [setL] at t0 t1 t2
        obtain ⟨q1, q2, q3, q4⟩ := HEQ.out
        exact bodyPost_ret (v := .tuple #[.agg #[.slice na2 n2 nc2, .slice ea2 e2 ec2, .int .i64 x2], .slice ma2 m2 mc2, .int .i64 0, .int .i64 0]) (by simp [results, Tryd.results5, go_sem, t0, t1, t2]) rfl ⟨.inr ⟨HERS.out, na2, nc2, ea2, ec2, ma2, mc2, by rw [← q1, ← q2, ← q3, ← q4], hrd⟩, hbb⟩

theorem cells11o : Tryd.prog.cellsOf 33 = 11 := by kernel_rfl

theorem len11 {cs : List Value} (h : cs.length = 11) : ∃ c0 c1 c2 c3 c4 c5 c6 c7 c8 c9 c10, cs = [c0, c1, c2, c3, c4, c5, c6, c7, c8, c9, c10] := by
  match cs, h with
  | [c0, c1, c2, c3, c4, c5, c6, c7, c8, c9, c10], _ => exact ⟨c0, c1, c2, c3, c4, c5, c6, c7, c8, c9, c10, rfl⟩

section
variable {H : Type} {enc : TypeId × Value → H} {w : World} {base : Nat} {spare : Nat → Bool} {held : Bool}

theorem trod_op {fuel : Nat} {cs : List Value} {x : DataW H × List MemPlace} (h : DataW.trod enc Tryd.prog w base spare held fuel 33 cs = some x) :
    ∃ (o : Om) (m m' : Nat) (y1 y2 y3 : DataW H × List MemPlace), cs = [.int .i64 o.k, .int .i64 o.id, .int .i64 o.frm, .int .i64 o.dst, .string o.name, .int .i64 o.vk, .int .i64 o.vn, .string o.vs, .slice o.va o.vl o.vc, .slice o.la o.ll o.lc, .slice o.pa o.pl o.pc] ∧ (Lit.int .i64 o.id).wf = true ∧ (Lit.int .i64 o.frm).wf = true ∧ (Lit.int .i64 o.dst).wf = true ∧ o.name.size ≤ maxLen ∧ (Lit.int .i64 o.vn).wf = true ∧ o.vs.size ≤ maxLen ∧ DataW.trod enc Tryd.prog w base spare held m' 27 [.slice o.va o.vl o.vc] = some y1 ∧ DataW.trod enc Tryd.prog w base spare held m 30 [.slice o.la o.ll o.lc] = some y2 ∧ DataW.trod enc Tryd.prog w base spare held m 31 [.slice o.pa o.pl o.pc] = some y3 := by
  obtain ⟨xs, m, rfl, rfl, hlen, hxs, hf⟩ := DataW.trod_struct Tryd.underlying33 h
  rw [cells11o] at hlen
  obtain ⟨c0, c1, c2, c3, c4, c5, c6, c7, c8, c9, c10, rfl⟩ := len11 hlen
  have f0 : DataW.trod enc Tryd.prog w base spare held m 3 (([c0, c1, c2, c3, c4, c5, c6, c7, c8, c9, c10].drop 0).take (Tryd.prog.cellsOf 3)) = xs[0]? := hf 0 _ rfl
  have f1 : DataW.trod enc Tryd.prog w base spare held m 3 (([c0, c1, c2, c3, c4, c5, c6, c7, c8, c9, c10].drop 1).take (Tryd.prog.cellsOf 3)) = xs[1]? := hf 1 _ rfl
  have f2 : DataW.trod enc Tryd.prog w base spare held m 3 (([c0, c1, c2, c3, c4, c5, c6, c7, c8, c9, c10].drop 2).take (Tryd.prog.cellsOf 3)) = xs[2]? := hf 2 _ rfl
  have f3 : DataW.trod enc Tryd.prog w base spare held m 3 (([c0, c1, c2, c3, c4, c5, c6, c7, c8, c9, c10].drop 3).take (Tryd.prog.cellsOf 3)) = xs[3]? := hf 3 _ rfl
  have f4 : DataW.trod enc Tryd.prog w base spare held m 9 (([c0, c1, c2, c3, c4, c5, c6, c7, c8, c9, c10].drop 4).take (Tryd.prog.cellsOf 9)) = xs[4]? := hf 4 _ rfl
  have f5 : DataW.trod enc Tryd.prog w base spare held m 29 (([c0, c1, c2, c3, c4, c5, c6, c7, c8, c9, c10].drop 5).take (Tryd.prog.cellsOf 29)) = xs[5]? := hf 5 _ rfl
  have f6 : DataW.trod enc Tryd.prog w base spare held m 30 (([c0, c1, c2, c3, c4, c5, c6, c7, c8, c9, c10].drop 9).take (Tryd.prog.cellsOf 30)) = xs[6]? := hf 6 _ rfl
  have f7 : DataW.trod enc Tryd.prog w base spare held m 31 (([c0, c1, c2, c3, c4, c5, c6, c7, c8, c9, c10].drop 10).take (Tryd.prog.cellsOf 31)) = xs[7]? := hf 7 _ rfl
  have hx : xs.length = 8 := hxs
  obtain ⟨y0, hy0⟩ : ∃ y, xs[0]? = some y := ⟨xs[0], by simp [hx]⟩
  obtain ⟨y1, hy1⟩ : ∃ y, xs[1]? = some y := ⟨xs[1], by simp [hx]⟩
  obtain ⟨y2, hy2⟩ : ∃ y, xs[2]? = some y := ⟨xs[2], by simp [hx]⟩
  obtain ⟨y3, hy3⟩ : ∃ y, xs[3]? = some y := ⟨xs[3], by simp [hx]⟩
  obtain ⟨y4, hy4⟩ : ∃ y, xs[4]? = some y := ⟨xs[4], by simp [hx]⟩
  obtain ⟨y5, hy5⟩ : ∃ y, xs[5]? = some y := ⟨xs[5], by simp [hx]⟩
  obtain ⟨y6, hy6⟩ : ∃ y, xs[6]? = some y := ⟨xs[6], by simp [hx]⟩
  obtain ⟨y7, hy7⟩ : ∃ y, xs[7]? = some y := ⟨xs[7], by simp [hx]⟩
  rw [hy0, cells1i] at f0
  rw [hy1, cells1i] at f1
  rw [hy2, cells1i] at f2
  rw [hy3, cells1i] at f3
  rw [hy4, cells1s] at f4
  rw [hy5, cells4] at f5
  rw [hy6, cells1t] at f6
  rw [hy7, cells1p] at f7
  have g0 : DataW.trod enc Tryd.prog w base spare held m 3 [c0] = some y0 := f0
  have g1 : DataW.trod enc Tryd.prog w base spare held m 3 [c1] = some y1 := f1
  have g2 : DataW.trod enc Tryd.prog w base spare held m 3 [c2] = some y2 := f2
  have g3 : DataW.trod enc Tryd.prog w base spare held m 3 [c3] = some y3 := f3
  have g4 : DataW.trod enc Tryd.prog w base spare held m 9 [c4] = some y4 := f4
  have g5 : DataW.trod enc Tryd.prog w base spare held m 29 [c5, c6, c7, c8] = some y5 := f5
  have g6 : DataW.trod enc Tryd.prog w base spare held m 30 [c9] = some y6 := f6
  have g7 : DataW.trod enc Tryd.prog w base spare held m 31 [c10] = some y7 := f7
  obtain ⟨k, e0, _, _⟩ := DataW.trod_int Tryd.underlying3 g0
  obtain ⟨id, e1, _, w1⟩ := DataW.trod_int Tryd.underlying3 g1
  obtain ⟨frm, e2, _, w2⟩ := DataW.trod_int Tryd.underlying3 g2
  obtain ⟨dst, e3, _, w3⟩ := DataW.trod_int Tryd.underlying3 g3
  obtain ⟨name, e4, _, w4⟩ := DataW.trod_string Tryd.underlying9 g4
  obtain ⟨vk, vn, vs, va, vl, vc, m', y, e5, wk, wn, hs, _, hy⟩ := trod_value g5
  obtain ⟨la, ll, lc, rfl⟩ := slice_form Tryd.underlying30 g6
  obtain ⟨pa, pl, pc, rfl⟩ := slice_form Tryd.underlying31 g7
  simp only [List.cons.injEq, and_true] at e0 e1 e2 e3 e4 e5
  obtain ⟨rfl, rfl, rfl, rfl⟩ := e5
  subst e0 e1 e2 e3 e4
  exact ⟨⟨k, id, frm, dst, name, vk, vn, vs, va, vl, vc, la, ll, lc, pa, pl, pc⟩, m, m', y, y6, y7, rfl, w1, w2, w3, w4, wn, hs, hy, g6, g7⟩

theorem wf_low {n : Int} (h : (Lit.int .i64 n).wf = true) : -9223372036854775808 ≤ n ∧ n ≤ 9223372036854775807 := by simpa [Lit.wf, IntKind.min, IntKind.max, IntKind.signed, IntKind.bits] using h

/-- An operation, by what it holds. -/
theorem op_in (B : Nat) (hB : B ≤ w.heap.size) (hT : Tabs B w) {fuel : Nat} {cs : List Value} {x : DataW H × List MemPlace} (h : DataW.trod enc Tryd.prog w base spare held fuel 33 cs = some x) :
    ∃ d : OpD, cs = [.int .i64 d.o.k, .int .i64 d.o.id, .int .i64 d.o.frm, .int .i64 d.o.dst, .string d.o.name, .int .i64 d.o.vk, .int .i64 d.o.vn, .string d.o.vs, .slice d.o.va d.o.vl d.o.vc, .slice d.o.la d.o.ll d.o.lc, .slice d.o.pa d.o.pl d.o.pc] ∧ OpIn w d ∧ OpRt d := by
  have hm : maxLen ≤ 9223372036854775807 := by unfold maxLen; decide
  obtain ⟨o, m, m', y1, y2, y3, hcs, w1, w2, w3, hn, wn, hs, q1, q2, q3⟩ := trod_op h
  obtain ⟨hvc, Lv, hLv, hin⟩ := tree_in m' q1
  obtain ⟨hlc, labs, hlabs⟩ := strs_in q2
  obtain ⟨hpc, P, hP, hO⟩ := props_in B hB hT q3
  have hT2 : InT (.node o.vk o.vn o.vs Lv) := by
    unfold InT
    exact ⟨wf_low wn, hin⟩
  obtain ⟨eC, hC, hck⟩ := bk_all B w hB hT 6 0 rfl o.vk o.vn o.vs o.va o.vl o.vc Lv (by omega) hT2 hLv
  obtain ⟨X, hX⟩ : ∃ X : List AP, prsE P = 0 → Pair2 (PrIn AnyB w) P X ∧ RtP X := by
    by_cases h0 : prsE P = 0
    · obtain ⟨X, hX⟩ := props_right hP hO h0
      exact ⟨X, fun _ => hX⟩
    · exact ⟨[], fun h => absurd h h0⟩
  refine ⟨⟨o, labs, P, X, Lv, labsE labs, prsE P, eC⟩, hcs, ?_, ⟨fun h => (labsE_iff _).1 h, fun h => (hX h).2, hck⟩⟩
  have pb : prsE P = 0 → ∀ W, Below w.heap.size w W → Pair2 (PrIn AnyB W) P X := fun h0 W k => (hX h0).1.mono fun p x _ _ h => h.below k
  refine ⟨(wf_low w1).1, (wf_low w2).1, (wf_low w3).1, by show o.name.size ≤ _; omega, by show o.vs.size ≤ _; omega, fun W k => labels_of name_any _ _ _ _ W (hlabs.below k), fun W k => props_ok o.pc hP hO W k, fun hl hp n => ⟨⟨?_, (hX hp).2.ok.1, (hX hp).2.ok.2⟩, fun W k => ⟨rfl, rfl, hlabs.below k, hP.below k, pb hp W k⟩⟩, fun hp n f t => ⟨(hX hp).2.ok, fun W k => ⟨rfl, rfl, rfl, rfl, by show o.name.size ≤ _; omega, hP.below k, pb hp W k⟩⟩, fun W k => check_of o.vk o.vn o.vs o.va o.vl o.vc eC W fun W' k' => (hC W' (below2 k k')).1, fun h0 W k => ?_⟩
  · have := ((labsE_iff _).1 hl).2.1
    show labs.length ≤ 1000
    omega
  · exact fresh_any o.vk o.vn o.vs o.va o.vl o.vc Lv W (hLv.below k) (ck_wtL (hck h0))

theorem ops_in (B : Nat) (hB : B ≤ w.heap.size) (hT : Tabs B w) {fuel : Nat} {a : Option Addr} {l c : Nat} {y : DataW H × List MemPlace} (h : DataW.trod enc Tryd.prog w base spare held fuel 26 [.slice a l c] = some y) : l ≤ c ∧ ∃ D : List OpD, OpsAt w (D.map OpD.o) a l ∧ ∀ d ∈ D, OpIn w d ∧ OpRt d := by
  obtain ⟨h1, h2, h3⟩ := slice_rows Tryd.underlying26 cells11o (by omega) h
  refine ⟨h1, ?_⟩
  by_cases h0 : l = 0
  · subst h0
    exact ⟨[], ⟨rfl, by omega, fun h => absurd h (Nat.lt_irrefl _)⟩, fun p hp => by cases hp⟩
  · obtain ⟨b, off, ha, hb, hall⟩ := h3 (by omega)
    obtain ⟨L, hl, hL⟩ := list_of (fun i (d : OpD) => (∀ j v, ([.int .i64 d.o.k, .int .i64 d.o.id, .int .i64 d.o.frm, .int .i64 d.o.dst, .string d.o.name, .int .i64 d.o.vk, .int .i64 d.o.vn, .string d.o.vs, .slice d.o.va d.o.vl d.o.vc, .slice d.o.la d.o.ll d.o.lc, .slice d.o.pa d.o.pl d.o.pc] : List Value)[j]? = some v → w.cell? ⟨b, off + i * 11 + j, none⟩ = some v) ∧ OpIn w d ∧ OpRt d) l (fun i hi => by
      obtain ⟨m, cs, z, q1, q2, q3⟩ := hall i hi
      obtain ⟨d, rfl, hd⟩ := op_in B hB hT q3
      exact ⟨d, q2, hd⟩)
    refine ⟨L, ⟨by rw [List.length_map]; exact hl.symm, h2, fun _ => ⟨b, off, ha, hb, fun i o ho => ?_⟩⟩, fun d hd => ?_⟩
    · obtain ⟨d, hd, rfl⟩ := map_get ho
      have q2 := (hL i d hd).1
      exact ⟨q2 0 _ rfl, q2 1 _ rfl, q2 2 _ rfl, q2 3 _ rfl, q2 4 _ rfl, q2 5 _ rfl, q2 6 _ rfl, q2 7 _ rfl, q2 8 _ rfl, q2 9 _ rfl, q2 10 _ rfl⟩
    · obtain ⟨i, hi⟩ := List.getElem?_of_mem hd
      exact (hL i d hi).2
end

/-- The work lies in blocks from B on: whatever is changed below. -/
def LiesOwn (B : Nat) (w' : World) (S : WS) (na ea ma : Option Addr) (mc : Nat) : Prop := ∀ w'' : World, w'.heap.size ≤ w''.heap.size → (∀ i, B ≤ i → i < w'.heap.size → w''.heap[i]? = w'.heap[i]?) → NsAt w'' S.N na S.N.length ∧ EsAt w'' S.E ea S.E.length ∧ IntsAt w'' S.made ma S.made.length ∧ w''.ownsRow B 3 1 (.slice ma S.made.length mc) S.made.length (ints S.made)

/-- What Apply answers: the first error and where it is, or what the work is behind all. -/
def ApplyOwn (B : Nat) (w' : World) (n : Nat) (er : Nat → Int) (S : WS) (e : Ending) : Prop :=
  (∃ i, i < n ∧ (∀ j, j < i → er j = 0) ∧ er i ≠ 0 ∧ e = .returned (.tuple #[zeroGr, .slice none 0 0, .int .i64 i, .int .i64 (er i)])) ∨
  ((∀ j, j < n → er j = 0) ∧ ∃ na nc ea ec ma mc, e = .returned (.tuple #[.agg #[.slice na S.N.length nc, .slice ea S.E.length ec, .int .i64 S.next], .slice ma S.made.length mc, .int .i64 0, .int .i64 0]) ∧ S.N.length ≤ nc ∧ NsAt w' S.N na S.N.length ∧ S.E.length ≤ ec ∧ EsAt w' S.E ea S.E.length ∧ IntsAt w' S.made ma S.made.length ∧ LiesOwn B w' S na ea ma mc)

theorem row_up {w : World} {B B' n size : Nat} {e : TypeId} {v : Value} {xs : List Value} (h : w.ownsRow B e size v n xs) (hk : ∀ g, v.ownBlock = some g → B' ≤ g) : w.ownsRow B' e size v n xs := by
  refine ⟨h.1, ?_⟩
  rcases h.2 with h0 | ⟨g, cap, cur, h0, h1, h2, h3⟩
  · exact .inl h0
  · exact .inr ⟨g, cap, cur, h0, hk g (by rw [h0]; rfl), h2, h3⟩

theorem work_reads2 {O : Nat → Prop} {w : World} {b : Nat} {S : WS} (B : Nat) (hOB : ∀ j, O j → B ≤ j) (h : WorkIn O w b S) (hm : S.made.length ≤ 9223372036854775807) : ∃ na nc ea ec ma mc, w.heap[b]? = some (.cells #[.slice na S.N.length nc, .slice ea S.E.length ec, .int .i64 S.next, .slice ma S.made.length mc] 49 (0, 0)) ∧ (∀ j, O j → j < w.heap.size) ∧
    ∀ w' : World, w.heap.size ≤ w'.heap.size → (∀ i, O i → w'.heap[i]? = w.heap[i]?) → S.N.length ≤ nc ∧ NsAt w' S.N na S.N.length ∧ S.E.length ≤ ec ∧ EsAt w' S.E ea S.E.length ∧ IntsAt w' S.made ma S.made.length ∧ w'.ownsRow B 3 1 (.slice ma S.made.length mc) S.made.length (ints S.made) := by
  obtain ⟨na, nc, ea, ec, ma, mc, PN, PE, PM, hw⟩ := h
  refine ⟨na, nc, ea, ec, ma, mc, hw.blk, hw.lt, fun w' hs hk => ?_⟩
  have h1 := (hw.ns.kept (A' := PN) (w' := w') ⟨hs, fun i hi _ => ⟨hi, hk i (hw.pn i hi).1⟩⟩).reads2
  have h2 := (hw.es.kept (A' := PE) (w' := w') ⟨hs, fun i hi _ => ⟨hi, hk i (hw.pe i hi).1⟩⟩).reads2
  have h3 := row_keep hw.mr (w' := w') fun g hg _ => hk g (hw.pm g (hw.ms g hg)).1
  have h4 := row_up (B' := B) h3 fun g hg => hOB g (hw.pm g (hw.ms g hg)).1
  obtain ⟨a, c, he, hi⟩ := ints_of_row h3 hm
  injection he with e1 _ e3
  subst e1
  exact ⟨h1.1, h1.2, h2.1, h2.2, hi, h4⟩

set_option maxHeartbeats 16000000 in
set_option maxRecDepth 100000 in
theorem apply_own (XN : List AN) (XE : List AE) (next : Int) (na : Option Addr) (nl nc : Nat) (ea : Option Addr) (el ec : Nat) (ops : List Om) (oa : Option Addr) (ol oc : Nat) (er : Nat → Int) (Sf : Nat → WS) (w : World)
    (hC : ∀ W, Below w.heap.size w W → Calls Tryd.prog 6 #[.agg #[.slice na nl nc, .slice ea el ec, .int .i64 next]] W fun e w' => e = .returned (.int .i64 0) ∧ Below W.heap.size W w')
    (hN : NsAt w XN na nl) (hE : EsAt w XE ea el) (hnl : nl ≤ 1000) (hel : el ≤ 1000) (hNo : ∀ x ∈ XN, x.ok) (hEo : ∀ x ∈ XE, x.ok)
    (hops : OpsAt w ops oa ol) (hol : ol ≤ 20) (hS0 : Sf 0 = ⟨XN, XE, next, []⟩) (hmade : ∀ i, (Sf i).made.length ≤ 9223372036854775807)
    (hstep : ∀ i o, ops[i]? = some o → (∀ j, j < i → er j = 0) → ∀ O b W, WorkIn O W b (Sf i) → (∀ j, O j → w.heap.size ≤ j) → Below w.heap.size w W → Calls Tryd.prog 11 #[.pointer (some ⟨b, 0, none⟩), .agg #[.int .i64 o.k, .int .i64 o.id, .int .i64 o.frm, .int .i64 o.dst, .string o.name, .int .i64 o.vk, .int .i64 o.vn, .string o.vs, .slice o.va o.vl o.vc, .slice o.la o.ll o.lc, .slice o.pa o.pl o.pc]] W fun e w' => ActEnd O W w' b (Sf (i + 1)) (er i) e) :
    Calls Tryd.prog 5 #[.agg #[.slice na nl nc, .slice ea el ec, .int .i64 next], .slice oa ol oc] w fun e w' => ApplyOwn w.heap.size w' ol er (Sf ol) e ∧ Below w.heap.size w w' := by
  have HC := toHid hC
  have HSTEP := toHid hstep
  have HOPS := toHid hops
  have HS0 := toHid hS0
  have HMADE := toHid hmade
  have HF : Hid (∀ W, Below w.heap.size w W → Calls Tryd.prog 10 #[.agg #[.slice na nl nc, .slice ea el ec, .int .i64 next]] W fun e w' => (∃ na1 nc1 ea1 ec1 m, e = .returned (.agg #[.slice na1 XN.length nc1, .slice ea1 XE.length ec1, .int .i64 next]) ∧ W.heap.size ≤ m ∧ NsOwn (fun i => W.heap.size ≤ i ∧ i < m) w' XN (.slice na1 XN.length nc1) ∧ EsOwn (fun i => m ≤ i) w' XE (.slice ea1 XE.length ec1)) ∧ Below W.heap.size W w') := fun W kW => (freshGraph_any XN XE na nl nc ea el ec next W (hN.below kW) (hE.below kW) hnl hel hNo hEo).mono fun e w' ⟨⟨nv, ev, m, he, hm, h1, h2⟩, k⟩ => ⟨by
    obtain ⟨a1, c1, rfl, _⟩ := h1.reads
    obtain ⟨a2, c2, rfl, _⟩ := h2.reads
    exact ⟨a1, c1, a2, c2, m, he, hm, h1, h2⟩, k⟩
  obtain ⟨xl, hxl⟩ : ∃ z, z = XN.length := ⟨_, rfl⟩
  obtain ⟨yl, hyl⟩ : ∃ z, z = XE.length := ⟨_, rfl⟩
  rw [← hxl, ← hyl] at HF
  have HXL := toHid hxl
  have HYL := toHid hyl
  clear hC hstep hops hS0 hmade hN hE hNo hEo hnl hel hxl hyl
  have b0 : Below w.heap.size w ((w.alloc (.cells #[.slice na nl nc, .slice ea el ec, .int .i64 next] 25)).alloc (.cells #[.slice none 0 0, .slice none 0 0, .int .i64 0] 25)) := ((Below.refl _ _).alloc (Nat.le_refl _) _).alloc (by simp) _
  have hx := (Below.heap_alloc (w.alloc (.cells #[.slice na nl nc, .slice ea el ec, .int .i64 next] 25)) (.cells #[.slice none 0 0, .slice none 0 0, .int .i64 0] 25) w.heap.size (by simp)).trans (alloc_new w (.cells #[.slice na nl nc, .slice ea el ec, .int .i64 next] 25))
  have hy := alloc_two w (.cells #[.slice na nl nc, .slice ea el ec, .int .i64 next] 25) (.cells #[.slice none 0 0, .slice none 0 0, .int .i64 0] 25)
  have z0 : ((w.alloc (.cells #[.slice na nl nc, .slice ea el ec, .int .i64 next] 25)).alloc (.cells #[.slice none 0 0, .slice none 0 0, .int .i64 0] 25)).heap.size = w.heap.size + 2 := by simp
  have HB := toHid b0
  have HX := toHid hx
  have HY := toHid hy
  have HZ := toHid z0
  clear b0 hx hy z0
  go_enter Tryd.func5, Tryd.ntmps5
  go_wp2_with fail
  refine (HC.out _ HB.out).mono ?_
  generalize (w.alloc (.cells #[.slice na nl nc, .slice ea el ec, .int .i64 next] 25)).alloc (.cells #[.slice none 0 0, .slice none 0 0, .int .i64 0] 25) = W at HB HX HY HZ ⊢
  rintro e w1 ⟨rfl, k1⟩
  have HB1 := toHid (HB.out.trans (k1.mono HB.out.size))
  have HX1 := toHid ((k1.block w.heap.size (by rw [HZ.out]; omega)).trans HX.out)
  have HY1 := toHid ((k1.block (w.heap.size + 1) (by rw [HZ.out]; omega)).trans HY.out)
  have s1 : w.heap.size + 2 ≤ w1.heap.size := by have := k1.size; rw [HZ.out] at this; exact this
  clear k1 HB HX HY HZ HC
  have c0 := cell_of HX1.out 0
  have c1 := cell_of HX1.out 1
  have c2 := cell_of HX1.out 2
  simp at c0 c1 c2
  have hol' : ¬ ((20 : Int) < ol) := by omega
  go_wp2_with fail
  refine (HF.out _ HB1.out).mono ?_
  rintro e w2 ⟨⟨na1, nc1, ea1, ec1, m, rfl, hm, hno, heo⟩, k2⟩
  have HB2 := toHid (HB1.out.trans (k2.mono HB1.out.size))
  have HY2 := toHid ((k2.block (w.heap.size + 1) (by omega)).trans HY1.out)
  have s2 : w.heap.size + 2 ≤ w2.heap.size := Nat.le_trans s1 k2.size
  have hwk : ∃ O, WorkIn O (w2.alloc (.cells #[.slice na1 xl nc1, .slice ea1 yl ec1, .int .i64 next, .slice none 0 0] 49)) w2.heap.size (Sf 0) ∧ ∀ j, O j → w.heap.size + 2 ≤ j := by
    refine ⟨fun i => w1.heap.size ≤ i ∧ i < w2.heap.size + 1, ⟨na1, nc1, ea1, ec1, none, 0, (fun i => (w1.heap.size ≤ i ∧ i < m) ∧ i < w2.heap.size), (fun i => m ≤ i ∧ i < w2.heap.size), (fun _ => False), ?_⟩, fun j hj => by omega⟩
    rw [HS0.out]
    have kA : Below w2.heap.size w2 (w2.alloc (.cells #[.slice na1 xl nc1, .slice ea1 yl ec1, .int .i64 next, .slice none 0 0] 49)) := (Below.refl _ _).alloc (Nat.le_refl _) _
    have hs12 := k2.size
    refine ⟨?_, ⟨hs12, by omega⟩, fun i hi => by simp; exact hi.2, fun i hi => ⟨⟨hi.1.1, by omega⟩, by omega⟩, fun i hi => ⟨⟨by omega, by omega⟩, by omega, fun q => by omega⟩, fun i hi => hi.elim, ?_, ?_, (fun g hg => by cases hg), World.ownsRow_nil _ _ _ _⟩
    · rw [alloc_new, HXL.out, HYL.out]; rfl
    · rw [HXL.out] at hno
      exact hno.kept ⟨kA.size, fun i hi hl => ⟨⟨hi, hl⟩, kA.block i hl⟩⟩
    · rw [HYL.out] at heo
      exact heo.kept ⟨kA.size, fun i hi hl => ⟨⟨hi, hl⟩, kA.block i hl⟩⟩
  have HWK := toHid hwk
  clear hwk hno heo k2 hm HF HB1 HX1 HY1 c0 c1 c2 s1
  have b3 : Below w.heap.size w (w2.alloc (.cells #[.slice na1 xl nc1, .slice ea1 yl ec1, .int .i64 next, .slice none 0 0] 49)) := HB2.out.alloc (by omega) _
  have y3 := (Below.heap_alloc w2 (.cells #[.slice na1 xl nc1, .slice ea1 yl ec1, .int .i64 next, .slice none 0 0] 49) (w.heap.size + 1) (by omega)).trans HY2.out
  have HB3 := toHid b3
  have HY3 := toHid y3
  clear b3 y3
  go_wp2_with fail
  generalize w2.alloc (.cells #[.slice na1 xl nc1, .slice ea1 yl ec1, .int .i64 next, .slice none 0 0] 49) = W3 at HWK HB3 HY3 ⊢
  generalize w2.heap.size = b at HWK ⊢
  obtain ⟨O0, hO0, hO0b⟩ := HWK.out
  have HO0 := toHid hO0
  have HO0B := toHid hO0b
  clear hO0 hO0b HWK HB2 HY2
  go_loopg [29] ol (fun g s29 wr => ∃ (i : Nat) (O : Nat → Prop), i ≤ ol ∧ ol - i ≤ g ∧ s29 = .int .i64 i ∧ (∀ j, j < i → er j = 0) ∧ WorkIn O wr b (Sf i) ∧ (∀ j, O j → w.heap.size + 2 ≤ j) ∧ wr.heap[w.heap.size + 1]? = some (.cells #[.slice none 0 0, .slice none 0 0, .int .i64 0] 25 (0, 0)) ∧ Below w.heap.size w wr)
  case atStart => exact ⟨0, O0, Nat.zero_le _, by omega, rfl, fun j hj => absurd hj (Nat.not_lt_zero _), HO0.out, HO0B.out, HY3.out, HB3.out⟩
  case round =>
    obtain ⟨i, O, hi, hg, rfl, hers, hwk, hOb, hyr, hbr⟩ := hrel
    have HERS := toHid hers
    have HWK := toHid hwk
    have HOB := toHid hOb
    have HYR := toHid hyr
    have HBR := toHid hbr
    have sr : w.heap.size + 2 ≤ wr.heap.size := (Array.getElem?_eq_some_iff.1 hyr).1
    clear hers hwk hOb hyr hbr HO0 HO0B HB3 HY3
    by_cases hlt : i < ol
    · obtain ⟨ob, off, ha, hb, hc⟩ := HOPS.out.2.2 (by omega)
      subst ha
      obtain ⟨o, ho, _⟩ := drop_get (L := ops) (i := i) (by have := HOPS.out.1; omega)
      obtain ⟨c0, c1, c2, c3, c4, c5, c6, c7, c8, c9, c10⟩ := hc i o ho
      have q : ∀ x, wr.cell? ⟨ob, x, none⟩ = w.cell? ⟨ob, x, none⟩ := fun x => HBR.out.cell (p := ⟨ob, x, none⟩) hb
      have d0 := (q _).trans c0
      have d1 := (q _).trans c1
      have d2 := (q _).trans c2
      have d3 := (q _).trans c3
      have d4 := (q _).trans c4
      have d5 := (q _).trans c5
      have d6 := (q _).trans c6
      have d7 := (q _).trans c7
      have d8 := (q _).trans c8
      have d9 := (q _).trans c9
      have d10 := (q _).trans c10
      have hil : (i : Int) < ol := by omega
      obtain ⟨z, hz⟩ : ∃ z, z = er i := ⟨_, rfl⟩
      have HDO : Hid (Calls Tryd.prog 11 #[.pointer (some ⟨b, 0, none⟩), .agg #[.int .i64 o.k, .int .i64 o.id, .int .i64 o.frm, .int .i64 o.dst, .string o.name, .int .i64 o.vk, .int .i64 o.vn, .string o.vs, .slice o.va o.vl o.vc, .slice o.la o.ll o.lc, .slice o.pa o.pl o.pc]] (wr.alloc (.cells #[.int .i64 o.k, .int .i64 o.id, .int .i64 o.frm, .int .i64 o.dst, .string o.name, .int .i64 o.vk, .int .i64 o.vn, .string o.vs, .slice o.va o.vl o.vc, .slice o.la o.ll o.lc, .slice o.pa o.pl o.pc] 33)) fun e w' => ActEnd O (wr.alloc (.cells #[.int .i64 o.k, .int .i64 o.id, .int .i64 o.frm, .int .i64 o.dst, .string o.name, .int .i64 o.vk, .int .i64 o.vn, .string o.vs, .slice o.va o.vl o.vc, .slice o.la o.ll o.lc, .slice o.pa o.pl o.pc] 33)) w' b (Sf (i + 1)) z e) := by
        rw [hz]
        exact HSTEP.out i o ho HERS.out O b _ (HWK.out.below ((Below.refl _ _).alloc (Nat.le_refl _) _)) (fun j hj => by have := HOB.out j hj; omega) (HBR.out.alloc (by omega) _)
      have HZI := toHid hz
      have kA : Below wr.heap.size wr (wr.alloc (.cells #[.int .i64 o.k, .int .i64 o.id, .int .i64 o.frm, .int .i64 o.dst, .string o.name, .int .i64 o.vk, .int .i64 o.vn, .string o.vs, .slice o.va o.vl o.vc, .slice o.la o.ll o.lc, .slice o.pa o.pl o.pc] 33)) := (Below.refl _ _).alloc (Nat.le_refl _) _
      have HKA := toHid kA
      clear c0 c1 c2 c3 c4 c5 c6 c7 c8 c9 c10 q hc ho hz kA
      go_wp2_with fail
      refine HDO.out.mono ?_
      clear HDO
      generalize wr.alloc (.cells #[.int .i64 o.k, .int .i64 o.id, .int .i64 o.frm, .int .i64 o.dst, .string o.name, .int .i64 o.vk, .int .i64 o.vn, .string o.vs, .slice o.va o.vl o.vc, .slice o.la o.ll o.lc, .slice o.pa o.pl o.pc] 33) = W4 at HKA ⊢
      rintro e w5 ⟨rfl, hr5, hs5⟩
      have hr : Rest O wr w5 := (Rest.of_below HKA.out).trans hr5 (fun _ _ q => q)
      have y5 := (hr.block (w.heap.size + 1) (by omega) (fun q => by have := HOB.out _ q; omega)).trans HYR.out
      have k5 : Below w.heap.size w w5 := HBR.out.trans (hr.below (by omega) (fun j hj => by have := HOB.out j hj; omega))
      have HR5 := toHid hr
      have HY5 := toHid y5
      have HK5 := toHid k5
      have HS5 := toHid hs5
      clear hr5 hs5 hr y5 k5 d0 d1 d2 d3 d4 d5 d6 d7 d8 d9 d10
      by_cases hz0 : z = 0
      · subst hz0
        have HZ0 := toHid HZI.out.symm
        have HST := toHid (StepEnd.behind HWK.out HKA.out (HS5.out rfl))
        go_wp2_with fail
        go_roundg (ol - (i + 1))
        case measure => omega
        case rel =>
          refine ⟨i + 1, Now O wr w5, by omega, by omega, by go_num, fun j hj => ?_, HST.out.1, fun j hj => ?_, HY5.out, HK5.out⟩
          · rcases Nat.lt_or_ge j i with h | h
            · exact HERS.out j h
            · have : j = i := by omega
              rw [this]
              exact HZ0.out
          · rcases hj with h | h
            · exact HOB.out j h
            · omega
      · have hz' : (z != 0) = true := by simp [hz0]
        have HZN := toHid hz0
        have r0 := cell_of HY5.out 0
        have r1 := cell_of HY5.out 1
        have r2 := cell_of HY5.out 2
        have g0 := free_of HY5.out 0
        have g1 := free_of HY5.out 1
        have g2 := free_of HY5.out 2
        simp at r0 r1 r2
        clear hz0
        go_wp2_with fail
        have eP : ∀ X : World, ((X.setCell ⟨w.heap.size + 1, 0, none⟩ (.slice none 0 0)).setCell ⟨w.heap.size + 1, 1, none⟩ (.slice none 0 0)).setCell ⟨w.heap.size + 1, 2, none⟩ (.int .i64 0) = putL X (w.heap.size + 1) 0 [.slice none 0 0, .slice none 0 0, .int .i64 0] := fun _ => rfl
        rw [eP]
        have E := putL_here [.slice none 0 0, .slice none 0 0, .int .i64 0] 0 w5 _ HY5.out
        have hbb : Below w.heap.size w (putL w5 (w.heap.size + 1) 0 [.slice none 0 0, .slice none 0 0, .int .i64 0]) := HK5.out.trans ((putL_bel (w.heap.size + 1) _ _ w5).mono (by omega))
        generalize putL w5 (w.heap.size + 1) 0 [.slice none 0 0, .slice none 0 0, .int .i64 0] = Y at E hbb ⊢
        have t0 := cell_of E 0
        have t1 := cell_of E 1
        have t2 := cell_of E 2
        simp [setL] at t0 t1 t2
        exact bodyPost_ret (v := .tuple #[zeroGr, .slice none 0 0, .int .i64 i, .int .i64 z]) (by simp [results, Tryd.results5, go_sem, t0, t1, t2, zeroGr]) rfl ⟨.inl ⟨i, hlt, HERS.out, by rw [← HZI.out]; exact HZN.out, by rw [← HZI.out]⟩, hbb⟩
    · have hil : i = ol := by omega
      subst hil
      obtain ⟨na2, nc2, ea2, ec2, ma2, mc2, hblk, hOlt, hread⟩ := work_reads2 w.heap.size (fun j hj => by have := HOB.out j hj; omega) HWK.out (HMADE.out i)
      obtain ⟨n2, hn2⟩ : ∃ z, z = (Sf i).N.length := ⟨_, rfl⟩
      obtain ⟨e2, he2⟩ : ∃ z, z = (Sf i).E.length := ⟨_, rfl⟩
      obtain ⟨x2, hx2⟩ : ∃ z, z = (Sf i).next := ⟨_, rfl⟩
      obtain ⟨m2, hm2⟩ : ∃ z, z = (Sf i).made.length := ⟨_, rfl⟩
      rw [← hn2, ← he2, ← hx2, ← hm2] at hblk
      have HEQ := toHid (show n2 = (Sf i).N.length ∧ e2 = (Sf i).E.length ∧ x2 = (Sf i).next ∧ m2 = (Sf i).made.length from ⟨hn2, he2, hx2, hm2⟩)
      have HREAD := toHid hread
      have HOLT := toHid hOlt
      clear hOlt
      have HNB : Hid (¬ O (w.heap.size + 1)) := fun q => by have := HOB.out _ q; omega
      have hbl : b < wr.heap.size := (Array.getElem?_eq_some_iff.1 hblk).1
      have c0 := cell_of hblk 0
      have c1 := cell_of hblk 1
      have c2 := cell_of hblk 2
      have c3 := cell_of hblk 3
      have r0 := cell_of HYR.out 0
      have r1 := cell_of HYR.out 1
      have r2 := cell_of HYR.out 2
      have g0 := free_of HYR.out 0
      have g1 := free_of HYR.out 1
      have g2 := free_of HYR.out 2
      simp at c0 c1 c2 c3 r0 r1 r2
      clear hblk hread hn2 he2 hx2 hm2
      go_upto_region 14 with fail
      go_region
      all_goals
        go_wp2_with fail
        have eP : ∀ X : World, ((X.setCell ⟨w.heap.size + 1, 0, none⟩ (.slice na2 n2 nc2)).setCell ⟨w.heap.size + 1, 1, none⟩ (.slice ea2 e2 ec2)).setCell ⟨w.heap.size + 1, 2, none⟩ (.int .i64 x2) = putL X (w.heap.size + 1) 0 [.slice na2 n2 nc2, .slice ea2 e2 ec2, .int .i64 x2] := fun _ => rfl
        rw [eP]
        have E : (putL wr (w.heap.size + 1) 0 [.slice na2 n2 nc2, .slice ea2 e2 ec2, .int .i64 x2]).drew.heap[w.heap.size + 1]? = _ := putL_here [.slice na2 n2 nc2, .slice ea2 e2 ec2, .int .i64 x2] 0 wr _ HYR.out
        have hbb : Below w.heap.size w (putL wr (w.heap.size + 1) 0 [.slice na2 n2 nc2, .slice ea2 e2 ec2, .int .i64 x2]).drew := (HBR.out.trans ((putL_bel (w.heap.size + 1) _ _ wr).mono (by omega))).drew
        have hrd := HREAD.out (putL wr (w.heap.size + 1) 0 [.slice na2 n2 nc2, .slice ea2 e2 ec2, .int .i64 x2]).drew (by show _ ≤ (putL wr _ _ _).heap.size; rw [putL_size]; exact Nat.le_refl _) (fun j hj => putL_other _ _ _ wr j (fun e => HNB.out (e ▸ hj)))
        have hzz : wr.heap.size ≤ (putL wr (w.heap.size + 1) 0 [.slice na2 n2 nc2, .slice ea2 e2 ec2, .int .i64 x2]).drew.heap.size := by show _ ≤ (putL wr _ _ _).heap.size; rw [putL_size]; exact Nat.le_refl _
        have hown : LiesOwn w.heap.size (putL wr (w.heap.size + 1) 0 [.slice na2 n2 nc2, .slice ea2 e2 ec2, .int .i64 x2]).drew (Sf i) na2 ea2 ma2 mc2 := fun w'' hs hk => by
          have := HREAD.out w'' (Nat.le_trans hzz hs) (fun j hj => (hk j (by have := HOB.out j hj; omega) (Nat.lt_of_lt_of_le (HOLT.out j hj) hzz)).trans (putL_other _ _ _ wr j (fun e => HNB.out (e ▸ hj))))
          exact ⟨this.2.1, this.2.2.2.1, this.2.2.2.2.1, this.2.2.2.2.2⟩
        generalize (putL wr (w.heap.size + 1) 0 [.slice na2 n2 nc2, .slice ea2 e2 ec2, .int .i64 x2]).drew = Y at E hbb hrd hown ⊢
        have t0 := cell_of E 0
        have t1 := cell_of E 1
        have t2 := cell_of E 2
        simp [setL] at t0 t1 t2
        obtain ⟨q1, q2, q3, q4⟩ := HEQ.out
        exact bodyPost_ret (v := .tuple #[.agg #[.slice na2 n2 nc2, .slice ea2 e2 ec2, .int .i64 x2], .slice ma2 m2 mc2, .int .i64 0, .int .i64 0]) (by simp [results, Tryd.results5, go_sem, t0, t1, t2]) rfl ⟨.inr ⟨HERS.out, na2, nc2, ea2, ec2, ma2, mc2, by rw [← q1, ← q2, ← q3, ← q4], hrd.1, hrd.2.1, hrd.2.2.1, hrd.2.2.2.1, hrd.2.2.2.2.1, hown⟩, hbb⟩
end Go.Proofs.YtaehecajihgggaaDoor
