/-
  What is proved here: what the texts HApply, HInv prove, in one text.
-/
import Derived.Test.YtdlmlpddkfnfmaaGreatDoorQMAY
import Derived.Test.YtdlmlpddkfnfmaaGreatDoorQMAX
import Derived.Orders
import Derived.RegionTactic
namespace Go.Proofs.YtdlmlpddkfnfmaaGreatDoor
open Go.RowKit
set_option linter.unusedVariables false

/-- Operations lie where a slice says. -/
def OpsAt (w : World) (L : List Om) (a : Option Addr) (l : Nat) : Prop :=
  l = L.length ∧ l ≤ 9223372036854775807 ∧ (0 < l → ∃ b off, a = some ⟨b, off, none⟩ ∧ b < w.heap.size ∧ ∀ (i : Nat) (o : Om), L[i]? = some o → w.cell? ⟨b, off + i * 11, none⟩ = some (.int .i64 o.k) ∧ w.cell? ⟨b, off + i * 11 + 1, none⟩ = some (.int .i64 o.id) ∧ w.cell? ⟨b, off + i * 11 + 1 + 1, none⟩ = some (.int .i64 o.frm) ∧ w.cell? ⟨b, off + i * 11 + 1 + 1 + 1, none⟩ = some (.int .i64 o.dst) ∧ w.cell? ⟨b, off + i * 11 + 1 + 1 + 1 + 1, none⟩ = some (.string o.name) ∧ w.cell? ⟨b, off + i * 11 + 1 + 1 + 1 + 1 + 1, none⟩ = some (.int .i64 o.vk) ∧ w.cell? ⟨b, off + i * 11 + 1 + 1 + 1 + 1 + 1 + 1, none⟩ = some (.int .i64 o.vn) ∧ w.cell? ⟨b, off + i * 11 + 1 + 1 + 1 + 1 + 1 + 1 + 1, none⟩ = some (.string o.vs) ∧ w.cell? ⟨b, off + i * 11 + 1 + 1 + 1 + 1 + 1 + 1 + 1 + 1, none⟩ = some (.slice o.va o.vl o.vc) ∧ w.cell? ⟨b, off + i * 11 + 1 + 1 + 1 + 1 + 1 + 1 + 1 + 1 + 1, none⟩ = some (.slice o.la o.ll o.lc) ∧ w.cell? ⟨b, off + i * 11 + 1 + 1 + 1 + 1 + 1 + 1 + 1 + 1 + 1 + 1, none⟩ = some (.slice o.pa o.pl o.pc))

def zeroGr : Value := .agg #[.slice none 0 0, .slice none 0 0, .int .i64 0]

/-- What Apply answers: the first error and where it is, or what the work is behind all. -/
def ApplyEnd (w' : World) (n : Nat) (er : Nat → Int) (S : WS) (e : Ending) : Prop :=
  (∃ i, i < n ∧ (∀ j, j < i → er j = 0) ∧ er i ≠ 0 ∧ e = .returned (.tuple #[zeroGr, .slice none 0 0, .int .i64 i, .int .i64 (er i)])) ∨
  ((∀ j, j < n → er j = 0) ∧ ∃ na nc ea ec ma mc, e = .returned (.tuple #[.agg #[.slice na S.N.length nc, .slice ea S.E.length ec, .int .i64 S.next], .slice ma S.made.length mc, .int .i64 0, .int .i64 0]) ∧ S.N.length ≤ nc ∧ NsAt w' S.N na S.N.length ∧ S.E.length ≤ ec ∧ EsAt w' S.E ea S.E.length ∧ IntsAt w' S.made ma S.made.length)

theorem work_reads {O : Nat → Prop} {w : World} {b : Nat} {S : WS} (h : WorkIn O w b S) (hm : S.made.length ≤ 9223372036854775807) : ∃ na nc ea ec ma mc, w.heap[b]? = some (.cells #[.slice na S.N.length nc, .slice ea S.E.length ec, .int .i64 S.next, .slice ma S.made.length mc] 69 (0, 0)) ∧
    ∀ w' : World, w.heap.size ≤ w'.heap.size → (∀ i, O i → w'.heap[i]? = w.heap[i]?) → S.N.length ≤ nc ∧ NsAt w' S.N na S.N.length ∧ S.E.length ≤ ec ∧ EsAt w' S.E ea S.E.length ∧ IntsAt w' S.made ma S.made.length := by
  obtain ⟨na, nc, ea, ec, ma, mc, PN, PE, PM, hw⟩ := h
  refine ⟨na, nc, ea, ec, ma, mc, hw.blk, fun w' hs hk => ?_⟩
  have h1 := (hw.ns.kept (A' := PN) (w' := w') ⟨hs, fun i hi _ => ⟨hi, hk i (hw.pn i hi).1⟩⟩).reads2
  have h2 := (hw.es.kept (A' := PE) (w' := w') ⟨hs, fun i hi _ => ⟨hi, hk i (hw.pe i hi).1⟩⟩).reads2
  have h3 := row_keep hw.mr (w' := w') fun g hg _ => hk g (hw.pm g (hw.ms g hg)).1
  obtain ⟨a, c, he, hi⟩ := ints_of_row h3 hm
  injection he with e1 _ e3
  subst e1
  exact ⟨h1.1, h1.2, h2.1, h2.2, hi⟩

set_option maxHeartbeats 16000000 in
set_option maxRecDepth 100000 in
theorem apply_of (XN : List AN) (XE : List AE) (next : Int) (na : Option Addr) (nl nc : Nat) (ea : Option Addr) (el ec : Nat) (ops : List Om) (oa : Option Addr) (ol oc : Nat) (er : Nat → Int) (Sf : Nat → WS) (w : World)
    (hC : ∀ W, Below w.heap.size w W → Calls Tryz.prog 30 #[.agg #[.slice na nl nc, .slice ea el ec, .int .i64 next]] W fun e w' => e = .returned (.int .i64 0) ∧ Below W.heap.size W w')
    (hN : NsAt w XN na nl) (hE : EsAt w XE ea el) (hnl : nl ≤ 1000) (hel : el ≤ 1000) (hNo : ∀ x ∈ XN, x.ok) (hEo : ∀ x ∈ XE, x.ok)
    (hops : OpsAt w ops oa ol) (hol : ol ≤ 20) (hS0 : Sf 0 = ⟨XN, XE, next, []⟩) (hmade : ∀ i, (Sf i).made.length ≤ 9223372036854775807)
    (hstep : ∀ i o, ops[i]? = some o → (∀ j, j < i → er j = 0) → ∀ O b W, WorkIn O W b (Sf i) → (∀ j, O j → w.heap.size ≤ j) → Below w.heap.size w W → Calls Tryz.prog 32 #[.pointer (some ⟨b, 0, none⟩), .agg #[.int .i64 o.k, .int .i64 o.id, .int .i64 o.frm, .int .i64 o.dst, .string o.name, .int .i64 o.vk, .int .i64 o.vn, .string o.vs, .slice o.va o.vl o.vc, .slice o.la o.ll o.lc, .slice o.pa o.pl o.pc]] W fun e w' => ActEnd O W w' b (Sf (i + 1)) (er i) e) :
    Calls Tryz.prog 10 #[.agg #[.slice na nl nc, .slice ea el ec, .int .i64 next], .slice oa ol oc] w fun e w' => ApplyEnd w' ol er (Sf ol) e ∧ Below w.heap.size w w' := by
  have HC := toHid hC
  have HSTEP := toHid hstep
  have HOPS := toHid hops
  have HS0 := toHid hS0
  have HMADE := toHid hmade
  have HF : Hid (∀ W, Below w.heap.size w W → Calls Tryz.prog 31 #[.agg #[.slice na nl nc, .slice ea el ec, .int .i64 next]] W fun e w' => (∃ na1 nc1 ea1 ec1 m, e = .returned (.agg #[.slice na1 XN.length nc1, .slice ea1 XE.length ec1, .int .i64 next]) ∧ W.heap.size ≤ m ∧ NsOwn (fun i => W.heap.size ≤ i ∧ i < m) w' XN (.slice na1 XN.length nc1) ∧ EsOwn (fun i => m ≤ i) w' XE (.slice ea1 XE.length ec1)) ∧ Below W.heap.size W w') := fun W kW => (freshGraph_any XN XE na nl nc ea el ec next W (hN.below kW) (hE.below kW) hnl hel hNo hEo).mono fun e w' ⟨⟨nv, ev, m, he, hm, h1, h2⟩, k⟩ => ⟨by
    obtain ⟨a1, c1, rfl, _⟩ := h1.reads
    obtain ⟨a2, c2, rfl, _⟩ := h2.reads
    exact ⟨a1, c1, a2, c2, m, he, hm, h1, h2⟩, k⟩
  obtain ⟨xl, hxl⟩ : ∃ z, z = XN.length := ⟨_, rfl⟩
  obtain ⟨yl, hyl⟩ : ∃ z, z = XE.length := ⟨_, rfl⟩
  rw [← hxl, ← hyl] at HF
  have HXL := toHid hxl
  have HYL := toHid hyl
  clear hC hstep hops hS0 hmade hN hE hNo hEo hnl hel hxl hyl
  have b0 : Below w.heap.size w ((w.alloc (.cells #[.slice na nl nc, .slice ea el ec, .int .i64 next] 25)).alloc (.cells #[.slice none 0 0, .slice none 0 0, .int .i64 0] 25)) := ((Below.refl _ _).alloc (Nat.le_refl _) _).alloc (by simp) _
  have hx := (Below.heap_alloc (w.alloc (.cells #[.slice na nl nc, .slice ea el ec, .int .i64 next] 25)) (.cells #[.slice none 0 0, .slice none 0 0, .int .i64 0] 25) w.heap.size (by simp)).trans (alloc_new w (.cells #[.slice na nl nc, .slice ea el ec, .int .i64 next] 25))
  have hy := alloc_two w (.cells #[.slice na nl nc, .slice ea el ec, .int .i64 next] 25) (.cells #[.slice none 0 0, .slice none 0 0, .int .i64 0] 25)
  have z0 : ((w.alloc (.cells #[.slice na nl nc, .slice ea el ec, .int .i64 next] 25)).alloc (.cells #[.slice none 0 0, .slice none 0 0, .int .i64 0] 25)).heap.size = w.heap.size + 2 := by simp
  have HB := toHid b0
  have HX := toHid hx
  have HY := toHid hy
  have HZ := toHid z0
  clear b0 hx hy z0
  go_enter Tryz.func10, Tryz.ntmps10
  go_wp2_with fail
  refine (HC.out _ HB.out).mono ?_
  generalize (w.alloc (.cells #[.slice na nl nc, .slice ea el ec, .int .i64 next] 25)).alloc (.cells #[.slice none 0 0, .slice none 0 0, .int .i64 0] 25) = W at HB HX HY HZ ⊢
  rintro e w1 ⟨rfl, k1⟩
  have HB1 := toHid (HB.out.trans (k1.mono HB.out.size))
  have HX1 := toHid ((k1.block w.heap.size (by rw [HZ.out]; omega)).trans HX.out)
  have HY1 := toHid ((k1.block (w.heap.size + 1) (by rw [HZ.out]; omega)).trans HY.out)
  have s1 : w.heap.size + 2 ≤ w1.heap.size := by have := k1.size; rw [HZ.out] at this; exact this
  clear k1 HB HX HY HZ HC
  have c0 := cell_of HX1.out 0
  have c1 := cell_of HX1.out 1
  have c2 := cell_of HX1.out 2
  simp at c0 c1 c2
  have hol' : ¬ ((20 : Int) < ol) := by omega
  go_wp2_with fail
  refine (HF.out _ HB1.out).mono ?_
  rintro e w2 ⟨⟨na1, nc1, ea1, ec1, m, rfl, hm, hno, heo⟩, k2⟩
  have HB2 := toHid (HB1.out.trans (k2.mono HB1.out.size))
  have HY2 := toHid ((k2.block (w.heap.size + 1) (by omega)).trans HY1.out)
  have s2 : w.heap.size + 2 ≤ w2.heap.size := Nat.le_trans s1 k2.size
  have hwk : ∃ O, WorkIn O (w2.alloc (.cells #[.slice na1 xl nc1, .slice ea1 yl ec1, .int .i64 next, .slice none 0 0] 69)) w2.heap.size (Sf 0) ∧ ∀ j, O j → w.heap.size + 2 ≤ j := by
    refine ⟨fun i => w1.heap.size ≤ i ∧ i < w2.heap.size + 1, ⟨na1, nc1, ea1, ec1, none, 0, (fun i => (w1.heap.size ≤ i ∧ i < m) ∧ i < w2.heap.size), (fun i => m ≤ i ∧ i < w2.heap.size), (fun _ => False), ?_⟩, fun j hj => by omega⟩
    rw [HS0.out]
    have kA : Below w2.heap.size w2 (w2.alloc (.cells #[.slice na1 xl nc1, .slice ea1 yl ec1, .int .i64 next, .slice none 0 0] 69)) := (Below.refl _ _).alloc (Nat.le_refl _) _
    have hs12 := k2.size
    refine ⟨?_, ⟨hs12, by omega⟩, fun i hi => by simp; exact hi.2, fun i hi => ⟨⟨hi.1.1, by omega⟩, by omega⟩, fun i hi => ⟨⟨by omega, by omega⟩, by omega, fun q => by omega⟩, fun i hi => hi.elim, ?_, ?_, (fun g hg => by cases hg), World.ownsRow_nil _ _ _ _⟩
    · rw [alloc_new, HXL.out, HYL.out]; rfl
    · rw [HXL.out] at hno
      exact hno.kept ⟨kA.size, fun i hi hl => ⟨⟨hi, hl⟩, kA.block i hl⟩⟩
    · rw [HYL.out] at heo
      exact heo.kept ⟨kA.size, fun i hi hl => ⟨⟨hi, hl⟩, kA.block i hl⟩⟩
  have HWK := toHid hwk
  clear hwk hno heo k2 hm HF HB1 HX1 HY1 c0 c1 c2 s1
  have b3 : Below w.heap.size w (w2.alloc (.cells #[.slice na1 xl nc1, .slice ea1 yl ec1, .int .i64 next, .slice none 0 0] 69)) := HB2.out.alloc (by omega) _
  have y3 := (Below.heap_alloc w2 (.cells #[.slice na1 xl nc1, .slice ea1 yl ec1, .int .i64 next, .slice none 0 0] 69) (w.heap.size + 1) (by omega)).trans HY2.out
  have HB3 := toHid b3
  have HY3 := toHid y3
  clear b3 y3
  go_wp2_with fail
  generalize w2.alloc (.cells #[.slice na1 xl nc1, .slice ea1 yl ec1, .int .i64 next, .slice none 0 0] 69) = W3 at HWK HB3 HY3 ⊢
  generalize w2.heap.size = b at HWK ⊢
  obtain ⟨O0, hO0, hO0b⟩ := HWK.out
  have HO0 := toHid hO0
  have HO0B := toHid hO0b
  clear hO0 hO0b HWK HB2 HY2
  go_loopg [29] ol (fun g s29 wr => ∃ (i : Nat) (O : Nat → Prop), i ≤ ol ∧ ol - i ≤ g ∧ s29 = .int .i64 i ∧ (∀ j, j < i → er j = 0) ∧ WorkIn O wr b (Sf i) ∧ (∀ j, O j → w.heap.size + 2 ≤ j) ∧ wr.heap[w.heap.size + 1]? = some (.cells #[.slice none 0 0, .slice none 0 0, .int .i64 0] 25 (0, 0)) ∧ Below w.heap.size w wr)
  case atStart => exact ⟨0, O0, Nat.zero_le _, by omega, rfl, fun j hj => absurd hj (Nat.not_lt_zero _), HO0.out, HO0B.out, HY3.out, HB3.out⟩
  case round =>
    obtain ⟨i, O, hi, hg, rfl, hers, hwk, hOb, hyr, hbr⟩ := hrel
    have HERS := toHid hers
    have HWK := toHid hwk
    have HOB := toHid hOb
    have HYR := toHid hyr
    have HBR := toHid hbr
    have sr : w.heap.size + 2 ≤ wr.heap.size := (Array.getElem?_eq_some_iff.1 hyr).1
    clear hers hwk hOb hyr hbr HO0 HO0B HB3 HY3
    by_cases hlt : i < ol
    · obtain ⟨ob, off, ha, hb, hc⟩ := HOPS.out.2.2 (by omega)
      subst ha
      obtain ⟨o, ho, _⟩ := drop_get (L := ops) (i := i) (by have := HOPS.out.1; omega)
      obtain ⟨c0, c1, c2, c3, c4, c5, c6, c7, c8, c9, c10⟩ := hc i o ho
      have q : ∀ x, wr.cell? ⟨ob, x, none⟩ = w.cell? ⟨ob, x, none⟩ := fun x => HBR.out.cell (p := ⟨ob, x, none⟩) hb
      have d0 := (q _).trans c0
      have d1 := (q _).trans c1
      have d2 := (q _).trans c2
      have d3 := (q _).trans c3
      have d4 := (q _).trans c4
      have d5 := (q _).trans c5
      have d6 := (q _).trans c6
      have d7 := (q _).trans c7
      have d8 := (q _).trans c8
      have d9 := (q _).trans c9
      have d10 := (q _).trans c10
      have hil : (i : Int) < ol := by omega
      obtain ⟨z, hz⟩ : ∃ z, z = er i := ⟨_, rfl⟩
      have HDO : Hid (Calls Tryz.prog 32 #[.pointer (some ⟨b, 0, none⟩), .agg #[.int .i64 o.k, .int .i64 o.id, .int .i64 o.frm, .int .i64 o.dst, .string o.name, .int .i64 o.vk, .int .i64 o.vn, .string o.vs, .slice o.va o.vl o.vc, .slice o.la o.ll o.lc, .slice o.pa o.pl o.pc]] (wr.alloc (.cells #[.int .i64 o.k, .int .i64 o.id, .int .i64 o.frm, .int .i64 o.dst, .string o.name, .int .i64 o.vk, .int .i64 o.vn, .string o.vs, .slice o.va o.vl o.vc, .slice o.la o.ll o.lc, .slice o.pa o.pl o.pc] 65)) fun e w' => ActEnd O (wr.alloc (.cells #[.int .i64 o.k, .int .i64 o.id, .int .i64 o.frm, .int .i64 o.dst, .string o.name, .int .i64 o.vk, .int .i64 o.vn, .string o.vs, .slice o.va o.vl o.vc, .slice o.la o.ll o.lc, .slice o.pa o.pl o.pc] 65)) w' b (Sf (i + 1)) z e) := by
        rw [hz]
        exact HSTEP.out i o ho HERS.out O b _ (HWK.out.below ((Below.refl _ _).alloc (Nat.le_refl _) _)) (fun j hj => by have := HOB.out j hj; omega) (HBR.out.alloc (by omega) _)
      have HZI := toHid hz
      have kA : Below wr.heap.size wr (wr.alloc (.cells #[.int .i64 o.k, .int .i64 o.id, .int .i64 o.frm, .int .i64 o.dst, .string o.name, .int .i64 o.vk, .int .i64 o.vn, .string o.vs, .slice o.va o.vl o.vc, .slice o.la o.ll o.lc, .slice o.pa o.pl o.pc] 65)) := (Below.refl _ _).alloc (Nat.le_refl _) _
      have HKA := toHid kA
      clear c0 c1 c2 c3 c4 c5 c6 c7 c8 c9 c10 q hc ho hz kA
      go_wp2_with fail
      refine HDO.out.mono ?_
      clear HDO
      generalize wr.alloc (.cells #[.int .i64 o.k, .int .i64 o.id, .int .i64 o.frm, .int .i64 o.dst, .string o.name, .int .i64 o.vk, .int .i64 o.vn, .string o.vs, .slice o.va o.vl o.vc, .slice o.la o.ll o.lc, .slice o.pa o.pl o.pc] 65) = W4 at HKA ⊢
      rintro e w5 ⟨rfl, hr5, hs5⟩
      have hr : Rest O wr w5 := (Rest.of_below HKA.out).trans hr5 (fun _ _ q => q)
      have y5 := (hr.block (w.heap.size + 1) (by omega) (fun q => by have := HOB.out _ q; omega)).trans HYR.out
      have k5 : Below w.heap.size w w5 := HBR.out.trans (hr.below (by omega) (fun j hj => by have := HOB.out j hj; omega))
      have HR5 := toHid hr
      have HY5 := toHid y5
      have HK5 := toHid k5
      have HS5 := toHid hs5
      clear hr5 hs5 hr y5 k5 d0 d1 d2 d3 d4 d5 d6 d7 d8 d9 d10
      by_cases hz0 : z = 0
      · subst hz0
        have HZ0 := toHid HZI.out.symm
        have HST := toHid (StepEnd.behind HWK.out HKA.out (HS5.out rfl))
        go_wp2_with fail
        go_roundg (ol - (i + 1))
        case measure => omega
        case rel =>
          refine ⟨i + 1, Now O wr w5, by omega, by omega, by go_num, fun j hj => ?_, HST.out.1, fun j hj => ?_, HY5.out, HK5.out⟩
          · rcases Nat.lt_or_ge j i with h | h
            · exact HERS.out j h
            · have : j = i := by omega
              rw [this]
              exact HZ0.out
          · rcases hj with h | h
            · exact HOB.out j h
            · omega
      · have hz' : (z != 0) = true := by simp [hz0]
        have HZN := toHid hz0
        have r0 := cell_of HY5.out 0
        have r1 := cell_of HY5.out 1
        have r2 := cell_of HY5.out 2
        have g0 := free_of HY5.out 0
        have g1 := free_of HY5.out 1
        have g2 := free_of HY5.out 2
        simp at r0 r1 r2
        clear hz0
        go_wp2_with fail
        have eP : ∀ X : World, ((X.setCell ⟨w.heap.size + 1, 0, none⟩ (.slice none 0 0)).setCell ⟨w.heap.size + 1, 1, none⟩ (.slice none 0 0)).setCell ⟨w.heap.size + 1, 2, none⟩ (.int .i64 0) = putL X (w.heap.size + 1) 0 [.slice none 0 0, .slice none 0 0, .int .i64 0] := fun _ => rfl
        rw [eP]
        have E := putL_here [.slice none 0 0, .slice none 0 0, .int .i64 0] 0 w5 _ HY5.out
        have hbb : Below w.heap.size w (putL w5 (w.heap.size + 1) 0 [.slice none 0 0, .slice none 0 0, .int .i64 0]) := HK5.out.trans ((putL_bel (w.heap.size + 1) _ _ w5).mono (by omega))
        generalize putL w5 (w.heap.size + 1) 0 [.slice none 0 0, .slice none 0 0, .int .i64 0] = Y at E hbb ⊢
        have t0 := cell_of E 0
        have t1 := cell_of E 1
        have t2 := cell_of E 2
        simp [setL] at t0 t1 t2
        exact bodyPost_ret (v := .tuple #[zeroGr, .slice none 0 0, .int .i64 i, .int .i64 z]) (by simp [results, Tryz.results10, go_sem, t0, t1, t2, zeroGr]) rfl ⟨.inl ⟨i, hlt, HERS.out, by rw [← HZI.out]; exact HZN.out, by rw [← HZI.out]⟩, hbb⟩
    · have hil : i = ol := by omega
      subst hil
      obtain ⟨na2, nc2, ea2, ec2, ma2, mc2, hblk, hread⟩ := work_reads HWK.out (HMADE.out i)
      obtain ⟨n2, hn2⟩ : ∃ z, z = (Sf i).N.length := ⟨_, rfl⟩
      obtain ⟨e2, he2⟩ : ∃ z, z = (Sf i).E.length := ⟨_, rfl⟩
      obtain ⟨x2, hx2⟩ : ∃ z, z = (Sf i).next := ⟨_, rfl⟩
      obtain ⟨m2, hm2⟩ : ∃ z, z = (Sf i).made.length := ⟨_, rfl⟩
      rw [← hn2, ← he2, ← hx2, ← hm2] at hblk
      have HEQ := toHid (show n2 = (Sf i).N.length ∧ e2 = (Sf i).E.length ∧ x2 = (Sf i).next ∧ m2 = (Sf i).made.length from ⟨hn2, he2, hx2, hm2⟩)
      have HREAD := toHid hread
      have HNB : Hid (¬ O (w.heap.size + 1)) := fun q => by have := HOB.out _ q; omega
      have hbl : b < wr.heap.size := (Array.getElem?_eq_some_iff.1 hblk).1
      have c0 := cell_of hblk 0
      have c1 := cell_of hblk 1
      have c2 := cell_of hblk 2
      have c3 := cell_of hblk 3
      have r0 := cell_of HYR.out 0
      have r1 := cell_of HYR.out 1
      have r2 := cell_of HYR.out 2
      have g0 := free_of HYR.out 0
      have g1 := free_of HYR.out 1
      have g2 := free_of HYR.out 2
      simp at c0 c1 c2 c3 r0 r1 r2
      clear hblk hread hn2 he2 hx2 hm2
      go_upto_region 14 with fail
      go_region
      all_goals
        go_wp2_with fail
        have eP : ∀ X : World, ((X.setCell ⟨w.heap.size + 1, 0, none⟩ (.slice na2 n2 nc2)).setCell ⟨w.heap.size + 1, 1, none⟩ (.slice ea2 e2 ec2)).setCell ⟨w.heap.size + 1, 2, none⟩ (.int .i64 x2) = putL X (w.heap.size + 1) 0 [.slice na2 n2 nc2, .slice ea2 e2 ec2, .int .i64 x2] := fun _ => rfl
        rw [eP]
        have E : (putL wr (w.heap.size + 1) 0 [.slice na2 n2 nc2, .slice ea2 e2 ec2, .int .i64 x2]).drew.heap[w.heap.size + 1]? = _ := putL_here [.slice na2 n2 nc2, .slice ea2 e2 ec2, .int .i64 x2] 0 wr _ HYR.out
        have hbb : Below w.heap.size w (putL wr (w.heap.size + 1) 0 [.slice na2 n2 nc2, .slice ea2 e2 ec2, .int .i64 x2]).drew := (HBR.out.trans ((putL_bel (w.heap.size + 1) _ _ wr).mono (by omega))).drew
        have hrd := HREAD.out (putL wr (w.heap.size + 1) 0 [.slice na2 n2 nc2, .slice ea2 e2 ec2, .int .i64 x2]).drew (by show _ ≤ (putL wr _ _ _).heap.size; rw [putL_size]; exact Nat.le_refl _) (fun j hj => putL_other _ _ _ wr j (fun e => HNB.out (e ▸ hj)))
        generalize (putL wr (w.heap.size + 1) 0 [.slice na2 n2 nc2, .slice ea2 e2 ec2, .int .i64 x2]).drew = Y at E hbb hrd ⊢
        have t0 := cell_of E 0
        have t1 := cell_of E 1
        have t2 := cell_of E 2
        simp [setL] at t0 t1 t2
        obtain ⟨q1, q2, q3, q4⟩ := HEQ.out
        exact bodyPost_ret (v := .tuple #[.agg #[.slice na2 n2 nc2, .slice ea2 e2 ec2, .int .i64 x2], .slice ma2 m2 mc2, .int .i64 0, .int .i64 0]) (by simp [results, Tryz.results10, go_sem, t0, t1, t2]) rfl ⟨.inr ⟨HERS.out, na2, nc2, ea2, ec2, ma2, mc2, by rw [← q1, ← q2, ← q3, ← q4], hrd⟩, hbb⟩

def leftIn (ops : Array Oper) (listed : Array Bool) : Nat := (List.range ops.size).countP fun i => !listed.getD i true

theorem countP_lt {α : Type} {p q : α → Bool} : ∀ {l : List α} {x : α}, x ∈ l → (∀ y, q y = true → p y = true) → p x = true → q x = false → l.countP q + 1 ≤ l.countP p
  | [], _, h, _, _, _ => by cases h
  | y :: l, x, h, hqp, hp, hq => by
    have mono : l.countP q ≤ l.countP p := List.countP_mono_left (fun z _ => hqp z)
    rcases List.mem_cons.1 h with rfl | h
    · rw [List.countP_cons, List.countP_cons, hp, hq]
      simp
      exact mono
    · have := countP_lt h hqp hp hq
      rw [List.countP_cons, List.countP_cons]
      by_cases h1 : q y = true
      · simp [h1, hqp y h1]; omega
      · have h1' : q y = false := by simpa using h1
        simp [h1']; split <;> omega

theorem wpAny_inv {P : Program} {md : Region.Mode} {ops : Array Oper} {Q : Exit → Act → World → Prop} (I : Array Bool → Act → World → Prop)
    (hstep : ∀ listed a w, I listed a w → ∀ i o, ops[i]? = some o → listed.getD i true = false → (∀ e ∈ o.after, Region.binds md e = true → listed.getD e.on false = true) → wpOp P ops Q i (fun a' w' => I (listed.setIfInBounds i true) a' w') a w)
    (hend : ∀ listed a w, I listed a w → (∀ i, i < ops.size → listed.getD i true = true) → Q .normal a w)
    (hready : ∀ listed : Array Bool, Region.ready md ops listed = [] → ∀ i, i < ops.size → listed.getD i true = true) :
    ∀ (fuel : Nat) (listed : Array Bool) (a : Act) (w : World), leftIn ops listed ≤ fuel → I listed a w → wpAny P md ops Q fuel listed a w := by
  intro fuel
  induction fuel with
  | zero =>
    intro listed a w hf hI
    have hr : Region.ready md ops listed = [] := by
      cases h : Region.ready md ops listed with
      | nil => rfl
      | cons i l =>
        have hi : i ∈ Region.ready md ops listed := by rw [h]; exact List.mem_cons_self ..
        obtain ⟨h0, o, ho, _⟩ := mem_ready.1 hi
        have hlt : i < ops.size := (Array.getElem?_eq_some_iff.1 ho).1
        have : 0 < leftIn ops listed := List.countP_pos_iff.2 ⟨i, List.mem_range.2 hlt, by simp [h0]⟩
        omega
    exact ⟨hr, hend listed a w hI (hready listed hr)⟩
  | succ fuel ih =>
    intro listed a w hf hI
    refine ⟨fun hr => hend listed a w hI (hready listed hr), fun i hi => ?_⟩
    obtain ⟨h0, o, ho, hall⟩ := mem_ready.1 hi
    have hlt : i < ops.size := (Array.getElem?_eq_some_iff.1 ho).1
    refine wpOp_mono (fun a' w' h => ih _ a' w' ?_ h) (hstep listed a w hI i o ho h0 hall)
    have := countP_lt (p := fun j => !listed.getD j true) (q := fun j => !(listed.setIfInBounds i true).getD j true) (List.mem_range.2 hlt) (fun j hj => by
      by_cases hij : i = j
      · subst hij
        simp [h0]
      · rw [getD_set_ne true hij] at hj
        exact hj) (by simp [h0]) (by
        have hl : i < listed.size := by
          rcases Nat.lt_or_ge i listed.size with h' | h'
          · exact h'
          · simp [Array.getElem?_eq_none h'] at h0
        simp [hl])
    unfold leftIn at hf ⊢
    omega
theorem wpOp_plain {P : Program} {ops : Array Oper} {Q : Exit → Act → World → Prop} {i : Nat} {o : Oper} {K : Act → World → Prop} {a : Act} {w : World} (ho : ops[i]? = some o) (hg : o.guard = none) (h : ∀ K' : Act → World → Prop, (∀ a w, K a w → K' a w) → Oper.wp P o a w K' Q) : wpOp P ops Q i K a w :=
  wpOp_step ho (fun K' hK => by rw [if_pos (by simp [Region.wanted, hg])]; exact h K' hK)

/-- Where each operation waits for earlier ones alone: if none may come up, all have. -/
theorem ready_all {md : Region.Mode} {ops : Array Oper} (h : ((List.range ops.size).all fun i => ((ops[i]?).map (·.after.all fun e => !Region.binds md e || decide (e.on < i))).getD true) = true) (listed : Array Bool) (hr : Region.ready md ops listed = []) : ∀ i, i < ops.size → listed.getD i true = true := by
  intro i
  induction i using Nat.strongRecOn with
  | _ i ih =>
  intro hi
  cases hl : listed.getD i true with
  | true => rfl
  | false =>
    exfalso
    obtain ⟨o, ho⟩ : ∃ o, ops[i]? = some o := ⟨ops[i], Array.getElem?_eq_getElem hi⟩
    have h1 := List.all_eq_true.1 h i (List.mem_range.2 hi)
    rw [ho] at h1
    simp only [Option.map_some, Option.getD_some, Array.all_eq_true_iff_forall_mem, Bool.or_eq_true, Bool.not_eq_true', decide_eq_true_eq] at h1
    have hm : i ∈ Region.ready md ops listed := mem_ready.2 ⟨hl, o, ho, fun e he hb => by
      have h2 : e.on < i := (h1 e he).resolve_left (by simp [hb])
      have h3 := ih e.on h2 (by omega)
      have hlt : e.on < listed.size := by
        have : i < listed.size := by
          rcases Nat.lt_or_ge i listed.size with h' | h'
          · exact h'
          · simp [Array.getElem?_eq_none h'] at hl
        omega
      simp [hlt] at h3 ⊢
      exact h3⟩
    rw [hr] at hm
    cases hm
end Go.Proofs.YtdlmlpddkfnfmaaGreatDoor
