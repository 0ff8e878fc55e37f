/-
  What is proved here: what the texts HApply, HChanged, HSameG prove, in one text.
-/
import Derived.Test.YtdlmlpddkfnfmaaGreatDoorQMAZ
import Derived.Test.YtdlmlpddkfnfmaaGreatDoorQMBB
import Derived.Test.YtdlmlpddkfnfmaaGreatDoorHDo
import Derived.Test.YtdlmlpddkfnfmaaGreatDoorQMBE
import Derived.Test.YtdlmlpddkfnfmaaGreatDoorQMAI
import Derived.Test.YtdlmlpddkfnfmaaGreatDoorQMAL
namespace Go.Proofs.YtdlmlpddkfnfmaaGreatDoor
open Go.RowKit
set_option linter.unusedVariables false

/-- Operations lie where a slice says. -/
def OpsAt (w : World) (L : List Om) (a : Option Addr) (l : Nat) : Prop :=
  l = L.length ∧ l ≤ 9223372036854775807 ∧ (0 < l → ∃ b off, a = some ⟨b, off, none⟩ ∧ b < w.heap.size ∧ ∀ (i : Nat) (o : Om), L[i]? = some o → w.cell? ⟨b, off + i * 11, none⟩ = some (.int .i64 o.k) ∧ w.cell? ⟨b, off + i * 11 + 1, none⟩ = some (.int .i64 o.id) ∧ w.cell? ⟨b, off + i * 11 + 1 + 1, none⟩ = some (.int .i64 o.frm) ∧ w.cell? ⟨b, off + i * 11 + 1 + 1 + 1, none⟩ = some (.int .i64 o.dst) ∧ w.cell? ⟨b, off + i * 11 + 1 + 1 + 1 + 1, none⟩ = some (.string o.name) ∧ w.cell? ⟨b, off + i * 11 + 1 + 1 + 1 + 1 + 1, none⟩ = some (.int .i64 o.vk) ∧ w.cell? ⟨b, off + i * 11 + 1 + 1 + 1 + 1 + 1 + 1, none⟩ = some (.int .i64 o.vn) ∧ w.cell? ⟨b, off + i * 11 + 1 + 1 + 1 + 1 + 1 + 1 + 1, none⟩ = some (.string o.vs) ∧ w.cell? ⟨b, off + i * 11 + 1 + 1 + 1 + 1 + 1 + 1 + 1 + 1, none⟩ = some (.slice o.va o.vl o.vc) ∧ w.cell? ⟨b, off + i * 11 + 1 + 1 + 1 + 1 + 1 + 1 + 1 + 1 + 1, none⟩ = some (.slice o.la o.ll o.lc) ∧ w.cell? ⟨b, off + i * 11 + 1 + 1 + 1 + 1 + 1 + 1 + 1 + 1 + 1 + 1, none⟩ = some (.slice o.pa o.pl o.pc))

def zeroGr : Value := .agg #[.slice none 0 0, .slice none 0 0, .int .i64 0]

/-- What Apply answers: the first error and where it is, or what the work is behind all. -/
def ApplyEnd (w' : World) (n : Nat) (er : Nat → Int) (S : WS) (e : Ending) : Prop :=
  (∃ i, i < n ∧ (∀ j, j < i → er j = 0) ∧ er i ≠ 0 ∧ e = .returned (.tuple #[zeroGr, .slice none 0 0, .int .i64 i, .int .i64 (er i)])) ∨
  ((∀ j, j < n → er j = 0) ∧ ∃ na nc ea ec ma mc, e = .returned (.tuple #[.agg #[.slice na S.N.length nc, .slice ea S.E.length ec, .int .i64 S.next], .slice ma S.made.length mc, .int .i64 0, .int .i64 0]) ∧ S.N.length ≤ nc ∧ NsAt w' S.N na S.N.length ∧ S.E.length ≤ ec ∧ EsAt w' S.E ea S.E.length ∧ IntsAt w' S.made ma S.made.length)

theorem work_reads {O : Nat → Prop} {w : World} {b : Nat} {S : WS} (h : WorkIn O w b S) (hm : S.made.length ≤ 9223372036854775807) : ∃ na nc ea ec ma mc, w.heap[b]? = some (.cells #[.slice na S.N.length nc, .slice ea S.E.length ec, .int .i64 S.next, .slice ma S.made.length mc] 69 (0, 0)) ∧
    ∀ w' : World, w.heap.size ≤ w'.heap.size → (∀ i, O i → w'.heap[i]? = w.heap[i]?) → S.N.length ≤ nc ∧ NsAt w' S.N na S.N.length ∧ S.E.length ≤ ec ∧ EsAt w' S.E ea S.E.length ∧ IntsAt w' S.made ma S.made.length := by
  obtain ⟨na, nc, ea, ec, ma, mc, PN, PE, PM, hw⟩ := h
  refine ⟨na, nc, ea, ec, ma, mc, hw.blk, fun w' hs hk => ?_⟩
  have h1 := (hw.ns.kept (A' := PN) (w' := w') ⟨hs, fun i hi _ => ⟨hi, hk i (hw.pn i hi).1⟩⟩).reads2
  have h2 := (hw.es.kept (A' := PE) (w' := w') ⟨hs, fun i hi _ => ⟨hi, hk i (hw.pe i hi).1⟩⟩).reads2
  have h3 := row_keep hw.mr (w' := w') fun g hg _ => hk g (hw.pm g (hw.ms g hg)).1
  obtain ⟨a, c, he, hi⟩ := ints_of_row h3 hm
  injection he with e1 _ e3
  subst e1
  exact ⟨h1.1, h1.2, h2.1, h2.2, hi⟩

set_option maxHeartbeats 16000000 in
set_option maxRecDepth 100000 in
theorem apply_of (XN : List AN) (XE : List AE) (next : Int) (na : Option Addr) (nl nc : Nat) (ea : Option Addr) (el ec : Nat) (ops : List Om) (oa : Option Addr) (ol oc : Nat) (er : Nat → Int) (Sf : Nat → WS) (w : World)
    (hC : ∀ W, Below w.heap.size w W → Calls Tryz.prog 30 #[.agg #[.slice na nl nc, .slice ea el ec, .int .i64 next]] W fun e w' => e = .returned (.int .i64 0) ∧ Below W.heap.size W w')
    (hN : NsAt w XN na nl) (hE : EsAt w XE ea el) (hnl : nl ≤ 1000) (hel : el ≤ 1000) (hNo : ∀ x ∈ XN, x.ok) (hEo : ∀ x ∈ XE, x.ok)
    (hops : OpsAt w ops oa ol) (hol : ol ≤ 20) (hS0 : Sf 0 = ⟨XN, XE, next, []⟩) (hmade : ∀ i, (Sf i).made.length ≤ 9223372036854775807)
    (hstep : ∀ i o, ops[i]? = some o → (∀ j, j < i → er j = 0) → ∀ O b W, WorkIn O W b (Sf i) → (∀ j, O j → w.heap.size ≤ j) → Below w.heap.size w W → Calls Tryz.prog 32 #[.pointer (some ⟨b, 0, none⟩), .agg #[.int .i64 o.k, .int .i64 o.id, .int .i64 o.frm, .int .i64 o.dst, .string o.name, .int .i64 o.vk, .int .i64 o.vn, .string o.vs, .slice o.va o.vl o.vc, .slice o.la o.ll o.lc, .slice o.pa o.pl o.pc]] W fun e w' => ActEnd O W w' b (Sf (i + 1)) (er i) e) :
    Calls Tryz.prog 10 #[.agg #[.slice na nl nc, .slice ea el ec, .int .i64 next], .slice oa ol oc] w fun e w' => ApplyEnd w' ol er (Sf ol) e ∧ Below w.heap.size w w' := by
  have HC := toHid hC
  have HSTEP := toHid hstep
  have HOPS := toHid hops
  have HS0 := toHid hS0
  have HMADE := toHid hmade
  have HF : Hid (∀ W, Below w.heap.size w W → Calls Tryz.prog 31 #[.agg #[.slice na nl nc, .slice ea el ec, .int .i64 next]] W fun e w' => (∃ na1 nc1 ea1 ec1 m, e = .returned (.agg #[.slice na1 XN.length nc1, .slice ea1 XE.length ec1, .int .i64 next]) ∧ W.heap.size ≤ m ∧ NsOwn (fun i => W.heap.size ≤ i ∧ i < m) w' XN (.slice na1 XN.length nc1) ∧ EsOwn (fun i => m ≤ i) w' XE (.slice ea1 XE.length ec1)) ∧ Below W.heap.size W w') := fun W kW => (freshGraph_any XN XE na nl nc ea el ec next W (hN.below kW) (hE.below kW) hnl hel hNo hEo).mono fun e w' ⟨⟨nv, ev, m, he, hm, h1, h2⟩, k⟩ => ⟨by
    obtain ⟨a1, c1, rfl, _⟩ := h1.reads
    obtain ⟨a2, c2, rfl, _⟩ := h2.reads
    exact ⟨a1, c1, a2, c2, m, he, hm, h1, h2⟩, k⟩
  obtain ⟨xl, hxl⟩ : ∃ z, z = XN.length := ⟨_, rfl⟩
  obtain ⟨yl, hyl⟩ : ∃ z, z = XE.length := ⟨_, rfl⟩
  rw [← hxl, ← hyl] at HF
  have HXL := toHid hxl
  have HYL := toHid hyl
  clear hC hstep hops hS0 hmade hN hE hNo hEo hnl hel hxl hyl
  have b0 : Below w.heap.size w ((w.alloc (.cells #[.slice na nl nc, .slice ea el ec, .int .i64 next] 25)).alloc (.cells #[.slice none 0 0, .slice none 0 0, .int .i64 0] 25)) := ((Below.refl _ _).alloc (Nat.le_refl _) _).alloc (by simp) _
  have hx := (Below.heap_alloc (w.alloc (.cells #[.slice na nl nc, .slice ea el ec, .int .i64 next] 25)) (.cells #[.slice none 0 0, .slice none 0 0, .int .i64 0] 25) w.heap.size (by simp)).trans (alloc_new w (.cells #[.slice na nl nc, .slice ea el ec, .int .i64 next] 25))
  have hy := alloc_two w (.cells #[.slice na nl nc, .slice ea el ec, .int .i64 next] 25) (.cells #[.slice none 0 0, .slice none 0 0, .int .i64 0] 25)
  have z0 : ((w.alloc (.cells #[.slice na nl nc, .slice ea el ec, .int .i64 next] 25)).alloc (.cells #[.slice none 0 0, .slice none 0 0, .int .i64 0] 25)).heap.size = w.heap.size + 2 := by simp
  have HB := toHid b0
  have HX := toHid hx
  have HY := toHid hy
  have HZ := toHid z0
  clear b0 hx hy z0
  go_enter Tryz.func10, Tryz.ntmps10
  go_wp2_with fail
  refine (HC.out _ HB.out).mono ?_
  generalize (w.alloc (.cells #[.slice na nl nc, .slice ea el ec, .int .i64 next] 25)).alloc (.cells #[.slice none 0 0, .slice none 0 0, .int .i64 0] 25) = W at HB HX HY HZ ⊢
  rintro e w1 ⟨rfl, k1⟩
  have HB1 := toHid (HB.out.trans (k1.mono HB.out.size))
  have HX1 := toHid ((k1.block w.heap.size (by rw [HZ.out]; omega)).trans HX.out)
  have HY1 := toHid ((k1.block (w.heap.size + 1) (by rw [HZ.out]; omega)).trans HY.out)
  have s1 : w.heap.size + 2 ≤ w1.heap.size := by have := k1.size; rw [HZ.out] at this; exact this
  clear k1 HB HX HY HZ HC
  have c0 := cell_of HX1.out 0
  have c1 := cell_of HX1.out 1
  have c2 := cell_of HX1.out 2
  simp at c0 c1 c2
  have hol' : ¬ ((20 : Int) < ol) := by omega
  go_wp2_with fail
  refine (HF.out _ HB1.out).mono ?_
  rintro e w2 ⟨⟨na1, nc1, ea1, ec1, m, rfl, hm, hno, heo⟩, k2⟩
  have HB2 := toHid (HB1.out.trans (k2.mono HB1.out.size))
  have HY2 := toHid ((k2.block (w.heap.size + 1) (by omega)).trans HY1.out)
  have s2 : w.heap.size + 2 ≤ w2.heap.size := Nat.le_trans s1 k2.size
  have hwk : ∃ O, WorkIn O (w2.alloc (.cells #[.slice na1 xl nc1, .slice ea1 yl ec1, .int .i64 next, .slice none 0 0] 69)) w2.heap.size (Sf 0) ∧ ∀ j, O j → w.heap.size + 2 ≤ j := by
    refine ⟨fun i => w1.heap.size ≤ i ∧ i < w2.heap.size + 1, ⟨na1, nc1, ea1, ec1, none, 0, (fun i => (w1.heap.size ≤ i ∧ i < m) ∧ i < w2.heap.size), (fun i => m ≤ i ∧ i < w2.heap.size), (fun _ => False), ?_⟩, fun j hj => by omega⟩
    rw [HS0.out]
    have kA : Below w2.heap.size w2 (w2.alloc (.cells #[.slice na1 xl nc1, .slice ea1 yl ec1, .int .i64 next, .slice none 0 0] 69)) := (Below.refl _ _).alloc (Nat.le_refl _) _
    have hs12 := k2.size
    refine ⟨?_, ⟨hs12, by omega⟩, fun i hi => by simp; exact hi.2, fun i hi => ⟨⟨hi.1.1, by omega⟩, by omega⟩, fun i hi => ⟨⟨by omega, by omega⟩, by omega, fun q => by omega⟩, fun i hi => hi.elim, ?_, ?_, (fun g hg => by cases hg), World.ownsRow_nil _ _ _ _⟩
    · rw [alloc_new, HXL.out, HYL.out]; rfl
    · rw [HXL.out] at hno
      exact hno.kept ⟨kA.size, fun i hi hl => ⟨⟨hi, hl⟩, kA.block i hl⟩⟩
    · rw [HYL.out] at heo
      exact heo.kept ⟨kA.size, fun i hi hl => ⟨⟨hi, hl⟩, kA.block i hl⟩⟩
  have HWK := toHid hwk
  clear hwk hno heo k2 hm HF HB1 HX1 HY1 c0 c1 c2 s1
  have b3 : Below w.heap.size w (w2.alloc (.cells #[.slice na1 xl nc1, .slice ea1 yl ec1, .int .i64 next, .slice none 0 0] 69)) := HB2.out.alloc (by omega) _
  have y3 := (Below.heap_alloc w2 (.cells #[.slice na1 xl nc1, .slice ea1 yl ec1, .int .i64 next, .slice none 0 0] 69) (w.heap.size + 1) (by omega)).trans HY2.out
  have HB3 := toHid b3
  have HY3 := toHid y3
  clear b3 y3
  go_wp2_with fail
  generalize w2.alloc (.cells #[.slice na1 xl nc1, .slice ea1 yl ec1, .int .i64 next, .slice none 0 0] 69) = W3 at HWK HB3 HY3 ⊢
  generalize w2.heap.size = b at HWK ⊢
  obtain ⟨O0, hO0, hO0b⟩ := HWK.out
  have HO0 := toHid hO0
  have HO0B := toHid hO0b
  clear hO0 hO0b HWK HB2 HY2
  go_loopg [29] ol (fun g s29 wr => ∃ (i : Nat) (O : Nat → Prop), i ≤ ol ∧ ol - i ≤ g ∧ s29 = .int .i64 i ∧ (∀ j, j < i → er j = 0) ∧ WorkIn O wr b (Sf i) ∧ (∀ j, O j → w.heap.size + 2 ≤ j) ∧ wr.heap[w.heap.size + 1]? = some (.cells #[.slice none 0 0, .slice none 0 0, .int .i64 0] 25 (0, 0)) ∧ Below w.heap.size w wr)
  case atStart => exact ⟨0, O0, Nat.zero_le _, by omega, rfl, fun j hj => absurd hj (Nat.not_lt_zero _), HO0.out, HO0B.out, HY3.out, HB3.out⟩
  case round =>
    obtain ⟨i, O, hi, hg, rfl, hers, hwk, hOb, hyr, hbr⟩ := hrel
    have HERS := toHid hers
    have HWK := toHid hwk
    have HOB := toHid hOb
    have HYR := toHid hyr
    have HBR := toHid hbr
    have sr : w.heap.size + 2 ≤ wr.heap.size := (Array.getElem?_eq_some_iff.1 hyr).1
    clear hers hwk hOb hyr hbr HO0 HO0B HB3 HY3
    by_cases hlt : i < ol
    · obtain ⟨ob, off, ha, hb, hc⟩ := HOPS.out.2.2 (by omega)
      subst ha
      obtain ⟨o, ho, _⟩ := drop_get (L := ops) (i := i) (by have := HOPS.out.1; omega)
      obtain ⟨c0, c1, c2, c3, c4, c5, c6, c7, c8, c9, c10⟩ := hc i o ho
      have q : ∀ x, wr.cell? ⟨ob, x, none⟩ = w.cell? ⟨ob, x, none⟩ := fun x => HBR.out.cell (p := ⟨ob, x, none⟩) hb
      have d0 := (q _).trans c0
      have d1 := (q _).trans c1
      have d2 := (q _).trans c2
      have d3 := (q _).trans c3
      have d4 := (q _).trans c4
      have d5 := (q _).trans c5
      have d6 := (q _).trans c6
      have d7 := (q _).trans c7
      have d8 := (q _).trans c8
      have d9 := (q _).trans c9
      have d10 := (q _).trans c10
      have hil : (i : Int) < ol := by omega
      obtain ⟨z, hz⟩ : ∃ z, z = er i := ⟨_, rfl⟩
      have HDO : Hid (Calls Tryz.prog 32 #[.pointer (some ⟨b, 0, none⟩), .agg #[.int .i64 o.k, .int .i64 o.id, .int .i64 o.frm, .int .i64 o.dst, .string o.name, .int .i64 o.vk, .int .i64 o.vn, .string o.vs, .slice o.va o.vl o.vc, .slice o.la o.ll o.lc, .slice o.pa o.pl o.pc]] (wr.alloc (.cells #[.int .i64 o.k, .int .i64 o.id, .int .i64 o.frm, .int .i64 o.dst, .string o.name, .int .i64 o.vk, .int .i64 o.vn, .string o.vs, .slice o.va o.vl o.vc, .slice o.la o.ll o.lc, .slice o.pa o.pl o.pc] 65)) fun e w' => ActEnd O (wr.alloc (.cells #[.int .i64 o.k, .int .i64 o.id, .int .i64 o.frm, .int .i64 o.dst, .string o.name, .int .i64 o.vk, .int .i64 o.vn, .string o.vs, .slice o.va o.vl o.vc, .slice o.la o.ll o.lc, .slice o.pa o.pl o.pc] 65)) w' b (Sf (i + 1)) z e) := by
        rw [hz]
        exact HSTEP.out i o ho HERS.out O b _ (HWK.out.below ((Below.refl _ _).alloc (Nat.le_refl _) _)) (fun j hj => by have := HOB.out j hj; omega) (HBR.out.alloc (by omega) _)
      have HZI := toHid hz
      have kA : Below wr.heap.size wr (wr.alloc (.cells #[.int .i64 o.k, .int .i64 o.id, .int .i64 o.frm, .int .i64 o.dst, .string o.name, .int .i64 o.vk, .int .i64 o.vn, .string o.vs, .slice o.va o.vl o.vc, .slice o.la o.ll o.lc, .slice o.pa o.pl o.pc] 65)) := (Below.refl _ _).alloc (Nat.le_refl _) _
      have HKA := toHid kA
      clear c0 c1 c2 c3 c4 c5 c6 c7 c8 c9 c10 q hc ho hz kA
      go_wp2_with fail
      refine HDO.out.mono ?_
      clear HDO
      generalize wr.alloc (.cells #[.int .i64 o.k, .int .i64 o.id, .int .i64 o.frm, .int .i64 o.dst, .string o.name, .int .i64 o.vk, .int .i64 o.vn, .string o.vs, .slice o.va o.vl o.vc, .slice o.la o.ll o.lc, .slice o.pa o.pl o.pc] 65) = W4 at HKA ⊢
      rintro e w5 ⟨rfl, hr5, hs5⟩
      have hr : Rest O wr w5 := (Rest.of_below HKA.out).trans hr5 (fun _ _ q => q)
      have y5 := (hr.block (w.heap.size + 1) (by omega) (fun q => by have := HOB.out _ q; omega)).trans HYR.out
      have k5 : Below w.heap.size w w5 := HBR.out.trans (hr.below (by omega) (fun j hj => by have := HOB.out j hj; omega))
      have HR5 := toHid hr
      have HY5 := toHid y5
      have HK5 := toHid k5
      have HS5 := toHid hs5
      clear hr5 hs5 hr y5 k5 d0 d1 d2 d3 d4 d5 d6 d7 d8 d9 d10
      by_cases hz0 : z = 0
      · subst hz0
        have HZ0 := toHid HZI.out.symm
        have HST := toHid (StepEnd.behind HWK.out HKA.out (HS5.out rfl))
        go_wp2_with fail
        go_roundg (ol - (i + 1))
        case measure => omega
        case rel =>
          refine ⟨i + 1, Now O wr w5, by omega, by omega, by go_num, fun j hj => ?_, HST.out.1, fun j hj => ?_, HY5.out, HK5.out⟩
          · rcases Nat.lt_or_ge j i with h | h
            · exact HERS.out j h
            · have : j = i := by omega
              rw [this]
              exact HZ0.out
          · rcases hj with h | h
            · exact HOB.out j h
            · omega
      · have hz' : (z != 0) = true := by simp [hz0]
        have HZN := toHid hz0
        have r0 := cell_of HY5.out 0
        have r1 := cell_of HY5.out 1
        have r2 := cell_of HY5.out 2
        have g0 := free_of HY5.out 0
        have g1 := free_of HY5.out 1
        have g2 := free_of HY5.out 2
        simp at r0 r1 r2
        clear hz0
        go_wp2_with fail
        have eP : ∀ X : World, ((X.setCell ⟨w.heap.size + 1, 0, none⟩ (.slice none 0 0)).setCell ⟨w.heap.size + 1, 1, none⟩ (.slice none 0 0)).setCell ⟨w.heap.size + 1, 2, none⟩ (.int .i64 0) = putL X (w.heap.size + 1) 0 [.slice none 0 0, .slice none 0 0, .int .i64 0] := fun _ => rfl
        rw [eP]
        have E := putL_here [.slice none 0 0, .slice none 0 0, .int .i64 0] 0 w5 _ HY5.out
        have hbb : Below w.heap.size w (putL w5 (w.heap.size + 1) 0 [.slice none 0 0, .slice none 0 0, .int .i64 0]) := HK5.out.trans ((putL_bel (w.heap.size + 1) _ _ w5).mono (by omega))
        generalize putL w5 (w.heap.size + 1) 0 [.slice none 0 0, .slice none 0 0, .int .i64 0] = Y at E hbb ⊢
        have t0 := cell_of E 0
        have t1 := cell_of E 1
        have t2 := cell_of E 2
        simp [setL] at t0 t1 t2
        exact bodyPost_ret (v := .tuple #[zeroGr, .slice none 0 0, .int .i64 i, .int .i64 z]) (by simp [results, Tryz.results10, go_sem, t0, t1, t2, zeroGr]) rfl ⟨.inl ⟨i, hlt, HERS.out, by rw [← HZI.out]; exact HZN.out, by rw [← HZI.out]⟩, hbb⟩
    · have hil : i = ol := by omega
      subst hil
      obtain ⟨na2, nc2, ea2, ec2, ma2, mc2, hblk, hread⟩ := work_reads HWK.out (HMADE.out i)
      obtain ⟨n2, hn2⟩ : ∃ z, z = (Sf i).N.length := ⟨_, rfl⟩
      obtain ⟨e2, he2⟩ : ∃ z, z = (Sf i).E.length := ⟨_, rfl⟩
      obtain ⟨x2, hx2⟩ : ∃ z, z = (Sf i).next := ⟨_, rfl⟩
      obtain ⟨m2, hm2⟩ : ∃ z, z = (Sf i).made.length := ⟨_, rfl⟩
      rw [← hn2, ← he2, ← hx2, ← hm2] at hblk
      have HEQ := toHid (show n2 = (Sf i).N.length ∧ e2 = (Sf i).E.length ∧ x2 = (Sf i).next ∧ m2 = (Sf i).made.length from ⟨hn2, he2, hx2, hm2⟩)
      have HREAD := toHid hread
      have HNB : Hid (¬ O (w.heap.size + 1)) := fun q => by have := HOB.out _ q; omega
      have hbl : b < wr.heap.size := (Array.getElem?_eq_some_iff.1 hblk).1
      have c0 := cell_of hblk 0
      have c1 := cell_of hblk 1
      have c2 := cell_of hblk 2
      have c3 := cell_of hblk 3
      have r0 := cell_of HYR.out 0
      have r1 := cell_of HYR.out 1
      have r2 := cell_of HYR.out 2
      have g0 := free_of HYR.out 0
      have g1 := free_of HYR.out 1
      have g2 := free_of HYR.out 2
      simp at c0 c1 c2 c3 r0 r1 r2
      clear hblk hread hn2 he2 hx2 hm2
      go_upto_region 14 with fail
      go_region
      all_goals
        go_wp2_with fail
        have eP : ∀ X : World, ((X.setCell ⟨w.heap.size + 1, 0, none⟩ (.slice na2 n2 nc2)).setCell ⟨w.heap.size + 1, 1, none⟩ (.slice ea2 e2 ec2)).setCell ⟨w.heap.size + 1, 2, none⟩ (.int .i64 x2) = putL X (w.heap.size + 1) 0 [.slice na2 n2 nc2, .slice ea2 e2 ec2, .int .i64 x2] := fun _ => rfl
        rw [eP]
        have E : (putL wr (w.heap.size + 1) 0 [.slice na2 n2 nc2, .slice ea2 e2 ec2, .int .i64 x2]).drew.heap[w.heap.size + 1]? = _ := putL_here [.slice na2 n2 nc2, .slice ea2 e2 ec2, .int .i64 x2] 0 wr _ HYR.out
        have hbb : Below w.heap.size w (putL wr (w.heap.size + 1) 0 [.slice na2 n2 nc2, .slice ea2 e2 ec2, .int .i64 x2]).drew := (HBR.out.trans ((putL_bel (w.heap.size + 1) _ _ wr).mono (by omega))).drew
        have hrd := HREAD.out (putL wr (w.heap.size + 1) 0 [.slice na2 n2 nc2, .slice ea2 e2 ec2, .int .i64 x2]).drew (by show _ ≤ (putL wr _ _ _).heap.size; rw [putL_size]; exact Nat.le_refl _) (fun j hj => putL_other _ _ _ wr j (fun e => HNB.out (e ▸ hj)))
        generalize (putL wr (w.heap.size + 1) 0 [.slice na2 n2 nc2, .slice ea2 e2 ec2, .int .i64 x2]).drew = Y at E hbb hrd ⊢
        have t0 := cell_of E 0
        have t1 := cell_of E 1
        have t2 := cell_of E 2
        simp [setL] at t0 t1 t2
        obtain ⟨q1, q2, q3, q4⟩ := HEQ.out
        exact bodyPost_ret (v := .tuple #[.agg #[.slice na2 n2 nc2, .slice ea2 e2 ec2, .int .i64 x2], .slice ma2 m2 mc2, .int .i64 0, .int .i64 0]) (by simp [results, Tryz.results10, go_sem, t0, t1, t2]) rfl ⟨.inr ⟨HERS.out, na2, nc2, ea2, ec2, ma2, mc2, by rw [← q1, ← q2, ← q3, ← q4], hrd⟩, hbb⟩

def anK : List AN := [⟨1, [⟨#[65]⟩], [⟨⟨#[110]⟩, .node 2 5 ⟨#[]⟩ []⟩]⟩, ⟨2, [], []⟩]
def aeK : List AE := [⟨3, 1, 2, ⟨#[75]⟩, []⟩]

theorem prK_in (w : World) : PrIn AnyB w prK ⟨⟨#[110]⟩, .node 2 5 ⟨#[]⟩ []⟩ := ⟨rfl, by decide, by decide, Nat.le_refl _, [], rfl, by unfold LieA; rfl⟩

theorem pair_one {α β : Type} {R : α → β → Prop} {p : α} {x : β} (h : R p x) : Pair2 R [p] [x] := Pair2.snoc (P := []) (L := []) Pair2.nil h

theorem KnowsAt.ns {w : World} {lb pb nb eb : Nat} (h : KnowsAt w lb pb nb eb) : NsAt w anK (some ⟨nb, 0, none⟩) 2 := by
  refine ⟨ndsK lb pb, h.nodes, ?_⟩
  exact Pair2.snoc (pair_one ⟨rfl, rfl, h.strs, h.props, pair_one (prK_in w)⟩) ⟨rfl, rfl, strs_none _ _, props_none _ _, Pair2.nil⟩

theorem KnowsAt.es {w : World} {lb pb nb eb : Nat} (h : KnowsAt w lb pb nb eb) : EsAt w aeK (some ⟨eb, 0, none⟩) 1 :=
  ⟨edsK, h.edges, pair_one ⟨rfl, rfl, rfl, rfl, by decide, props_none _ _, Pair2.nil⟩⟩

theorem anK_ok : ∀ x ∈ anK, x.ok := by
  intro x hx
  rcases List.mem_cons.1 hx with rfl | hx
  · refine ⟨by decide, by decide, fun p hp => ?_⟩
    obtain rfl := List.mem_singleton.1 hp
    show wtT _ ≤ _
    decide
  · obtain rfl := List.mem_singleton.1 hx
    exact ⟨by decide, by decide, fun p hp => by cases hp⟩

theorem aeK_ok : ∀ x ∈ aeK, x.ok := by
  intro x hx
  obtain rfl := List.mem_singleton.1 hx
  exact ⟨by decide, fun p hp => by cases hp⟩

/-- What the work is, operation by operation. -/
def SfK : Nat → WS
  | 0 => ⟨anK, aeK, 4, []⟩
  | 1 => ⟨anK ++ [⟨4, [⟨#[66]⟩], []⟩], aeK, 5, [4]⟩
  | _ => ⟨anK ++ [⟨4, [⟨#[66]⟩], []⟩], aeK ++ [⟨5, 1, 4, ⟨#[75]⟩, []⟩], 6, [4, 5]⟩

def opsK (lb : Nat) : List Om := [⟨1, 0, 0, 0, ⟨#[]⟩, 0, 0, ⟨#[]⟩, none, 0, 0, some ⟨lb, 0, none⟩, 1, 1, none, 0, 0⟩, ⟨2, 0, 1, -1, ⟨#[75]⟩, 0, 0, ⟨#[]⟩, none, 0, 0, none, 0, 0, none, 0, 0⟩]

theorem strs_B {w : World} {lb : Nat} (h : w.heap[lb]? = some (.cells #[.string ⟨#[66]⟩] 9 (0, 0))) : StrsAt w [⟨#[66]⟩] (some ⟨lb, 0, none⟩) 1 := by
  refine ⟨rfl, by omega, fun _ => ⟨lb, 0, rfl, lt_of_some h, fun i s hs => ?_⟩⟩
  cases i with
  | zero =>
    simp at hs
    subst hs
    exact ⟨by decide, cell_of h 0⟩
  | succ i => simp at hs

theorem labs_B : labsE [⟨#[66]⟩] = 0 := by
  have h1 : nm ⟨#[66]⟩ = true := by decide
  have h2 : leS ⟨#[66]⟩ ⟨#[]⟩ = false := by rw [leS_lit]; decide
  simp [labsE, labE, h1, h2]

theorem prs_0 : prsE [] = 0 := by simp [prsE, prE]

theorem ops_at {w : World} {lb ob : Nat} (h : w.heap[ob]? = some (.cells #[.int .i64 1, .int .i64 0, .int .i64 0, .int .i64 0, .string ⟨#[]⟩, .int .i64 0, .int .i64 0, .string ⟨#[]⟩, .slice none 0 0, .slice (some ⟨lb, 0, none⟩) 1 1, .slice none 0 0, .int .i64 2, .int .i64 0, .int .i64 1, .int .i64 (-1), .string ⟨#[75]⟩, .int .i64 0, .int .i64 0, .string ⟨#[]⟩, .slice none 0 0, .slice none 0 0, .slice none 0 0] 65 (0, 0))) : OpsAt w (opsK lb) (some ⟨ob, 0, none⟩) 2 := by
  refine ⟨rfl, by omega, fun _ => ⟨ob, 0, rfl, lt_of_some h, fun i o ho => ?_⟩⟩
  match i, ho with
  | 0, ho =>
    simp [opsK] at ho
    subst ho
    exact ⟨cell_of h 0, cell_of h 1, cell_of h 2, cell_of h 3, cell_of h 4, cell_of h 5, cell_of h 6, cell_of h 7, cell_of h 8, cell_of h 9, cell_of h 10⟩
  | 1, ho =>
    simp [opsK] at ho
    subst ho
    exact ⟨cell_of h 11, cell_of h 12, cell_of h 13, cell_of h 14, cell_of h 15, cell_of h 16, cell_of h 17, cell_of h 18, cell_of h 19, cell_of h 20, cell_of h 21⟩
  | i + 2, ho => simp [opsK] at ho

theorem rise_K : Rise ((SfK 1).N.map AN.id) := by
  intro i j x y hij hx hy
  have e : (SfK 1).N.map AN.id = [1, 2, 4] := rfl
  rw [e] at hx hy
  match i, j, hij, hx, hy with
  | 0, 1, _, hx, hy => simp at hx hy; omega
  | 0, 2, _, hx, hy => simp at hx hy; omega
  | 1, 2, _, hx, hy => simp at hx hy; omega
  | i, j + 3, _, hx, hy => simp at hy
  | i + 2, 2, h, hx, hy => omega
  | i + 1, 1, h, hx, hy => omega
  | i, 0, h, hx, hy => omega

theorem step_K (w : World) {lb : Nat} (hl : w.heap[lb]? = some (.cells #[.string ⟨#[66]⟩] 9 (0, 0))) (i : Nat) (o : Om) (ho : (opsK lb)[i]? = some o) (O : Nat → Prop) (b : Nat) (W : World) (hW : WorkIn O W b (SfK i)) (hO : ∀ j, O j → w.heap.size ≤ j) (k : Below w.heap.size w W) :
    Calls Tryz.prog 32 #[.pointer (some ⟨b, 0, none⟩), .agg #[.int .i64 o.k, .int .i64 o.id, .int .i64 o.frm, .int .i64 o.dst, .string o.name, .int .i64 o.vk, .int .i64 o.vn, .string o.vs, .slice o.va o.vl o.vc, .slice o.la o.ll o.lc, .slice o.pa o.pl o.pc]] W fun e w' => ActEnd O W w' b (SfK (i + 1)) 0 e := by
  match i, ho, hW with
  | 0, ho, hW =>
    simp [opsK] at ho
    subst ho
    refine do_of 1 66 (.inl ⟨rfl, rfl⟩) O b (SfK 0) (SfK 1) 0 0 0 ⟨#[]⟩ 0 0 ⟨#[]⟩ none 0 0 (some ⟨lb, 0, none⟩) 1 1 none 0 0 0 W hW (by decide) (by omega) (by omega) (by omega) (fun V kV => ?_)
    have k0 : ∀ U, Below w.heap.size V U → Below w.heap.size w U := fun U kU => (k.trans (kV.mono k.size)).trans kU
    have := addNode_any O b (SfK 0) ⟨1, 0, 0, 0, ⟨#[]⟩, 0, 0, ⟨#[]⟩, none, 0, 0, some ⟨lb, 0, none⟩, 1, 1, none, 0, 0⟩ [⟨#[66]⟩] [] [] 0 0 0 w.heap.size V (hW.below kV) (Nat.le_trans k.size kV.size) hO (by decide) (by decide)
      (fun U kU => by have := labels_of name_any [⟨#[66]⟩] (some ⟨lb, 0, none⟩) 1 1 U ((strs_B hl).below (k0 U kU)); rw [labs_B] at this; exact this)
      (fun U kU => by have := props_E U none 0; rw [prs_0] at this; exact this) rfl
      (fun _ => ⟨⟨by decide, by decide, fun p hp => by cases hp⟩, fun U kU => ⟨rfl, rfl, (strs_B hl).below (k0 U kU), props_none _ _, Pair2.nil⟩⟩)
    have e : addNE (SfK 0) 0 = 0 := by decide
    rw [e] at this
    exact this
  | 1, ho, hW =>
    simp [opsK] at ho
    subst ho
    refine do_of 2 67 (.inr (.inl ⟨rfl, rfl⟩)) O b (SfK 1) (SfK 2) 0 1 (-1) ⟨#[75]⟩ 0 0 ⟨#[]⟩ none 0 0 none 0 0 none 0 0 0 W hW (by decide) (by omega) (by omega) (by omega) (fun V kV => ?_)
    have := addEdge_any O b (SfK 1) ⟨2, 0, 1, 4, ⟨#[75]⟩, 0, 0, ⟨#[]⟩, none, 0, 0, none, 0, 0, none, 0, 0⟩ [] [] 0 w.heap.size V (hW.below kV) (Nat.le_trans k.size kV.size) hO (by decide) (by decide) (by decide) rise_K (by decide)
      (fun U kU => by have := props_E U none 0; rw [prs_0] at this; exact this)
      (fun _ => ⟨⟨by decide, fun p hp => by cases hp⟩, fun U kU => ⟨rfl, rfl, rfl, rfl, by decide, props_none _ _, Pair2.nil⟩⟩)
    have e : addEE (SfK 1) ⟨2, 0, 1, 4, ⟨#[75]⟩, 0, 0, ⟨#[]⟩, none, 0, 0, none, 0, 0, none, 0, 0⟩ 0 = 0 := by decide
    rw [e] at this
    exact this
  | i + 2, ho, hW => simp [opsK] at ho

theorem ints45 (w : World) : IntsAt (w.alloc (.cells #[.int .i64 4, .int .i64 5] 3)) [4, 5] (some ⟨w.heap.size, 0, none⟩) 2 := by
  refine ⟨rfl, by omega, fun _ => ⟨w.heap.size, 0, rfl, by simp, fun i s hs => ?_⟩⟩
  match i, hs with
  | 0, hs =>
    simp at hs
    subst hs
    exact cell_of (alloc_new w _) 0
  | 1, hs =>
    simp at hs
    subst hs
    exact cell_of (alloc_new w _) 1
  | i + 2, hs => simp at hs

theorem apply_K {w : World} {lb pb nb eb lb2 ob : Nat} (h : KnowsAt w lb pb nb eb) (hl : w.heap[lb2]? = some (.cells #[.string ⟨#[66]⟩] 9 (0, 0))) (ho : OpsAt w (opsK lb2) (some ⟨ob, 0, none⟩) 2) :
    Calls Tryz.prog 10 #[.agg #[.slice (some ⟨nb, 0, none⟩) 2 2, .slice (some ⟨eb, 0, none⟩) 1 1, .int .i64 4], .slice (some ⟨ob, 0, none⟩) 2 2] w fun e w' => (∃ na nc eb off ec ma mc, e = .returned (.tuple #[.agg #[.slice na 3 nc, .slice (some ⟨eb, off, none⟩) 2 ec, .int .i64 6], .slice ma 2 mc, .int .i64 0, .int .i64 0]) ∧ eb < w'.heap.size ∧ w'.cell? ⟨eb, off + 5 + 1 + 1, none⟩ = some (.int .i64 4) ∧ IntsAt w' [4, 5] ma 2) ∧ Below w.heap.size w w' := by
  refine (apply_of anK aeK 4 (some ⟨nb, 0, none⟩) 2 2 (some ⟨eb, 0, none⟩) 1 1 (opsK lb2) (some ⟨ob, 0, none⟩) 2 2 (fun _ => 0) SfK w (fun W k => check_K (h.below k)) h.ns h.es (by omega) (by omega) anK_ok aeK_ok ho (by omega) rfl (fun i => ?_) (fun i o hi _ O b W hW hO k => step_K w hl i o hi O b W hW hO k)).mono ?_
  · match i with
    | 0 => decide
    | 1 => decide
    | i + 2 => show ([4, 5] : List Int).length ≤ _; decide
  rintro e w' ⟨hA, k⟩
  refine ⟨?_, k⟩
  rcases hA with ⟨i, _, _, h0, _⟩ | ⟨_, na, nc, ea, ec, ma, mc, rfl, _, _, _, ⟨E, hE, hp⟩, hi⟩
  · exact absurd rfl h0
  · obtain ⟨eb, off, rfl, hb, hc⟩ := hE.2.2 (by decide)
    obtain ⟨x, hx, hxe⟩ := hp.right (i := 1) (x := ⟨5, 1, 4, ⟨#[75]⟩, []⟩) rfl
    have c := (hc 1 x hx).2.2.2.1
    rw [hxe.2.2.1] at c
    exact ⟨na, nc, eb, off, ec, ma, mc, rfl, hb, by simpa using c, hi⟩

theorem equal45 (a : Option Addr) (c b : Nat) (w : World) (h : IntsAt w [4, 5] a 2) (h' : IntsAt w [4, 5] (some ⟨b, 0, none⟩) 2) : Calls Tryz.prog 17 #[.slice a 2 c, .slice (some ⟨b, 0, none⟩) 2 2] w fun e w' => e = .returned (.bool true) ∧ Below w.heap.size w w' :=
  equal_ints [4, 5] [4, 5] a 2 c (some ⟨b, 0, none⟩) 2 2 w h h'

set_option maxHeartbeats 8000000 in
set_option maxRecDepth 100000 in
theorem changed_true (w : World) : Calls Tryz.prog 11 #[] w fun e w' => e = .returned (.bool true) ∧ Below w.heap.size w w' := by
  go_enter Tryz.func11, Tryz.ntmps11
  go_wp2_with fail
  refine (knows_any w).mono ?_
  rintro e w1 ⟨⟨lb, pb, nb, eb, rfl, hk⟩, k1⟩
  have b1 : Below w1.heap.size w1 ((w1.alloc (.cells #[.string ⟨#[66]⟩] 9)).alloc (.cells #[.int .i64 1, .int .i64 0, .int .i64 0, .int .i64 0, .string ⟨#[]⟩, .int .i64 0, .int .i64 0, .string ⟨#[]⟩, .slice none 0 0, .slice (some ⟨w1.heap.size, 0, none⟩) 1 1, .slice none 0 0, .int .i64 2, .int .i64 0, .int .i64 1, .int .i64 (-1), .string ⟨#[75]⟩, .int .i64 0, .int .i64 0, .string ⟨#[]⟩, .slice none 0 0, .slice none 0 0, .slice none 0 0] 65)) := ((Below.refl _ _).alloc (Nat.le_refl _) _).alloc (by simp) _
  have hl := (Below.heap_alloc (w1.alloc (.cells #[.string ⟨#[66]⟩] 9)) (.cells #[.int .i64 1, .int .i64 0, .int .i64 0, .int .i64 0, .string ⟨#[]⟩, .int .i64 0, .int .i64 0, .string ⟨#[]⟩, .slice none 0 0, .slice (some ⟨w1.heap.size, 0, none⟩) 1 1, .slice none 0 0, .int .i64 2, .int .i64 0, .int .i64 1, .int .i64 (-1), .string ⟨#[75]⟩, .int .i64 0, .int .i64 0, .string ⟨#[]⟩, .slice none 0 0, .slice none 0 0, .slice none 0 0] 65) w1.heap.size (by simp)).trans (alloc_new w1 (.cells #[.string ⟨#[66]⟩] 9))
  have ho := ops_at (alloc_two w1 (.cells #[.string ⟨#[66]⟩] 9) (.cells #[.int .i64 1, .int .i64 0, .int .i64 0, .int .i64 0, .string ⟨#[]⟩, .int .i64 0, .int .i64 0, .string ⟨#[]⟩, .slice none 0 0, .slice (some ⟨w1.heap.size, 0, none⟩) 1 1, .slice none 0 0, .int .i64 2, .int .i64 0, .int .i64 1, .int .i64 (-1), .string ⟨#[75]⟩, .int .i64 0, .int .i64 0, .string ⟨#[]⟩, .slice none 0 0, .slice none 0 0, .slice none 0 0] 65))
  have HAP := toHid (apply_K (hk.below b1) hl ho)
  have HB1 := toHid (below3 k1 k1.size b1)
  clear hk k1 b1 hl ho
  go_wp2_with fail
  refine HAP.out.mono ?_
  clear HAP
  generalize ((w1.alloc (.cells #[.string ⟨#[66]⟩] 9)).alloc (.cells #[.int .i64 1, .int .i64 0, .int .i64 0, .int .i64 0, .string ⟨#[]⟩, .int .i64 0, .int .i64 0, .string ⟨#[]⟩, .slice none 0 0, .slice (some ⟨w1.heap.size, 0, none⟩) 1 1, .slice none 0 0, .int .i64 2, .int .i64 0, .int .i64 1, .int .i64 (-1), .string ⟨#[75]⟩, .int .i64 0, .int .i64 0, .string ⟨#[]⟩, .slice none 0 0, .slice none 0 0, .slice none 0 0] 65)) = W1 at HB1 ⊢
  generalize w1.heap.size = m1 at ⊢
  rintro e w3 ⟨⟨na, nc, eb2, off, ec, ma, mc, rfl, heb, hc, hi⟩, k3⟩
  have HB3 := toHid (below3 HB1.out HB1.out.size k3)
  have b4 : Below w3.heap.size w3 ((w3.alloc (.cells #[.slice na 3 nc, .slice (some ⟨eb2, off, none⟩) 2 ec, .int .i64 6] 25)).alloc (.cells #[.int .i64 4, .int .i64 5] 3)) := ((Below.refl _ _).alloc (Nat.le_refl _) _).alloc (by simp) _
  have HE := toHid (equal45 ma mc (w3.heap.size + 1) ((w3.alloc (.cells #[.slice na 3 nc, .slice (some ⟨eb2, off, none⟩) 2 ec, .int .i64 6] 25)).alloc (.cells #[.int .i64 4, .int .i64 5] 3)) (hi.below b4) (by have := ints45 (w3.alloc (.cells #[.slice na 3 nc, .slice (some ⟨eb2, off, none⟩) 2 ec, .int .i64 6] 25)); simpa using this))
  have hg := (Below.heap_alloc (w3.alloc (.cells #[.slice na 3 nc, .slice (some ⟨eb2, off, none⟩) 2 ec, .int .i64 6] 25)) (.cells #[.int .i64 4, .int .i64 5] 3) w3.heap.size (by simp)).trans (alloc_new w3 (.cells #[.slice na 3 nc, .slice (some ⟨eb2, off, none⟩) 2 ec, .int .i64 6] 25))
  have hz : ((w3.alloc (.cells #[.slice na 3 nc, .slice (some ⟨eb2, off, none⟩) 2 ec, .int .i64 6] 25)).alloc (.cells #[.int .i64 4, .int .i64 5] 3)).heap.size = w3.heap.size + 2 := by simp
  have hc4 := (b4.cell (p := ⟨eb2, off + 5 + 1 + 1, none⟩) heb).trans hc
  have HB4 := toHid (below3 HB3.out HB3.out.size b4)
  have HG := toHid hg
  have HZ := toHid hz
  have HC4 := toHid hc4
  clear hi hc k3 b4 hg hz hc4 HB1 HB3
  go_wp2_with fail
  refine HE.out.mono ?_
  clear HE
  generalize ((w3.alloc (.cells #[.slice na 3 nc, .slice (some ⟨eb2, off, none⟩) 2 ec, .int .i64 6] 25)).alloc (.cells #[.int .i64 4, .int .i64 5] 3)) = W3 at HB4 HG HZ HC4 ⊢
  rintro e w4 ⟨rfl, k4⟩
  have h4 := (k4.block w3.heap.size (by rw [HZ.out]; omega)).trans HG.out
  have x1 := cell_of h4 1
  have x2 := cell_of h4 2
  have y4 := (k4.cell (p := ⟨eb2, off + 5 + 1 + 1, none⟩) (by rw [HZ.out]; show eb2 < _; omega)).trans HC4.out
  simp at x1 x2
  have HB5 := toHid (below3 HB4.out HB4.out.size k4)
  clear h4 k4 HG HC4 HB4
  go_wp2_with fail
  go_ret
  exact ⟨rfl, HB5.out⟩

set_option maxHeartbeats 8000000 in
set_option maxRecDepth 100000 in
theorem sameGraph_ref (XN YN : List AN) (XE YE : List AE) (na : Option Addr) (nl nc : Nat) (ea : Option Addr) (el ec : Nat) (nx : Int) (ma : Option Addr) (ml mc : Nat) (fa : Option Addr) (fl fc : Nat) (mx : Int) (w : World) (h1 : NsAt w XN na nl) (h2 : EsAt w XE ea el) (h3 : NsAt w YN ma ml) (h4 : EsAt w YE fa fl) (o1 : ∀ x ∈ XN, x.ok) (o2 : ∀ x ∈ XE, x.ok) (o3 : ∀ x ∈ YN, x.ok) (o4 : ∀ x ∈ YE, x.ok) :
    Calls Tryz.prog 12 #[.agg #[.slice na nl nc, .slice ea el ec, .int .i64 nx], .agg #[.slice ma ml mc, .slice fa fl fc, .int .i64 mx]] w fun e w' => e = .returned (.bool ((nx == mx) && (eqB sameN XN YN && eqB sameE XE YE))) ∧ Below w.heap.size w w' := by
  obtain ⟨R, hR⟩ : ∃ R, R = ((nx == mx) && (eqB sameN XN YN && eqB sameE XE YE)) := ⟨_, rfl⟩
  rw [← hR]
  obtain ⟨s1, hs1⟩ : ∃ z, z = eqB sameN XN YN := ⟨_, rfl⟩
  obtain ⟨s2, hs2⟩ : ∃ z, z = eqB sameE XE YE := ⟨_, rfl⟩
  have HP1 : Hid (∀ W, Below w.heap.size w W → Calls Tryz.prog 34 #[.slice na nl nc, .slice ma ml mc, .func (.func 21) #[] #[]] W fun e w' => e = .returned (.bool s1) ∧ Below W.heap.size W w') := by
    intro W kW
    rw [hs1]
    exact equalN_any XN YN na nl nc ma ml mc W (h1.below kW) (h3.below kW) (fun p x q y W hx hy hp hq => sameNode_ref p x q y W hp hq (o1 x hx) (o3 y hy))
  have HP2 : Hid (∀ W, Below w.heap.size w W → Calls Tryz.prog 35 #[.slice ea el ec, .slice fa fl fc, .func (.func 23) #[] #[]] W fun e w' => e = .returned (.bool s2) ∧ Below W.heap.size W w') := by
    intro W kW
    rw [hs2]
    exact equalE_any XE YE ea el ec fa fl fc W (h2.below kW) (h4.below kW) (fun p x q y W hx hy hp hq => sameEdge_ref p x q y W hp hq (o2 x hx) (o4 y hy))
  have HR : Hid (R = ((nx == mx) && (s1 && s2))) := by rw [hR, hs1, hs2]; exact toHid rfl
  clear hR hs1 hs2 h1 h2 h3 h4 o1 o2 o3 o4
  have hb0 : Below w.heap.size w ((w.alloc (.cells #[.slice na nl nc, .slice ea el ec, .int .i64 nx] 25)).alloc (.cells #[.slice ma ml mc, .slice fa fl fc, .int .i64 mx] 25)) := ((Below.refl _ _).alloc (Nat.le_refl _) _).alloc (by simp) _
  have HB0 := toHid hb0
  have z0 : ((w.alloc (.cells #[.slice na nl nc, .slice ea el ec, .int .i64 nx] 25)).alloc (.cells #[.slice ma ml mc, .slice fa fl fc, .int .i64 mx] 25)).heap.size = w.heap.size + 2 := by simp
  have hu := (Below.heap_alloc (w.alloc (.cells #[.slice na nl nc, .slice ea el ec, .int .i64 nx] 25)) (.cells #[.slice ma ml mc, .slice fa fl fc, .int .i64 mx] 25) w.heap.size (by simp)).trans (alloc_new w (.cells #[.slice na nl nc, .slice ea el ec, .int .i64 nx] 25))
  have hv := alloc_two w (.cells #[.slice na nl nc, .slice ea el ec, .int .i64 nx] 25) (.cells #[.slice ma ml mc, .slice fa fl fc, .int .i64 mx] 25)
  have HU := toHid hu
  have HV := toHid hv
  have HZ := toHid z0
  clear hb0 z0 hu hv
  cases i0 : (nx == mx) with
  | false =>
    have H3 := toHid (show R = false by rw [HR.out, i0]; rfl)
    clear HR
    go_enter Tryz.func12, Tryz.ntmps12
    go_wp2_with fail
    go_ret
    exact ⟨ret_bool (by rw [H3.out]), HB0.out⟩
  | true =>
    go_enter Tryz.func12, Tryz.ntmps12
    go_wp2_with fail
    refine (HP1.out _ HB0.out).mono ?_
    generalize (w.alloc (.cells #[.slice na nl nc, .slice ea el ec, .int .i64 nx] 25)).alloc (.cells #[.slice ma ml mc, .slice fa fl fc, .int .i64 mx] 25) = W0 at HB0 HU HV HZ ⊢
    rintro e w1 ⟨rfl, k1⟩
    have hb1 := HB0.out.trans (k1.mono HB0.out.size)
    have A1 := toHid ((k1.block w.heap.size (by rw [HZ.out]; omega)).trans HU.out)
    have A2 := toHid ((k1.block (w.heap.size + 1) (by rw [HZ.out]; omega)).trans HV.out)
    have z1 : w.heap.size + 2 ≤ w1.heap.size := by have := k1.size; rw [HZ.out] at this; exact this
    have u1 := cell_of A1.out 1
    have v1 := cell_of A2.out 1
    simp at u1 v1
    clear k1
    cases s1 with
    | false =>
      have H3 := toHid (show R = false by rw [HR.out, i0]; rfl)
      clear HR
      go_wp2_with fail
      go_ret
      exact ⟨ret_bool (by rw [H3.out]), hb1⟩
    | true =>
      go_wp2_with fail
      refine (HP2.out _ hb1).mono ?_
      rintro e w2 ⟨rfl, k2⟩
      have hb2 := hb1.trans (k2.mono hb1.size)
      have H3 := toHid (show R = s2 by rw [HR.out, i0]; rfl)
      clear HR
      go_wp2_with fail
      go_ret
      exact ⟨ret_bool (by rw [H3.out]), hb2⟩

set_option maxHeartbeats 8000000 in
set_option maxRecDepth 100000 in
theorem sameDelta_any (G1 N1 G2 N2 : List AN) (H1 E1 H2 E2 : List AE) (ga : Option Addr) (gl gc : Nat) (na : Option Addr) (nl nc : Nat) (ha : Option Addr) (hl hc : Nat) (ea : Option Addr) (el ec : Nat) (f1 t1 : Int) (ia : Option Addr) (il ic : Nat) (ja : Option Addr) (jl jc : Nat) (ka : Option Addr) (kl kc : Nat) (la : Option Addr) (ll lc : Nat) (f2 t2 : Int) (w : World) (g1 : NsAt w G1 ga gl) (g2 : NsAt w N1 na nl) (g3 : EsAt w H1 ha hl) (g4 : EsAt w E1 ea el) (g5 : NsAt w G2 ia il) (g6 : NsAt w N2 ja jl) (g7 : EsAt w H2 ka kl) (g8 : EsAt w E2 la ll) (o1 : ∀ x ∈ G1, x.ok) (o2 : ∀ x ∈ N1, x.ok) (o3 : ∀ x ∈ H1, x.ok) (o4 : ∀ x ∈ E1, x.ok) (o5 : ∀ x ∈ G2, x.ok) (o6 : ∀ x ∈ N2, x.ok) (o7 : ∀ x ∈ H2, x.ok) (o8 : ∀ x ∈ E2, x.ok) :
    Calls Tryz.prog 19 #[.agg #[.slice ga gl gc, .slice na nl nc, .slice ha hl hc, .slice ea el ec, .int .i64 f1, .int .i64 t1], .agg #[.slice ia il ic, .slice ja jl jc, .slice ka kl kc, .slice la ll lc, .int .i64 f2, .int .i64 t2]] w fun e w' => e = .returned (.bool ((f1 == f2) && ((t1 == t2) && (eqB sameN G1 G2 && (eqB sameN N1 N2 && (eqB sameE H1 H2 && eqB sameE E1 E2)))))) ∧ Below w.heap.size w w' := by
  obtain ⟨R, hR⟩ : ∃ R, R = ((f1 == f2) && ((t1 == t2) && (eqB sameN G1 G2 && (eqB sameN N1 N2 && (eqB sameE H1 H2 && eqB sameE E1 E2))))) := ⟨_, rfl⟩
  rw [← hR]
  obtain ⟨s1, hs1⟩ : ∃ z, z = eqB sameN G1 G2 := ⟨_, rfl⟩
  obtain ⟨s2, hs2⟩ : ∃ z, z = eqB sameN N1 N2 := ⟨_, rfl⟩
  obtain ⟨s3, hs3⟩ : ∃ z, z = eqB sameE H1 H2 := ⟨_, rfl⟩
  obtain ⟨s4, hs4⟩ : ∃ z, z = eqB sameE E1 E2 := ⟨_, rfl⟩
  have HP1 : Hid (∀ W, Below w.heap.size w W → Calls Tryz.prog 34 #[.slice ga gl gc, .slice ia il ic, .func (.func 21) #[] #[]] W fun e w' => e = .returned (.bool s1) ∧ Below W.heap.size W w') := by
    intro W kW
    rw [hs1]
    exact equalN_any G1 G2 ga gl gc ia il ic W (g1.below kW) (g5.below kW) (fun p x q y W hx hy hp hq => sameNode_ref p x q y W hp hq (o1 x hx) (o5 y hy))
  have HP2 : Hid (∀ W, Below w.heap.size w W → Calls Tryz.prog 34 #[.slice na nl nc, .slice ja jl jc, .func (.func 21) #[] #[]] W fun e w' => e = .returned (.bool s2) ∧ Below W.heap.size W w') := by
    intro W kW
    rw [hs2]
    exact equalN_any N1 N2 na nl nc ja jl jc W (g2.below kW) (g6.below kW) (fun p x q y W hx hy hp hq => sameNode_ref p x q y W hp hq (o2 x hx) (o6 y hy))
  have HP3 : Hid (∀ W, Below w.heap.size w W → Calls Tryz.prog 35 #[.slice ha hl hc, .slice ka kl kc, .func (.func 23) #[] #[]] W fun e w' => e = .returned (.bool s3) ∧ Below W.heap.size W w') := by
    intro W kW
    rw [hs3]
    exact equalE_any H1 H2 ha hl hc ka kl kc W (g3.below kW) (g7.below kW) (fun p x q y W hx hy hp hq => sameEdge_ref p x q y W hp hq (o3 x hx) (o7 y hy))
  have HP4 : Hid (∀ W, Below w.heap.size w W → Calls Tryz.prog 35 #[.slice ea el ec, .slice la ll lc, .func (.func 23) #[] #[]] W fun e w' => e = .returned (.bool s4) ∧ Below W.heap.size W w') := by
    intro W kW
    rw [hs4]
    exact equalE_any E1 E2 ea el ec la ll lc W (g4.below kW) (g8.below kW) (fun p x q y W hx hy hp hq => sameEdge_ref p x q y W hp hq (o4 x hx) (o8 y hy))
  have HR : Hid (R = ((f1 == f2) && ((t1 == t2) && (s1 && (s2 && (s3 && s4)))))) := by rw [hR, hs1, hs2, hs3, hs4]; exact toHid rfl
  clear hR hs1 hs2 hs3 hs4 g1 g2 g3 g4 g5 g6 g7 g8 o1 o2 o3 o4 o5 o6 o7 o8
  have hb0 : Below w.heap.size w ((w.alloc (.cells #[.slice ga gl gc, .slice na nl nc, .slice ha hl hc, .slice ea el ec, .int .i64 f1, .int .i64 t1] 41)).alloc (.cells #[.slice ia il ic, .slice ja jl jc, .slice ka kl kc, .slice la ll lc, .int .i64 f2, .int .i64 t2] 41)) := ((Below.refl _ _).alloc (Nat.le_refl _) _).alloc (by simp) _
  have HB0 := toHid hb0
  have z0 : ((w.alloc (.cells #[.slice ga gl gc, .slice na nl nc, .slice ha hl hc, .slice ea el ec, .int .i64 f1, .int .i64 t1] 41)).alloc (.cells #[.slice ia il ic, .slice ja jl jc, .slice ka kl kc, .slice la ll lc, .int .i64 f2, .int .i64 t2] 41)).heap.size = w.heap.size + 2 := by simp
  have hu := (Below.heap_alloc (w.alloc (.cells #[.slice ga gl gc, .slice na nl nc, .slice ha hl hc, .slice ea el ec, .int .i64 f1, .int .i64 t1] 41)) (.cells #[.slice ia il ic, .slice ja jl jc, .slice ka kl kc, .slice la ll lc, .int .i64 f2, .int .i64 t2] 41) w.heap.size (by simp)).trans (alloc_new w (.cells #[.slice ga gl gc, .slice na nl nc, .slice ha hl hc, .slice ea el ec, .int .i64 f1, .int .i64 t1] 41))
  have hv := alloc_two w (.cells #[.slice ga gl gc, .slice na nl nc, .slice ha hl hc, .slice ea el ec, .int .i64 f1, .int .i64 t1] 41) (.cells #[.slice ia il ic, .slice ja jl jc, .slice ka kl kc, .slice la ll lc, .int .i64 f2, .int .i64 t2] 41)
  have HU := toHid hu
  have HV := toHid hv
  have HZ := toHid z0
  clear hb0 z0 hu hv
  cases i0 : (f1 == f2) with
  | false =>
    have H3 := toHid (show R = false by rw [HR.out, i0]; rfl)
    clear HR
    go_enter Tryz.func19, Tryz.ntmps19
    go_wp2_with fail
    go_ret
    exact ⟨ret_bool (by rw [H3.out]), HB0.out⟩
  | true =>
    cases i1 : (t1 == t2) with
    | false =>
      have H3 := toHid (show R = false by rw [HR.out, i0, i1]; rfl)
      clear HR
      go_enter Tryz.func19, Tryz.ntmps19
      go_wp2_with fail
      go_ret
      exact ⟨ret_bool (by rw [H3.out]), HB0.out⟩
    | true =>
      go_enter Tryz.func19, Tryz.ntmps19
      go_wp2_with fail
      refine (HP1.out _ HB0.out).mono ?_
      generalize (w.alloc (.cells #[.slice ga gl gc, .slice na nl nc, .slice ha hl hc, .slice ea el ec, .int .i64 f1, .int .i64 t1] 41)).alloc (.cells #[.slice ia il ic, .slice ja jl jc, .slice ka kl kc, .slice la ll lc, .int .i64 f2, .int .i64 t2] 41) = W0 at HB0 HU HV HZ ⊢
      rintro e w1 ⟨rfl, k1⟩
      have hb1 := HB0.out.trans (k1.mono HB0.out.size)
      have A1 := toHid ((k1.block w.heap.size (by rw [HZ.out]; omega)).trans HU.out)
      have A2 := toHid ((k1.block (w.heap.size + 1) (by rw [HZ.out]; omega)).trans HV.out)
      have z1 : w.heap.size + 2 ≤ w1.heap.size := by have := k1.size; rw [HZ.out] at this; exact this
      have u1 := cell_of A1.out 1
      have v1 := cell_of A2.out 1
      simp at u1 v1
      clear k1
      cases s1 with
      | false =>
        have H3 := toHid (show R = false by rw [HR.out, i0, i1]; rfl)
        clear HR
        go_wp2_with fail
        go_ret
        exact ⟨ret_bool (by rw [H3.out]), hb1⟩
      | true =>
        go_wp2_with fail
        refine (HP2.out _ hb1).mono ?_
        rintro e w2 ⟨rfl, k2⟩
        have hb2 := hb1.trans (k2.mono hb1.size)
        have A3 := toHid ((k2.block w.heap.size (by omega)).trans A1.out)
        have A4 := toHid ((k2.block (w.heap.size + 1) (by omega)).trans A2.out)
        have z2 : w.heap.size + 2 ≤ w2.heap.size := Nat.le_trans z1 k2.size
        have u2 := cell_of A3.out 2
        have v2 := cell_of A4.out 2
        simp at u2 v2
        clear k2
        cases s2 with
        | false =>
          have H3 := toHid (show R = false by rw [HR.out, i0, i1]; rfl)
          clear HR
          go_wp2_with fail
          go_ret
          exact ⟨ret_bool (by rw [H3.out]), hb2⟩
        | true =>
          go_wp2_with fail
          refine (HP3.out _ hb2).mono ?_
          rintro e w3 ⟨rfl, k3⟩
          have hb3 := hb2.trans (k3.mono hb2.size)
          have A5 := toHid ((k3.block w.heap.size (by omega)).trans A3.out)
          have A6 := toHid ((k3.block (w.heap.size + 1) (by omega)).trans A4.out)
          have z3 : w.heap.size + 2 ≤ w3.heap.size := Nat.le_trans z2 k3.size
          have u3 := cell_of A5.out 3
          have v3 := cell_of A6.out 3
          simp at u3 v3
          clear k3
          cases s3 with
          | false =>
            have H3 := toHid (show R = false by rw [HR.out, i0, i1]; rfl)
            clear HR
            go_wp2_with fail
            go_ret
            exact ⟨ret_bool (by rw [H3.out]), hb3⟩
          | true =>
            go_wp2_with fail
            refine (HP4.out _ hb3).mono ?_
            rintro e w4 ⟨rfl, k4⟩
            have hb4 := hb3.trans (k4.mono hb3.size)
            have H3 := toHid (show R = s4 by rw [HR.out, i0, i1]; rfl)
            clear HR
            go_wp2_with fail
            go_ret
            exact ⟨ret_bool (by rw [H3.out]), hb4⟩
end Go.Proofs.YtdlmlpddkfnfmaaGreatDoor
