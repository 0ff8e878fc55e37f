/-
  What is proved here: what the texts KChgP, HNum, HNumber prove, in one text.
-/
import Derived.Test.YtebbjmjgojekdaaGreatDoorQCBA
import Derived.Test.YtebbjmjgojekdaaGreatDoorQCAV
namespace Go.Proofs.YtebbjmjgojekdaaGreatDoor
open Go.RowKit
set_option linter.unusedVariables false

set_option maxHeartbeats 8000000 in
set_option maxRecDepth 100000 in
theorem changeP_any (pb po : Nat) (pcs : Array Value) (pt : TypeId) (L : List Pr) (a : Option Addr) (n cap : Nat) (x : Pr) (stays : Bool) (w : World) (hpb : w.heap[pb]? = some (.cells pcs pt (0, 0))) (hpo : pcs[po]? = some (.slice a n cap))
    (h : w.ownsRow 0 102 5 (.slice a n cap) n (rowP L)) (hn : n = L.length) (hl : n ≤ 60) (hsz : ∀ p ∈ L, p.name.size ≤ 9223372036854775807) (hr : RiseS (L.map Pr.name)) (hne : ∀ g, (Value.slice a n cap).ownBlock = some g → g ≠ pb) :
    Calls Tryz.prog 129 #[.pointer (some ⟨pb, po, none⟩), .agg #[.string x.name, .int .i64 x.k, .int .i64 x.n, .string x.s, .slice x.a x.l x.c], .func (.func 130) #[] #[], .bool stays, .int .i64 6] w fun e w' => ChgEnd Pr.cells 5 102 Pr.name L x stays 6 pb po pcs pt (.slice a n cap) w w' e := by
  have hrm : RiseS (L.map Pr.name) := hr
  obtain ⟨er, hER⟩ : ∃ z, z = chgE Pr.name L x.name stays 6 := ⟨_, rfl⟩
  obtain ⟨RL, hRL⟩ : ∃ z, z = chgL Pr.name L x stays := ⟨_, rfl⟩
  have hat : PropsAt w L a n := row_props (c := cap) (by rw [← hn]; exact h) hsz
  have HLW : Hid (∀ g, (Value.slice a n cap).ownBlock = some g → g < w.heap.size) := fun g hg => (h.lt g hg).2
  have HPB := toHid hpb
  have HPO := toHid hpo
  have HH := toHid h
  have HN := toHid hn
  have HRM := toHid hrm
  have HNE := toHid hne
  have HRI := toHid hr
  have HAT := toHid hat
  have HER := toHid hER
  unfold ChgEnd
  rw [← hER, ← hRL]
  have HRL := toHid hRL
  clear hpb hpo h hn hr hrm hne hat hsz hER hRL
  have b0 : Below w.heap.size w ((w.alloc (.cells #[.string x.name, .int .i64 x.k, .int .i64 x.n, .string x.s, .slice x.a x.l x.c] 102)).alloc (.cells #[.func (.func 130) #[] #[]] 180)) := ((Below.refl _ _).alloc (Nat.le_refl _) _).alloc (by simp) _
  have q1 := (Below.heap_alloc (w.alloc (.cells #[.string x.name, .int .i64 x.k, .int .i64 x.n, .string x.s, .slice x.a x.l x.c] 102)) (.cells #[.func (.func 130) #[] #[]] 180) w.heap.size (by simp)).trans (alloc_new w (.cells #[.string x.name, .int .i64 x.k, .int .i64 x.n, .string x.s, .slice x.a x.l x.c] 102))
  have q0 := alloc_two w (.cells #[.string x.name, .int .i64 x.k, .int .i64 x.n, .string x.s, .slice x.a x.l x.c] 102) (.cells #[.func (.func 130) #[] #[]] 180)
  have z0 : ((w.alloc (.cells #[.string x.name, .int .i64 x.k, .int .i64 x.n, .string x.s, .slice x.a x.l x.c] 102)).alloc (.cells #[.func (.func 130) #[] #[]] 180)).heap.size = w.heap.size + 2 := by simp
  have HQ1 := toHid q1
  have HB0 := toHid b0
  have HQ0 := toHid q0
  have HZ0 := toHid z0
  clear b0 q0 q1 z0
  go_enter Tryz.func129, Tryz.ntmps129
  go_upto_region 1 with fail
  generalize ((w.alloc (.cells #[.string x.name, .int .i64 x.k, .int .i64 x.n, .string x.s, .slice x.a x.l x.c] 102)).alloc (.cells #[.func (.func 130) #[] #[]] 180)) = W at HB0 HQ0 HQ1 HZ0 ⊢
  have HPW : Hid (W.heap[pb]? = some (.cells pcs pt (0, 0))) := toHid ((HB0.out.block pb (Array.getElem?_eq_some_iff.1 HPB.out).1).trans HPB.out)
  have hpbl : pb < w.heap.size := (Array.getElem?_eq_some_iff.1 HPB.out).1
  have c0 : W.cell? ⟨pb, po, none⟩ = some (.slice a n cap) := (cell_of HPW.out po).trans HPO.out
  have y0 : W.cell? ⟨w.heap.size + 1, 0, none⟩ = some (.func (.func 130) #[] #[]) := cell_of HQ0.out 0
  have x0 : W.cell? ⟨w.heap.size, 0, none⟩ = some (.string x.name) := cell_of HQ1.out 0
  have x1 : W.cell? ⟨w.heap.size, 1, none⟩ = some (.int .i64 x.k) := cell_of HQ1.out 1
  have x2 : W.cell? ⟨w.heap.size, 2, none⟩ = some (.int .i64 x.n) := cell_of HQ1.out 2
  have x3 : W.cell? ⟨w.heap.size, 3, none⟩ = some (.string x.s) := cell_of HQ1.out 3
  have x4 : W.cell? ⟨w.heap.size, 4, none⟩ = some (.slice x.a x.l x.c) := cell_of HQ1.out 4
  have D0 : Below W.heap.size W W.drew := (Below.refl _ _).drew
  have HS : Hid (∀ W' : World, Below W.heap.size W W' → W'.cell? ⟨pb, po, none⟩ = some (.slice a n cap) ∧ W'.cell? ⟨w.heap.size + 1, 0, none⟩ = some (.func (.func 130) #[] #[]) ∧ W'.cell? ⟨w.heap.size, 0, none⟩ = some (.string x.name) ∧ W'.cell? ⟨w.heap.size, 1, none⟩ = some (.int .i64 x.k) ∧ W'.cell? ⟨w.heap.size, 2, none⟩ = some (.int .i64 x.n) ∧ W'.cell? ⟨w.heap.size, 3, none⟩ = some (.string x.s) ∧ W'.cell? ⟨w.heap.size, 4, none⟩ = some (.slice x.a x.l x.c)) := fun W' kk =>
    ⟨(kk.cell (p := ⟨pb, po, none⟩) (by rw [HZ0.out]; show pb < _; omega)).trans c0, (kk.cell (p := ⟨w.heap.size + 1, 0, none⟩) (by rw [HZ0.out]; show w.heap.size + 1 < _; omega)).trans y0, (kk.cell (p := ⟨w.heap.size, 0, none⟩) (by rw [HZ0.out]; show w.heap.size < _; omega)).trans x0, (kk.cell (p := ⟨w.heap.size, 1, none⟩) (by rw [HZ0.out]; show w.heap.size < _; omega)).trans x1, (kk.cell (p := ⟨w.heap.size, 2, none⟩) (by rw [HZ0.out]; show w.heap.size < _; omega)).trans x2, (kk.cell (p := ⟨w.heap.size, 3, none⟩) (by rw [HZ0.out]; show w.heap.size < _; omega)).trans x3, (kk.cell (p := ⟨w.heap.size, 4, none⟩) (by rw [HZ0.out]; show w.heap.size < _; omega)).trans x4⟩
  have HF : Hid (∀ V, Below W.heap.size W V → Calls Tryz.prog 159 #[.slice a n cap, .string x.name, .func (.func 160) #[] #[.pointer (some ⟨w.heap.size + 1, 0, none⟩)]] V fun e w' => FoundS (L.map Pr.name) x.name e ∧ Below V.heap.size V w') := fun V kV => propK_search L a n cap x.name (w.heap.size + 1) V (HS.out V kV).2.1 (by have := kV.size; rw [HZ0.out] at this; omega) ((HAT.out.below HB0.out).below kV) hl HRI.out
  have HNM : Hid (∀ V, Calls Tryz.prog 130 #[.agg #[.string x.name, .int .i64 x.k, .int .i64 x.n, .string x.s, .slice x.a x.l x.c]] V fun e w' => e = .returned (.string x.name) ∧ Below V.heap.size V w') := fun V => propK_name x V
  go_cut [11, 12] (fun s11 s12 wx => ∃ (i : Nat) (f : Bool), s11 = .int .i64 i ∧ s12 = .bool f ∧ SpotS (L.map Pr.name) x.name i f ∧ Below W.heap.size W wx)
  case first =>
    go_region_held3 (fun W' => W'.cell? ⟨pb, po, none⟩ = some (.slice a n cap) ∧ W'.cell? ⟨w.heap.size + 1, 0, none⟩ = some (.func (.func 130) #[] #[]) ∧ W'.cell? ⟨w.heap.size, 0, none⟩ = some (.string x.name) ∧ W'.cell? ⟨w.heap.size, 1, none⟩ = some (.int .i64 x.k) ∧ W'.cell? ⟨w.heap.size, 2, none⟩ = some (.int .i64 x.n) ∧ W'.cell? ⟨w.heap.size, 3, none⟩ = some (.string x.s) ∧ W'.cell? ⟨w.heap.size, 4, none⟩ = some (.slice x.a x.l x.c))
      (first
        | with_reducible exact HS.out _ k2
        | with_reducible exact HS.out _ k1
        | with_reducible exact HS.out _ D0
        | exact ⟨c0, y0, x0, x1, x2, x3, x4⟩
        | go_keep)
      (first
        | (go_at_call 159; refine (HF.out _ k1).mono ?_; rintro e u2 ⟨⟨i, f, rfl, hsp⟩, h2⟩; have k2 : Below W.heap.size W u2 := below2 k1 h2; have HSP := toHid hsp; clear hsp)
        | (go_at_call 130; refine (HNM.out _).mono ?_; rintro e u1 ⟨rfl, h1⟩; have k1 : Below W.heap.size W u1 := D0.trans h1))
    all_goals
      go_wp2_with fail
      go_meet
      exact ⟨i, f, rfl, rfl, HSP.out, k2⟩
  case rest =>
    obtain ⟨i, f, rfl, rfl, hsp, kc⟩ := hcut
    have HSP := toHid hsp
    have k0 := HB0.out.trans (kc.mono HB0.out.size)
    have hwc : w.heap.size + 2 ≤ wc.heap.size := by have := kc.size; rw [HZ0.out] at this; exact this
    have hpc : wc.heap[pb]? = some (.cells pcs pt (0, 0)) := (k0.block pb hpbl).trans HPB.out
    have hrow : wc.ownsRow 0 102 5 (.slice a n cap) n ((L.map Pr.cells).flatten) := row_keep HH.out fun g _ hl => k0.block g hl
    have hil : i ≤ n := by have := hsp.1; rw [List.length_map] at this; have := HN.out; omega
    have HPC := toHid hpc
    have HROW := toHid hrow
    have HK0 := toHid k0
    have d0 : wc.cell? ⟨pb, po, none⟩ = some (.slice a n cap) := (cell_of hpc po).trans HPO.out
    have g0 := free_of hpc po
    have hpl : pb < wc.heap.size := by omega
    have hlt : ∀ g, (Value.slice a n cap).ownBlock = some g → g < wc.heap.size := fun g hg => (hrow.lt g hg).2
    have HLT := toHid hlt
    have HX : Hid (∀ W', Below W.heap.size W W' → W'.cell? ⟨w.heap.size, 0, none⟩ = some (.string x.name) ∧ W'.cell? ⟨w.heap.size, 1, none⟩ = some (.int .i64 x.k) ∧ W'.cell? ⟨w.heap.size, 2, none⟩ = some (.int .i64 x.n) ∧ W'.cell? ⟨w.heap.size, 3, none⟩ = some (.string x.s) ∧ W'.cell? ⟨w.heap.size, 4, none⟩ = some (.slice x.a x.l x.c)) := fun W' kk => (HS.out W' kk).2.2
    have HKC := toHid kc
    clear hsp k0 kc hpc hrow hlt c0 y0 x0 x1 x2 x3 x4 D0 HS HF HNM HPW HQ0 HQ1 HB0 HAT HH
    cases stays
    · cases f
      · have hE : er = 0 := by rw [HER.out, chgE, if_neg (by simp)]
        have hR : RL = L := by rw [HRL.out]; exact (chg_none Pr.name HRM.out HSP.out).symm
        have HE := toHid hE
        have HR := toHid hR
        go_wp2_with fail
        go_ret
        refine ⟨by rw [HE.out]; rfl, Rest.of_below HK0.out, fun _ => ⟨.slice a n cap, ?_, ?_, fun g hg => .inl hg⟩⟩
        · rw [set_same HPO.out]; exact HPC.out
        · rw [HR.out, ← HN.out]; exact HROW.out
      · have hE : er = 0 := by rw [HER.out, chgE, if_neg (by simp)]
        have hR : RL = L.eraseIdx i := by rw [HRL.out]; exact (chg_erase Pr.name HRM.out HSP.out).symm
        have hii : i < n := by rw [HN.out]; exact spot_len Pr.name HSP.out
        have HE := toHid hE
        have HR := toHid hR
        clear hE hR
        obtain ⟨g, cap', hv, _, hgl⟩ := HROW.out.form (by omega)
        injection hv with hv1 hv2 hv3
        subst hv1
        obtain ⟨r, hr⟩ : ∃ r, n = i + 1 + r := ⟨n - (i + 1), by omega⟩
        have HR2 := toHid hr
        subst hr
        have hgb : g ≠ pb := HNE.out g rfl
        have HDEL : Hid _ := toHid (deleteP_any L g cap i r wc HN.out.symm HROW.out (by omega))
        have hsum : (i : Int) + 1 ≤ 9223372036854775807 := by omega
        have HLL := toHid hl
        have HPL2 := toHid hpl
        clear hil hii HR2 hl hv2 hv3 hgl hwc
        go_wp2_with fail
        refine HDEL.out.mono ?_
        rintro e u ⟨rfl, hown, hrest⟩
        have hbu := (hrest.block pb hpl (fun e => hgb e.symm)).trans HPC.out
        have d1 := (cell_of hbu po).trans HPO.out
        have f1 := free_of hbu po
        have hbl2 : pb < u.heap.size := Nat.lt_of_lt_of_le hpl hrest.size
        have HOWN := toHid hown
        have HREST := toHid hrest
        have HBU := toHid hbu
        clear hown hrest hbu HDEL
        go_wp2_with fail
        go_ret
        refine ⟨by rw [HE.out]; rfl, ?_, fun _ => ⟨.slice (some ⟨g, 0, none⟩) (i + r) cap, set_block2 HBU.out po _, ?_, fun g hg => .inl hg⟩⟩
        · have r1 := (Rest.of_below (O := fun j => j = pb ∨ (Value.slice (some ⟨g, 0, none⟩) (i + 1 + r) cap).ownBlock = some j) HK0.out).trans HREST.out (fun j _ q => .inr (by rw [q]; rfl))
          refine ⟨r1.os, r1.tape, r1.output, Nat.le_trans r1.size (by simp [World.setCell]), fun j hj hn => (Below.heap_setCell u ⟨pb, po, none⟩ _ j (fun e => hn (.inl e))).trans (r1.block j hj hn)⟩
        · have hlen : (L.eraseIdx i).length = i + r := by rw [List.length_eraseIdx, if_pos (by have := HN.out; omega), ← HN.out]; omega
          rw [HR.out, hlen]
          exact row_keep HOWN.out fun j hj _ => Below.heap_setCell u ⟨pb, po, none⟩ _ j (by
            have : g = j := Option.some.inj hj
            rw [← this]
            exact hgb)
    · cases f
      · by_cases hm : 6 ≤ n
        · have hE : er = 10 := by
            rw [HER.out, chgE, if_pos]
            exact ⟨rfl, HSP.out.2.2.2.2 rfl, by have := HN.out; omega⟩
          have HE := toHid hE
          have hm' : (6 : Int) ≤ (n : Int) := by omega
          go_wp2_with fail
          go_ret
          exact ⟨by rw [HE.out]; rfl, Rest.of_below HK0.out, fun h => by rw [HE.out] at h; cases h⟩
        · have hE : er = 0 := by
            rw [HER.out, chgE, if_neg]
            rintro ⟨_, _, h3⟩
            have := HN.out
            omega
          have hR : RL = insL L i x := by rw [HRL.out]; exact (chg_ins Pr.name HRM.out HSP.out).symm
          have HE := toHid hE
          have HR := toHid hR
          clear hE hR
          have hm' : ¬ ((6 : Int) ≤ (n : Int)) := by omega
          have HXB : Hid (∀ W' : World, W'.heap[w.heap.size]? = wc.heap[w.heap.size]? → W'.cell? ⟨w.heap.size, 0, none⟩ = some (.string x.name) ∧ W'.cell? ⟨w.heap.size, 1, none⟩ = some (.int .i64 x.k) ∧ W'.cell? ⟨w.heap.size, 2, none⟩ = some (.int .i64 x.n) ∧ W'.cell? ⟨w.heap.size, 3, none⟩ = some (.string x.s) ∧ W'.cell? ⟨w.heap.size, 4, none⟩ = some (.slice x.a x.l x.c)) := fun W' e => by
            obtain ⟨x0, x1, x2, x3, x4⟩ := HX.out wc HKC.out
            exact ⟨(cell_same e 0).trans x0, (cell_same e 1).trans x1, (cell_same e 2).trans x2, (cell_same e 3).trans x3, (cell_same e 4).trans x4⟩
          obtain ⟨x0, x1, x2, x3, x4⟩ := HXB.out wc rfl
          have HINS : Hid (Calls Tryz.prog 162 #[.slice a n cap, .int .i64 i, .slice (some ⟨wc.heap.size, 0, none⟩) 1 1] (wc.drew.alloc (.cells #[.string x.name, .int .i64 x.k, .int .i64 x.n, .string x.s, .slice x.a x.l x.c] 102)) fun e w' => InsEnd Pr.cells 5 102 L i x (.slice a n cap) (wc.drew.alloc (.cells #[.string x.name, .int .i64 x.k, .int .i64 x.n, .string x.s, .slice x.a x.l x.c] 102)) w' e) := insP_any L a n cap i x wc.heap.size (wc.drew.alloc (.cells #[.string x.name, .int .i64 x.k, .int .i64 x.n, .string x.s, .slice x.a x.l x.c] 102)) (World.ownsRow.alloc (w := wc.drew) HROW.out _) HN.out (by omega) hil (alloc_new wc.drew _) (fun g hg => by have := HLT.out g hg; omega)
          have e0 : wc.drew.cell? ⟨pb, po, none⟩ = some (.slice a n cap) := d0
          have e1 : (wc.drew.alloc (.cells #[.string x.name, .int .i64 x.k, .int .i64 x.n, .string x.s, .slice x.a x.l x.c] 102)).cell? ⟨pb, po, none⟩ = some (.slice a n cap) := (cell_past wc.drew _ pb po hpl).trans d0
          have hqx : w.heap.size < wc.heap.size := by omega
          have HDD : Hid (wc.drew.heap[w.heap.size]? = wc.heap[w.heap.size]?) := toHid rfl
          have hqp : w.heap.size ≠ pb := by omega
          go_upto_region 7 with fail
          go_region_with (go_at_call 162; refine HINS.out.mono ?_; rintro e u ⟨⟨v', rfl, hown, hat⟩, hrest⟩; have eu : u.heap[w.heap.size]? = wc.heap[w.heap.size]? := (hrest.block w.heap.size (by simp; omega) (fun e => by have := HLW.out _ e; omega)).trans (Below.heap_alloc wc.drew _ _ hqx); have hbu := (hrest.block pb (by simp; omega) (fun e => HNE.out pb e rfl)).trans ((Below.heap_alloc wc.drew (.cells #[.string x.name, .int .i64 x.k, .int .i64 x.n, .string x.s, .slice x.a x.l x.c] 102) pb hpl).trans HPC.out); have d1 := (cell_of hbu po).trans HPO.out; have f1 := free_of hbu po; have hbl2 : pb < u.heap.size := (Array.getElem?_eq_some_iff.1 hbu).1; obtain ⟨av, cv, hv, hcv⟩ := slice_of_row hown; subst hv; have HOWN := toHid hown; have HREST := toHid hrest; have HAT2 := toHid hat; have HBU := toHid hbu; clear hown hrest hbu hat)
          all_goals
            go_wp2_with fail
            go_ret
            refine ⟨by rw [HE.out]; rfl, ?_, fun _ => ⟨.slice av (L.length + 1) cv, set_block2 HBU.out po _, ?_, fun g hg => ?_⟩⟩
            · have r0 : Rest (fun j => j = pb ∨ (Value.slice a n cap).ownBlock = some j) w (wc.drew.alloc (.cells #[.string x.name, .int .i64 x.k, .int .i64 x.n, .string x.s, .slice x.a x.l x.c] 102)) := Rest.alloc (Rest.drew (Rest.of_below HK0.out)) _
              have r1 := r0.trans HREST.out (fun j _ q => .inr q)
              refine ⟨r1.os, r1.tape, r1.output, Nat.le_trans r1.size (by simp [World.setCell]), fun j hj hn => (Below.heap_setCell u ⟨pb, po, none⟩ _ j (fun e => hn (.inl e))).trans (r1.block j hj hn)⟩
            · rw [HR.out, insL_len L i x (by have := HN.out; omega)]
              exact row_keep HOWN.out fun j hj _ => Below.heap_setCell u ⟨pb, po, none⟩ _ j (by
                rcases HAT2.out j hj with q | q
                · exact HNE.out j q
                · have : wc.heap.size + 1 ≤ j := by simpa using q
                  show j ≠ pb
                  omega)
            · rcases HAT2.out g hg with q | q
              · exact .inl q
              · exact .inr (by have : wc.heap.size + 1 ≤ g := by simpa using q
                               omega)
      · have hE : er = 0 := by
          rw [HER.out, chgE, if_neg]
          rintro ⟨_, h2, _⟩
          exact h2 (spot_mem Pr.name HSP.out)
        have hR : RL = L.set i x := by rw [HRL.out]; exact (chg_set Pr.name HRM.out HSP.out).symm
        have hii : i < n := by rw [HN.out]; exact spot_len Pr.name HSP.out
        have HE := toHid hE
        have HR := toHid hR
        clear hE hR
        obtain ⟨g, cap', hv, _, hgl⟩ := HROW.out.form (by omega)
        injection hv with hv1 hv2 hv3
        subst hv1
        have hgb : g ≠ pb := HNE.out g rfl
        have hin : (i : Int) < (n : Int) := by omega
        obtain ⟨cur, hcur, hcsz⟩ : ∃ cur, wc.heap[g]? = some (.cells cur 102 (0, 0)) ∧ n * 5 ≤ cur.size := by
          rcases HROW.out.2 with ⟨h0, _⟩ | ⟨g', cp, cur, h0, _, h2, h3, _, h5, _⟩
          · cases h0
          · injection h0 with e1 _ e3
            injection e1 with e1
            injection e1 with e1
            subst e1
            exact ⟨cur, h2, by rw [h5]; omega⟩
        have HXB : Hid (∀ W' : World, W'.heap[w.heap.size]? = wc.heap[w.heap.size]? → W'.cell? ⟨w.heap.size, 0, none⟩ = some (.string x.name) ∧ W'.cell? ⟨w.heap.size, 1, none⟩ = some (.int .i64 x.k) ∧ W'.cell? ⟨w.heap.size, 2, none⟩ = some (.int .i64 x.n) ∧ W'.cell? ⟨w.heap.size, 3, none⟩ = some (.string x.s) ∧ W'.cell? ⟨w.heap.size, 4, none⟩ = some (.slice x.a x.l x.c)) := fun W' e => by
          obtain ⟨x0, x1, x2, x3, x4⟩ := HX.out wc HKC.out
          exact ⟨(cell_same e 0).trans x0, (cell_same e 1).trans x1, (cell_same e 2).trans x2, (cell_same e 3).trans x3, (cell_same e 4).trans x4⟩
        obtain ⟨x0, x1, x2, x3, x4⟩ := HXB.out wc rfl
        obtain ⟨o0, ho0⟩ : ∃ o, cur[i * 5]? = some o := ⟨cur[i * 5]'(by omega), Array.getElem?_eq_getElem (by omega)⟩
        obtain ⟨o1, ho1⟩ : ∃ o, cur[i * 5 + 1]? = some o := ⟨cur[i * 5 + 1]'(by omega), Array.getElem?_eq_getElem (by omega)⟩
        obtain ⟨o2, ho2⟩ : ∃ o, cur[i * 5 + 2]? = some o := ⟨cur[i * 5 + 2]'(by omega), Array.getElem?_eq_getElem (by omega)⟩
        obtain ⟨o3, ho3⟩ : ∃ o, cur[i * 5 + 3]? = some o := ⟨cur[i * 5 + 3]'(by omega), Array.getElem?_eq_getElem (by omega)⟩
        obtain ⟨o4, ho4⟩ : ∃ o, cur[i * 5 + 4]? = some o := ⟨cur[i * 5 + 4]'(by omega), Array.getElem?_eq_getElem (by omega)⟩
        have p0 : wc.cell? ⟨g, i * 5, none⟩ = some o0 := (cell_of (w := wc) hcur _).trans ho0
        have p1 : wc.cell? ⟨g, i * 5 + 1, none⟩ = some o1 := (cell_of (w := wc) hcur _).trans ho1
        have p2 : wc.cell? ⟨g, i * 5 + 2, none⟩ = some o2 := (cell_of (w := wc) hcur _).trans ho2
        have p3 : wc.cell? ⟨g, i * 5 + 3, none⟩ = some o3 := (cell_of (w := wc) hcur _).trans ho3
        have p4 : wc.cell? ⟨g, i * 5 + 4, none⟩ = some o4 := (cell_of (w := wc) hcur _).trans ho4
        have f0 : wc.frozen? ⟨g, i * 5, none⟩ = false := free_of (w := wc) hcur _
        have f1 : wc.frozen? ⟨g, i * 5 + 1, none⟩ = false := free_of (w := wc) hcur _
        have f2 : wc.frozen? ⟨g, i * 5 + 2, none⟩ = false := free_of (w := wc) hcur _
        have f3 : wc.frozen? ⟨g, i * 5 + 3, none⟩ = false := free_of (w := wc) hcur _
        have f4 : wc.frozen? ⟨g, i * 5 + 4, none⟩ = false := free_of (w := wc) hcur _
        have e0 : wc.drew.cell? ⟨pb, po, none⟩ = some (.slice (some ⟨g, 0, none⟩) n cap) := d0
        have hgw : g < w.heap.size := HLW.out g rfl
        have hqg : w.heap.size ≠ g := by omega
        have HCUR := toHid hcur
        clear hcur ho0 ho1 ho2 ho3 ho4
        have hi0 : (0 : Int) ≤ (i : Int) := by omega
        have HII := toHid hii
        clear hcsz hil hii hwc hl hv2 hv3 hgl HX HKC HLW HSP HRM HRI
        go_upto_region 3 with fail
        go_region
        all_goals
          go_wp2_with fail
          go_ret
          have hY : (((((wc.setCell ⟨g, i * 5, none⟩ (.string x.name)).setCell ⟨g, i * 5 + 1, none⟩ (.int .i64 x.k)).setCell ⟨g, i * 5 + 2, none⟩ (.int .i64 x.n)).setCell ⟨g, i * 5 + 3, none⟩ (.string x.s)).setCell ⟨g, i * 5 + 4, none⟩ (.slice x.a x.l x.c)) = putL wc g (i * 5) x.cells := rfl
          rw [hY]
          have hoth : ∀ j, j ≠ g → (putL wc g (i * 5) x.cells).drew.heap[j]? = wc.heap[j]? := fun j hj => putL_other g x.cells (i * 5) wc j hj
          have hbel := putL_bel g x.cells (i * 5) wc
          refine ⟨by rw [HE.out]; rfl, ?_, fun _ => ⟨.slice (some ⟨g, 0, none⟩) n cap, ?_, ?_, fun g hg => .inl hg⟩⟩
          · have r1 : Rest (fun j => j = pb ∨ (Value.slice (some ⟨g, 0, none⟩) n cap).ownBlock = some j) w wc := Rest.of_below HK0.out
            exact ⟨hbel.os.trans r1.os, hbel.tape.trans r1.tape, hbel.output.trans r1.output, Nat.le_trans r1.size hbel.size, fun j hj hn => (hoth j (fun e => hn (.inr (by rw [e]; rfl)))).trans (r1.block j hj hn)⟩
          · rw [set_same HPO.out]
            exact (hoth pb (fun e => hgb e.symm)).trans HPC.out
          · rw [HR.out, List.length_set]
            have hrow := HROW.out
            rw [HN.out] at hrow ⊢
            exact own_drew (own_set Pr.cells 5 (fun _ => rfl) L i x (by have h1 := HN.out; have h2 := HII.out; omega) hrow (fun cu hcu => putL_here x.cells (i * 5) wc cu hcu))

theorem infoI0 : (Tryz.prog.info? 3).map (fun i => (i.zero, i.size, i.bytes)) = some (some (.int .i64 0), 1, 8) := by kernel_rfl
theorem infoI : ∃ i, Tryz.prog.info? 3 = some i ∧ i.zero = some (.int .i64 0) ∧ i.size = 1 ∧ i.bytes = 8 := by
  have h := infoI0
  cases hi : Tryz.prog.info? 3 with
  | none => rw [hi] at h; cases h
  | some i => rw [hi] at h; simp at h; exact ⟨i, rfl, h.1, h.2.1, h.2.2⟩

theorem full_any (b : Nat) (nv ev mv : Value) (nx : Int) (w : World) (hb : w.heap[b]? = some (.cells #[nv, ev, .int .i64 nx, mv] 95 (0, 0))) :
    Calls Tryz.prog 117 #[.pointer (some ⟨b, 0, none⟩)] w fun e w' => e = .returned (.bool (decide (1099511627776 ≤ nx))) ∧ w' = w := by
  have x2 := cell_of hb 2
  simp at x2
  go_enter Tryz.func117, Tryz.ntmps117
  go_wp2_with fail
  go_ret
  exact ⟨rfl, rfl⟩

/-- What a number means: itself, or, below 0, what was made. -/
def meantI (made : List Int) (id : Int) : Int := if 0 ≤ id then id else (made[(-1 - id).toNat]?).getD 0

theorem meant_pos (b : Nat) (made : List Int) (id : Int) (w : World) (hid : 0 ≤ id) :
    Calls Tryz.prog 78 #[.pointer (some ⟨b, 0, none⟩), .int .i64 id] w fun e w' => e = .returned (.int .i64 (meantI made id)) ∧ w' = w := by
  have hm : meantI made id = id := by rw [meantI, if_pos hid]
  rw [hm]
  clear hm
  go_enter Tryz.func78, Tryz.ntmps78
  go_wp2_with fail
  go_ret
  exact ⟨rfl, rfl⟩

theorem meant_neg (b : Nat) (nv ev : Value) (nx : Int) (ma : Option Addr) (mc : Nat) (made : List Int) (id : Int) (w : World) (hb : w.heap[b]? = some (.cells #[nv, ev, .int .i64 nx, .slice ma made.length mc] 95 (0, 0))) (hr : w.ownsRow 0 3 1 (.slice ma made.length mc) made.length (ints made)) (hid : id < 0) (hid2 : -9223372036854775808 ≤ id) (hml : made.length ≤ 1000) :
    Calls Tryz.prog 78 #[.pointer (some ⟨b, 0, none⟩), .int .i64 id] w fun e w' => e = .returned (.int .i64 (meantI made id)) ∧ w' = w := by
  obtain ⟨i, hi⟩ : ∃ i : Nat, -1 - id = i := ⟨(-1 - id).toNat, by omega⟩
  have x3 := cell_of hb 3
  simp at x3
  obtain ⟨ml, hml2⟩ : ∃ z, z = made.length := ⟨_, rfl⟩
  rw [← hml2] at x3
  have hw : IntKind.i64.wrap (-1 - id) = (i : Int) := by rw [hi, IntKind.wrap_i64]; omega
  have hng : decide (id ≥ 0) = false := by simp; omega
  by_cases hlt : i < ml
  · obtain ⟨z, hz⟩ : ∃ z, made[i]? = some z := ⟨made[i], List.getElem?_eq_getElem (by omega)⟩
    have hm : meantI made id = z := by
      rw [meantI, if_neg (by omega), hi, Int.toNat_natCast, hz]; rfl
    rw [hm]
    obtain ⟨g, ha, _, _, hg, hc⟩ := row_at hr (by omega)
    have c := hc i (.int .i64 z) (by rw [ints, List.getElem?_map, hz]; rfl)
    rw [Nat.zero_add] at c
    subst ha
    have hil : (i : Int) < ml := by omega
    have HH := toHid hml2
    clear hml2 hm hr hc hb hz hi
    go_enter Tryz.func78, Tryz.ntmps78
    go_wp2_with fail
    go_ret
    exact ⟨rfl, rfl⟩
  · have hm : meantI made id = 0 := by
      rw [meantI, if_neg (by omega), hi, Int.toNat_natCast, List.getElem?_eq_none (by omega)]; rfl
    rw [hm]
    have hil : ¬ ((i : Int) < ml) := by omega
    have HH := toHid hml2
    clear hml2 hm hr hb hi
    go_enter Tryz.func78, Tryz.ntmps78
    go_wp2_with fail
    go_ret
    exact ⟨rfl, rfl⟩

/-- The answer of node: nobody, or where it lies. -/
def WNodeEnd (N : List Nd) (na : Option Addr) (t : Int) (e : Ending) : Prop :=
  (hasN N t = false ∧ e = .returned (.pointer none)) ∨ (hasN N t = true ∧ ∃ (i g o : Nat) (x : Nd), na = some ⟨g, o, none⟩ ∧ e = .returned (.pointer (some ⟨g, o + i * 3, none⟩)) ∧ N[i]? = some x ∧ x.id = t)

set_option maxHeartbeats 2000000 in
theorem wnode_any (N : List Nd) (b : Nat) (na : Option Addr) (nl nc : Nat) (ev mv : Value) (nx t : Int) (w : World) (hb : w.heap[b]? = some (.cells #[.slice na nl nc, ev, .int .i64 nx, mv] 95 (0, 0))) (h : NodesAt w N na nl) (h60 : nl ≤ 60) (hr : Rise (N.map Nd.id)) :
    Calls Tryz.prog 119 #[.pointer (some ⟨b, 0, none⟩), .int .i64 t] w fun e w' => WNodeEnd N na t e ∧ Below w.heap.size w w' := by
  have x0 := cell_of hb 0
  simp at x0
  have hbl : b < w.heap.size := (Array.getElem?_eq_some_iff.1 hb).1
  have HF := toHid (node_find N na nl nc t w h h60 hr)
  have HA := toHid h
  clear h hr
  go_enter Tryz.func119, Tryz.ntmps119
  go_wp2_with fail
  refine HF.out.mono ?_
  rintro e w' ⟨⟨i, f, rfl, hy, hn⟩, k⟩
  have x0' := (k.cell (p := ⟨b, 0, none⟩) hbl).trans x0
  cases f
  · have hn' := hn rfl
    have hf : hasN N t = false := by simp [hasN]; simpa using hn'
    have HFF := toHid hf
    clear hy hn hn' hf
    go_wp2_with fail
    go_ret
    exact ⟨.inl ⟨HFF.out, rfl⟩, k⟩
  · have hy' := hy rfl
    have ht : hasN N t = true := by simp only [hasN, decide_eq_true_eq]; exact List.mem_of_getElem? hy'
    rw [List.getElem?_map] at hy'
    cases hx : N[i]? with
    | none => rw [hx] at hy'; cases hy'
    | some x =>
      rw [hx] at hy'
      have hid : x.id = t := by injection hy'
      have hil : i < nl := by rw [HA.out.1]; exact (List.getElem?_eq_some_iff.1 hx).1
      obtain ⟨g, o, rfl, _, _⟩ := HA.out.2.2 (by omega)
      have HX := toHid (show hasN N t = true ∧ N[i]? = some x ∧ x.id = t from ⟨ht, hx, hid⟩)
      have hil2 : (i : Int) < nl := by omega
      clear hy hn hy' ht hx hid
      go_wp2_with fail
      go_ret
      exact ⟨.inr ⟨HX.out.1, i, g, o, x, rfl, by simp, HX.out.2⟩, k⟩

def WS.numbered (S : WS) : WS := ⟨S.N, S.E, S.next + 1, S.made ++ [S.next]⟩

set_option maxHeartbeats 4000000 in
set_option maxRecDepth 100000 in
theorem number_any (O : Nat → Prop) (b : Nat) (S : WS) (w : World) (h : WorkIn O w b S) (hm : S.made.length ≤ 1000) (hn0 : 0 ≤ S.next) (hn : S.next ≤ 4611686018427387904) :
    Calls Tryz.prog 118 #[.pointer (some ⟨b, 0, none⟩)] w fun e w' => e = .returned (.int .i64 S.next) ∧ StepEnd O w w' b S.numbered := by
  obtain ⟨na, nc, ea, ec, ma, mc, PN, PE, PM, hw⟩ := h
  have HW := toHid hw
  have hlb := hw.lt b hw.ob
  obtain ⟨nx, hnx⟩ : ∃ z, z = S.next := ⟨_, rfl⟩
  obtain ⟨ml, hml⟩ : ∃ z, z = S.made.length := ⟨_, rfl⟩
  have hblk := hw.blk
  rw [← hnx, ← hml] at hblk
  rw [← hnx] at hn hn0
  rw [← hml] at hm
  have hmr := hw.mr
  rw [← hml] at hmr
  have HNX := toHid hnx
  have HML := toHid hml
  rw [← hnx]
  clear hw hnx hml
  obtain ⟨X, hX⟩ : ∃ X, X = w.setCell ⟨b, 2, none⟩ (.int .i64 (nx + 1)) := ⟨_, rfl⟩
  have hXb : X.heap[b]? = some (.cells #[.slice na S.N.length nc, .slice ea S.E.length ec, .int .i64 (nx + 1), .slice ma ml mc] 95 (0, 0)) := by rw [hX, set_here hblk]; rfl
  have hXo : ∀ j, j ≠ b → X.heap[j]? = w.heap[j]? := fun j hj => by rw [hX]; exact Below.heap_setCell w ⟨b, 2, none⟩ _ j hj
  have hXs : X.heap.size = w.heap.size := by rw [hX]; simp [World.setCell]
  have hXf : X.os = w.os ∧ X.tape = w.tape ∧ X.output = w.output := by rw [hX]; exact ⟨rfl, rfl, rfl⟩
  have hXe : w.setCell ⟨b, 2, none⟩ (.int .i64 (nx + 1)) = X := hX.symm
  have x2 := cell_of hblk 2
  have f2 := free_of hblk 2
  have y3 := cell_of hXb 3
  simp at x2 y3
  have hgb : ∀ g, (Value.slice ma ml mc).ownBlock = some g → g ≠ b := fun g hg => by
    have := HW.out.ms g (by rw [← HML.out]; exact hg)
    exact (HW.out.pm g this).2.1
  have hown : X.ownsRow 0 3 1 (.slice ma ml mc) ml (ints S.made) := row_keep hmr fun g hg _ => hXo g (hgb g hg)
  have HOWN := toHid hown
  have HXB := toHid hXb
  have HXO := toHid hXo
  have HXS := toHid hXs
  have HXF := toHid hXf
  have HGB := toHid hgb
  have HBK := toHid hblk
  clear hX hXb hXo hXs hXf hgb hmr hown hblk
  obtain ⟨i0, hi0, hiz, his, hib⟩ := infoI
  have HI0 := toHid hi0
  have HIZ := toHid hiz
  have HIS := toHid his
  have HIB := toHid hib
  clear hi0 hiz his hib
  have HBy : (ml + 1) * 8 ≤ 140737488355328 := by omega
  have HBm : ml + 1 ≤ maxLen := by unfold maxLen; omega
  go_enter Tryz.func118, Tryz.ntmps118
  go_wp2_with (at_builtin; refine wpList_append_lies _ rfl _ _ 38 rfl 0 3 i0 _ 1 8 Tryz.underlying38 HI0.out HIZ.out HIS.out HIB.out rfl (by omega) (.slice ma ml mc) ml (ints S.made) rfl (HOWN.out.alloc _) ⟨X.heap.size, 0, none⟩ 1 1 [.int .i64 nx] rfl rfl (World.news_of_block (cs := #[.int .i64 nx]) (t := 3) (fr := (0, 0)) (alloc_new X _)) (by simp [Value.oneCell']) (by omega) HBm HBy (Nat.zero_le _) (X.heap.size + 1) (by simp) ?_)
  intro gg cap w5 hown5 hgrow hat5 hlt5
  have hb5 : w5.heap[b]? = some (.cells #[.slice na S.N.length nc, .slice ea S.E.length ec, .int .i64 (nx + 1), .slice ma ml mc] 95 (0, 0)) := by
    rw [hgrow.block b (by simp; rw [HXS.out]; omega) (fun e => HGB.out b e.symm rfl), Below.heap_alloc X _ b (by rw [HXS.out]; omega)]
    exact HXB.out
  have hs5 : w.heap.size + 1 ≤ w5.heap.size := by have := hgrow.size; simp at this; rw [HXS.out] at this; exact this
  have ho5 : ∀ j, j < w.heap.size → j ≠ b → (Value.slice ma ml mc).ownBlock ≠ some j → w5.heap[j]? = w.heap[j]? := fun j hj hjb hjo => by
    rw [hgrow.block j (by simp; rw [HXS.out]; omega) (fun e => hjo e.symm), Below.heap_alloc X _ j (by rw [HXS.out]; omega)]
    exact HXO.out j hjb
  have hf5 : w5.os = w.os ∧ w5.tape = w.tape ∧ w5.output = w.output := ⟨hgrow.os.trans HXF.out.1, hgrow.tape.trans HXF.out.2.1, hgrow.output.trans HXF.out.2.2⟩
  have d3 := cell_of hb5 3
  have g3 := free_of hb5 3
  simp at d3
  have hgg : (gg = w.heap.size + 1) ∨ (Value.slice ma ml mc).ownBlock = some gg := by
    rcases hat5 with h | h
    · exact .inr h
    · exact .inl (by rw [h, HXS.out])
  have hlb5 : b < w5.heap.size := by omega
  have HB5 := toHid hb5
  have HS5 := toHid hs5
  have HO5 := toHid ho5
  have HF5 := toHid hf5
  have HGG := toHid hgg
  have HOWN5 := toHid hown5
  have HLT5 := toHid hlt5
  clear hb5 hs5 ho5 hf5 hgg hown5 hgrow hat5 hlt5 x2 f2 y3 hXe
  go_wp2_with fail
  go_ret
  refine ⟨rfl, ?_⟩
  obtain ⟨Y, hY⟩ : ∃ Y, Y = w5.setCell ⟨b, 3, none⟩ (.slice (some ⟨gg, 0, none⟩) (ml + 1) cap) := ⟨_, rfl⟩
  rw [← hY]
  have hYb : Y.heap[b]? = some (.cells #[.slice na S.N.length nc, .slice ea S.E.length ec, .int .i64 (nx + 1), .slice (some ⟨gg, 0, none⟩) (ml + 1) cap] 95 (0, 0)) := by rw [hY, set_here HB5.out]; rfl
  have hYo : ∀ j, j ≠ b → Y.heap[j]? = w5.heap[j]? := fun j hj => by rw [hY]; exact Below.heap_setCell w5 ⟨b, 3, none⟩ _ j hj
  have hYs : Y.heap.size = w5.heap.size := by rw [hY]; simp [World.setCell]
  have hYf : Y.os = w5.os ∧ Y.tape = w5.tape ∧ Y.output = w5.output := by rw [hY]; exact ⟨rfl, rfl, rfl⟩
  have W := HW.out
  have S5 := HS5.out
  have ggO : (Now O w Y gg) ∧ gg ≠ b ∧ ¬ PN gg ∧ ¬ PE gg := by
    rcases HGG.out with h | h
    · refine ⟨.inr ⟨by omega, by rw [hYs]; exact HLT5.out⟩, by omega, fun q => ?_, fun q => ?_⟩
      · have := W.lt gg (W.pn gg q).1; omega
      · have := W.lt gg (W.pe gg q).1; omega
    · have := W.pm gg (W.ms gg (by rw [← HML.out]; exact h))
      exact ⟨.inl this.1, this.2⟩
  have nO : ∀ j, ¬ O j → (Value.slice ma ml mc).ownBlock ≠ some j := fun j hj e => hj (W.pm j (W.ms j (by rw [← HML.out]; exact e))).1
  have nN : ∀ j, PN j → (Value.slice ma ml mc).ownBlock ≠ some j := fun j hj e => (W.pm j (W.ms j (by rw [← HML.out]; exact e))).2.2.1 hj
  have nE : ∀ j, PE j → (Value.slice ma ml mc).ownBlock ≠ some j := fun j hj e => (W.pm j (W.ms j (by rw [← HML.out]; exact e))).2.2.2 hj
  refine ⟨⟨na, nc, ea, ec, some ⟨gg, 0, none⟩, cap, PN, PE, (fun i => i = gg), ?_, .inl W.ob, ?_, fun i hi => ⟨.inl (W.pn i hi).1, (W.pn i hi).2⟩, fun i hi => ⟨.inl (W.pe i hi).1, (W.pe i hi).2⟩, fun i hi => by subst hi; exact ggO, ?_, ?_, ?_, ?_⟩, ?_⟩
  · rw [hYb]
    simp [WS.numbered, HNX.out, HML.out]
  · intro i hi
    rcases hi with hi | hi
    · have := W.lt i hi; omega
    · exact hi.2
  · exact W.ns.kept ⟨by omega, fun i hi hl => ⟨hi, (hYo i (W.pn i hi).2).trans (HO5.out i hl (W.pn i hi).2 (nN i hi))⟩⟩
  · exact W.es.kept ⟨by omega, fun i hi hl => ⟨hi, (hYo i (W.pe i hi).2.1).trans (HO5.out i hl (W.pe i hi).2.1 (nE i hi))⟩⟩
  · intro g hg
    have : gg = g := by simpa [Value.ownBlock] using hg
    exact this.symm
  · have e1 : (S.numbered).made.length = ml + 1 := by simp [WS.numbered, HML.out]
    have e2 : ints (S.numbered).made = ints S.made ++ [.int .i64 nx] := by simp [ints, WS.numbered, HNX.out]
    rw [e1, e2]
    refine row_keep HOWN5.out fun g hg _ => ?_
    have : gg = g := by simpa [Value.ownBlock] using hg
    subst this
    exact hYo gg ggO.2.1
  · exact ⟨hYf.1.trans HF5.out.1, hYf.2.1.trans HF5.out.2.1, hYf.2.2.trans HF5.out.2.2, by omega, fun i hi hn => (hYo i (fun e => hn (e ▸ W.ob))).trans (HO5.out i hi (fun e => hn (e ▸ W.ob)) (nO i hn))⟩
end Go.Proofs.YtebbjmjgojekdaaGreatDoor
