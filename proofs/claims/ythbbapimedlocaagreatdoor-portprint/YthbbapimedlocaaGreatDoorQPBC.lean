/-
  What is proved here: what the texts GRefG, GLawCheck, GLabelled, GFacts prove, in one text.
-/
import Derived.Test.YthbbapimedlocaaGreatDoorQPBB
import Derived.Test.YthbbapimedlocaaGreatDoorQPAJ
import Derived.Test.YthbbapimedlocaaGreatDoorQPBA
namespace Go.Proofs.YthbbapimedlocaaGreatDoor
open Go.RowKit
set_option linter.unusedVariables false

/-- NodeAt's answer against nil. -/
def NilEnd (has : Bool) (e : Ending) : Prop := (has = false ∧ e = .returned (.pointer none)) ∨ (has = true ∧ ∃ q : Addr, e = .returned (.pointer (some q)))

theorem nodeAt_nil (N : List Nd) (na : Option Addr) (nl nc : Nat) (ea : Option Addr) (el ec : Nat) (next id : Int) (w : World) (h : NodesAt w N na nl) :
    Calls Tryz.prog 18 #[.agg #[.slice na nl nc, .slice ea el ec, .int .i64 next], .int .i64 id] w fun e w' => NilEnd (hasN N id) e ∧ Below w.heap.size w w' := by
  refine (nodeAt_any N na nl nc ea el ec next id w h).mono ?_
  rintro e w' ⟨h1, k⟩
  refine ⟨?_, k⟩
  rcases h1 with ⟨h1, rfl⟩ | ⟨i, x, b, off, _, h2, h3, rfl⟩
  · exact .inl ⟨decide_eq_false h1, rfl⟩
  · exact .inr ⟨decide_eq_true (List.mem_map.2 ⟨x, List.mem_of_getElem? h2, h3⟩), _, rfl⟩

theorem drew_then {W w' : World} {n : Nat} (k : Below (W.drewN n).heap.size (W.drewN n) w') : Below W.heap.size W w' := (below_drewN W n).trans (k.mono (by simp))

set_option maxHeartbeats 8000000 in
set_option maxRecDepth 100000 in
theorem ref_graph (N : List Nd) (E : List Ed) (na : Option Addr) (nl nc : Nat) (ea : Option Addr) (el ec : Nat) (next : Int) (w : World) (hNA : NodesAt w N na nl) (hEA : EdgesAt w E ea el)
    (hN : ∀ x ∈ N, ∀ w', Below w.heap.size w w' → (Calls Tryz.prog 16 #[.slice x.la x.ll x.lc] w' fun e w'' => e = .returned (.int .i64 (labsE x.labs)) ∧ Below w'.heap.size w' w'') ∧ (Calls Tryz.prog 17 #[.slice x.pa x.pl x.pc] w' fun e w'' => e = .returned (.int .i64 (prsE x.props)) ∧ Below w'.heap.size w' w''))
    (hE : ∀ x ∈ E, ∀ w', Below w.heap.size w w' → Calls Tryz.prog 17 #[.slice x.pa x.pl x.pc] w' fun e w'' => e = .returned (.int .i64 (prsE x.props)) ∧ Below w'.heap.size w' w'') :
    Calls Tryz.prog 7 #[.agg #[.slice na nl nc, .slice ea el ec, .int .i64 next]] w fun e w' => e = .returned (.int .i64 (gE N E next)) ∧ Below w.heap.size w w' := by
  obtain ⟨R, hR⟩ : ∃ R, R = gE N E next := ⟨_, rfl⟩
  rw [← hR]
  have HR := toHid hR
  have HNA := toHid hNA
  have HEA := toHid hEA
  have hn63 := hNA.2.1
  have he63 := hEA.2.1
  have HNL := toHid hNA.1
  have HEL := toHid hEA.1
  have HCN := toHid hN
  have HCE := toHid hE
  have HAN : Hid (∀ id W, Below w.heap.size w W → Calls Tryz.prog 18 #[.agg #[.slice na nl nc, .slice ea el ec, .int .i64 next], .int .i64 id] W fun e w' => NilEnd (hasN N id) e ∧ Below W.heap.size W w') := fun id W k => nodeAt_nil N na nl nc ea el ec next id W (hNA.below k)
  clear hR hN hE hNA hEA
  by_cases hbig : 40 < nl ∨ 60 < el
  · have H3 := toHid (show R = 2 by rw [HR.out, gE, if_pos (by have := HNL.out; have := HEL.out; omega)])
    clear HR
    by_cases h4 : 40 < nl
    · have h4' : (40 : Int) < nl := by omega
      clear hbig h4
      go_enter Tryz.func7, Tryz.ntmps7
      go_wp2_with fail
      go_ret
      exact ⟨ret_int (by rw [H3.out]), (Below.refl _ _).alloc (Nat.le_refl _) _⟩
    · have h4' : ¬ (40 : Int) < nl := by omega
      have h6' : (60 : Int) < el := by omega
      clear hbig h4
      go_enter Tryz.func7, Tryz.ntmps7
      go_wp2_with fail
      go_ret
      exact ⟨ret_int (by rw [H3.out]), (Below.refl _ _).alloc (Nat.le_refl _) _⟩
  · have h4' : ¬ (40 : Int) < nl := by omega
    have h6' : ¬ (60 : Int) < el := by omega
    have h40 : nl ≤ 40 := by omega
    have h60 : el ≤ 60 := by omega
    have HR1 := toHid (show R = if ndE 0 N = 0 then (if edE N 0 E = 0 then (if next ≤ lastI 0 (N.map Nd.id) ∨ next ≤ lastI 0 (E.map Ed.id) ∨ 1099511627776 < next then 9 else 0) else edE N 0 E) else ndE 0 N by rw [HR.out, gE, if_neg (by have := HNL.out; have := HEL.out; omega)])
    clear HR hbig
    have b0 : Below w.heap.size w (w.alloc (.cells #[.slice na nl nc, .slice ea el ec, .int .i64 next] 25)) := (Below.refl _ _).alloc (Nat.le_refl _) _
    have z0 : (w.alloc (.cells #[.slice na nl nc, .slice ea el ec, .int .i64 next] 25)).heap.size = w.heap.size + 1 := by simp
    have hx := alloc_new w (.cells #[.slice na nl nc, .slice ea el ec, .int .i64 next] 25)
    have HY : Hid (∀ W, Below (w.heap.size + 1) (w.alloc (.cells #[.slice na nl nc, .slice ea el ec, .int .i64 next] 25)) W → W.cell? ⟨w.heap.size, 0, none⟩ = some (.slice na nl nc) ∧ W.cell? ⟨w.heap.size, 1, none⟩ = some (.slice ea el ec) ∧ W.cell? ⟨w.heap.size, 2, none⟩ = some (.int .i64 next)) := by
      intro W k
      have q : ∀ o, W.cell? ⟨w.heap.size, o, none⟩ = _ := fun o => (k.cell (p := ⟨w.heap.size, o, none⟩) (Nat.lt_succ_self _)).trans (cell_of hx o)
      exact ⟨q 0, q 1, q 2⟩
    have B0 := toHid b0
    have Z0 := toHid z0
    clear hx b0 z0
    go_enter Tryz.func7, Tryz.ntmps7
    go_wp2_with fail
    go_loopg [3, 4, 25] nl (fun g s3 s4 s25 wr => ∃ (i : Nat) (ah : Int), i ≤ nl ∧ nl - i ≤ g ∧ s3 = .int .i64 ah ∧ s4 = .int .i64 ah ∧ s25 = .int .i64 i ∧ 0 ≤ ah ∧ Below (w.heap.size + 1) (w.alloc (.cells #[.slice na nl nc, .slice ea el ec, .int .i64 next] 25)) wr ∧ ndE 0 N = ndE ah (N.drop i) ∧ lastI 0 (N.map Nd.id) = lastI ah ((N.map Nd.id).drop i))
    case atStart => exact ⟨0, 0, Nat.zero_le _, by omega, rfl, rfl, rfl, Int.le_refl _, Below.refl _ _, rfl, rfl⟩
    case round =>
      obtain ⟨i, ah, hi, hg, rfl, rfl, rfl, hah, hbw, hfe, hla⟩ := hrel
      have HF := toHid hfe
      have HLA := toHid hla
      have HAH := toHid hah
      clear hfe hla hah
      have hz : w.heap.size + 1 ≤ wr.heap.size := by have := hbw.size; rw [Z0.out] at this; exact this
      have hw0 : Below w.heap.size w wr := B0.out.trans (hbw.mono (by omega))
      by_cases hlt : i < nl
      · obtain ⟨b, off, ha, hb, hc⟩ := HNA.out.2.2 (by omega)
        subst ha
        obtain ⟨x, hx, hd⟩ := drop_get (L := N) (i := i) (by have := HNL.out; omega)
        obtain ⟨c0, c1, c2⟩ := hc i x hx
        have q : ∀ o, wr.cell? ⟨b, o, none⟩ = w.cell? ⟨b, o, none⟩ := fun o => hw0.cell (p := ⟨b, o, none⟩) hb
        have d0 := (q _).trans c0
        have d1 := (q _).trans c1
        have d2 := (q _).trans c2
        have HD := toHid hd
        have HX := toHid (List.mem_of_getElem? hx)
        have HM := toHid (show (N.map Nd.id).drop i = x.id :: (N.map Nd.id).drop (i + 1) by rw [← List.map_drop, hd, List.map_cons, List.map_drop])
        have hq0 : Below (w.heap.size + 1) (w.alloc (.cells #[.slice (some ⟨b, off, none⟩) nl nc, .slice ea el ec, .int .i64 next] 25)) (wr.alloc (.cells #[.int .i64 x.id, .slice x.la x.ll x.lc, .slice x.pa x.pl x.pc] 49)) := hbw.alloc hz _
        have hq1 : Below w.heap.size w (wr.alloc (.cells #[.int .i64 x.id, .slice x.la x.ll x.lc, .slice x.pa x.pl x.pc] 49)) := hw0.alloc (by omega) _
        have HQ0 := toHid hq0
        have HQ1 := toHid hq1
        clear hc hd hx c0 c1 c2 q hq0 hq1
        by_cases hle : x.id ≤ ah
        · have H3 := toHid (show R = 6 by
            have h5 : ndE 0 N = 6 := by rw [HF.out, HD.out, ndE, if_neg (by rw [ndOne, if_pos hle]; decide), ndOne, if_pos hle]
            rw [HR1.out, h5, if_neg (by decide)])
          clear HR1 HF HD HLA
          go_wp2_with fail
          go_ret
          exact ⟨ret_int (by rw [H3.out]), HQ1.out⟩
        · have HLE := toHid hle
          go_wp2_with fail
          have y0 : (wr.alloc (.cells #[.int .i64 x.id, .slice x.la x.ll x.lc, .slice x.pa x.pl x.pc] 49)).cell? ⟨wr.heap.size, 0, none⟩ = some (.int .i64 x.id) := cell_of (alloc_new wr _) 0
          have y1 : (wr.alloc (.cells #[.int .i64 x.id, .slice x.la x.ll x.lc, .slice x.pa x.pl x.pc] 49)).cell? ⟨wr.heap.size, 1, none⟩ = some (.slice x.la x.ll x.lc) := cell_of (alloc_new wr _) 1
          have y2 : (wr.alloc (.cells #[.int .i64 x.id, .slice x.la x.ll x.lc, .slice x.pa x.pl x.pc] 49)).cell? ⟨wr.heap.size, 2, none⟩ = some (.slice x.pa x.pl x.pc) := cell_of (alloc_new wr _) 2
          have hzq : wr.heap.size < (wr.alloc (.cells #[.int .i64 x.id, .slice x.la x.ll x.lc, .slice x.pa x.pl x.pc] 49)).heap.size := by simp
          clear d0 d1 d2
          generalize wr.alloc (.cells #[.int .i64 x.id, .slice x.la x.ll x.lc, .slice x.pa x.pl x.pc] 49) = W1 at HQ0 HQ1 y0 y1 y2 hzq ⊢
          have HDR := toHid (fun nq => HQ1.out.trans ((below_drewN W1 nq).mono HQ1.out.size))
          go_quiet (fail)
          go_wp2_with fail
          refine ((HCN.out x HX.out _ (HDR.out _)).1).mono ?_
          rintro e w2 ⟨rfl, k2⟩
          have k2' : Below W1.heap.size W1 w2 := drew_then k2
          have HB2 := toHid (below3 HQ1.out HQ1.out.size k2')
          have HK2 := toHid (below3 HQ0.out (Nat.le_trans hz (by omega)) k2')
          have z1 := (k2'.cell (p := ⟨wr.heap.size, 1, none⟩) hzq).trans y1
          have z2 := (k2'.cell (p := ⟨wr.heap.size, 2, none⟩) hzq).trans y2
          clear k2 k2' y0 y1 y2 HQ0 HQ1 HDR
          by_cases he : labsE x.labs = 0
          · have he' : (labsE x.labs != 0) = false := by simp [he]
            have HE1 := toHid he
            clear he
            go_wp2_with fail
            refine ((HCN.out x HX.out _ HB2.out).2).mono ?_
            rintro e w3 ⟨rfl, k3⟩
            have HB3 := toHid (below3 HB2.out HB2.out.size k3)
            have HK3 := toHid (below3 HK2.out (Nat.le_of_lt_succ (Nat.lt_succ_of_le (by have := HK2.out.size; rw [Z0.out] at this; exact this))) k3)
            clear k3 z1 z2
            by_cases he2 : prsE x.props = 0
            · have he2' : (prsE x.props != 0) = false := by simp [he2]
              have HE2 := toHid he2
              clear he2
              go_wp2_with fail
              go_roundg (nl - (i + 1))
              case measure => omega
              case rel =>
                have h5 : ndOne ah x = 0 := by rw [ndOne, if_neg (by have := HLE.out; omega), if_pos HE1.out]; exact HE2.out
                refine ⟨i + 1, x.id, by omega, by omega, rfl, rfl, by go_num, ?_, HK3.out, by rw [HF.out, HD.out, ndE, if_pos h5], by rw [HLA.out, HM.out, lastI]⟩
                have := HLE.out
                have := HAH.out
                omega
            · have he2' : (prsE x.props != 0) = true := by simp [he2]
              have H3 := toHid (show R = prsE x.props by
                have h4 : ndOne ah x = prsE x.props := by rw [ndOne, if_neg (by have := HLE.out; omega), if_pos HE1.out]
                have h5 : ndE 0 N = prsE x.props := by rw [HF.out, HD.out, ndE, if_neg (by rw [h4]; exact he2), h4]
                rw [HR1.out, h5, if_neg he2])
              clear he2 HR1
              go_wp2_with fail
              go_ret
              exact ⟨ret_int (by rw [H3.out]), HB3.out⟩
          · have he' : (labsE x.labs != 0) = true := by simp [he]
            have H3 := toHid (show R = labsE x.labs by
              have h4 : ndOne ah x = labsE x.labs := by rw [ndOne, if_neg (by have := HLE.out; omega), if_neg he]
              have h5 : ndE 0 N = labsE x.labs := by rw [HF.out, HD.out, ndE, if_neg (by rw [h4]; exact he), h4]
              rw [HR1.out, h5, if_neg he])
            clear he HR1
            go_wp2_with fail
            go_ret
            exact ⟨ret_int (by rw [H3.out]), HB2.out⟩
      · have hN0 : ndE 0 N = 0 := by rw [HF.out, List.drop_eq_nil_of_le (by have := HNL.out; omega)]; rfl
        have HLN := toHid (show lastI 0 (N.map Nd.id) = ah by rw [HLA.out, List.drop_eq_nil_of_le (by have := HNL.out; simp; omega)]; rfl)
        have HR2 := toHid (show R = if edE N 0 E = 0 then (if next ≤ ah ∨ next ≤ lastI 0 (E.map Ed.id) ∨ 1099511627776 < next then 9 else 0) else edE N 0 E by rw [HR1.out, if_pos hN0, HLN.out])
        clear HR1 hN0 HF HLA HLN HCN
        obtain ⟨y0, y1, y2⟩ := HY.out wr hbw
        obtain ⟨W1, rfl⟩ : ∃ W1, W1 = wr := ⟨_, rfl⟩
        have HBW := toHid hbw
        have HW0 := toHid hw0
        have HZ := toHid hz
        clear hbw hw0 hz hi hg
        go_wp2_with fail
        go_loopg [3, 4, 53] el (fun g s3 s4 s53 wq => ∃ (i : Nat) (bh T : Int), i ≤ el ∧ el - i ≤ g ∧ s3 = .int .i64 T ∧ s4 = .int .i64 bh ∧ s53 = .int .i64 i ∧ (ah ≤ T ∧ bh ≤ T ∧ (T = ah ∨ T = bh)) ∧ Below (w.heap.size + 1) (w.alloc (.cells #[.slice na nl nc, .slice ea el ec, .int .i64 next] 25)) wq ∧ edE N 0 E = edE N bh (E.drop i) ∧ lastI 0 (E.map Ed.id) = lastI bh ((E.map Ed.id).drop i))
        case atStart => exact ⟨0, 0, ah, Nat.zero_le _, by omega, rfl, rfl, rfl, ⟨Int.le_refl _, HAH.out, .inl rfl⟩, HBW.out, rfl, rfl⟩
        case round =>
          clear y0 y1 y2 HBW HW0 HZ
          obtain ⟨i, bh, T, hi, hg, rfl, rfl, rfl, hT, hbw, hfe, hla⟩ := hrel
          have HF := toHid hfe
          have HLA := toHid hla
          have HTT := toHid hT
          clear hfe hla hT
          have hz : w.heap.size + 1 ≤ wr.heap.size := by have := hbw.size; rw [Z0.out] at this; exact this
          have hw0 : Below w.heap.size w wr := B0.out.trans (hbw.mono (by omega))
          by_cases hlt : i < el
          · obtain ⟨b, off, ha, hb, hc⟩ := HEA.out.2.2 (by omega)
            subst ha
            obtain ⟨x, hx, hd⟩ := drop_get (L := E) (i := i) (by have := HEL.out; omega)
            obtain ⟨ht, c0, c1, c2, c3, c4⟩ := hc i x hx
            have q : ∀ o, wr.cell? ⟨b, o, none⟩ = w.cell? ⟨b, o, none⟩ := fun o => hw0.cell (p := ⟨b, o, none⟩) hb
            have d0 := (q _).trans c0
            have d1 := (q _).trans c1
            have d2 := (q _).trans c2
            have d3 := (q _).trans c3
            have d4 := (q _).trans c4
            have HD := toHid hd
            have HX := toHid (List.mem_of_getElem? hx)
            have HM := toHid (show (E.map Ed.id).drop i = x.id :: (E.map Ed.id).drop (i + 1) by rw [← List.map_drop, hd, List.map_cons, List.map_drop])
            have HT := toHid ht
            have hq0 : Below (w.heap.size + 1) (w.alloc (.cells #[.slice na nl nc, .slice (some ⟨b, off, none⟩) el ec, .int .i64 next] 25)) (wr.alloc (.cells #[.int .i64 x.id, .int .i64 x.frm, .int .i64 x.dst, .string x.typ, .slice x.pa x.pl x.pc] 53)) := hbw.alloc hz _
            have hq1 : Below w.heap.size w (wr.alloc (.cells #[.int .i64 x.id, .int .i64 x.frm, .int .i64 x.dst, .string x.typ, .slice x.pa x.pl x.pc] 53)) := hw0.alloc (by omega) _
            have HQ0 := toHid hq0
            have HQ1 := toHid hq1
            have hxx := alloc_new wr (.cells #[.int .i64 x.id, .int .i64 x.frm, .int .i64 x.dst, .string x.typ, .slice x.pa x.pl x.pc] 53)
            have HP : Hid (∀ W, Below (wr.heap.size + 1) (wr.alloc (.cells #[.int .i64 x.id, .int .i64 x.frm, .int .i64 x.dst, .string x.typ, .slice x.pa x.pl x.pc] 53)) W → W.cell? ⟨wr.heap.size, 0, none⟩ = some (.int .i64 x.id) ∧ W.cell? ⟨wr.heap.size, 1, none⟩ = some (.int .i64 x.frm) ∧ W.cell? ⟨wr.heap.size, 2, none⟩ = some (.int .i64 x.dst) ∧ W.cell? ⟨wr.heap.size, 3, none⟩ = some (.string x.typ) ∧ W.cell? ⟨wr.heap.size, 4, none⟩ = some (.slice x.pa x.pl x.pc)) := by
              intro W k
              have q : ∀ o, W.cell? ⟨wr.heap.size, o, none⟩ = _ := fun o => (k.cell (p := ⟨wr.heap.size, o, none⟩) (Nat.lt_succ_self _)).trans (cell_of hxx o)
              exact ⟨q 0, q 1, q 2, q 3, q 4⟩
            have hzz : (wr.alloc (.cells #[.int .i64 x.id, .int .i64 x.frm, .int .i64 x.dst, .string x.typ, .slice x.pa x.pl x.pc] 53)).heap.size = wr.heap.size + 1 := by simp
            have HZZ := toHid hzz
            obtain ⟨y0, y1, y2⟩ := HY.out wr hbw
            have hzl : w.heap.size < wr.heap.size := by omega
            clear hc hd hx c0 c1 c2 c3 c4 q ht hq0 hq1 hxx hzz
            by_cases hle : x.id ≤ bh
            · have H3 := toHid (show R = 6 by
                have h4 : edOne N bh x = 6 := by rw [edOne, if_pos (.inl hle)]
                have h5 : edE N 0 E = 6 := by rw [HF.out, HD.out, edE, if_neg (by rw [h4]; decide), h4]
                rw [HR2.out, h5, if_neg (by decide)])
              clear HR2
              go_wp2_with fail
              go_ret
              exact ⟨ret_int (by rw [H3.out]), HQ1.out⟩
            · have HLE := toHid hle
              go_wp2_with fail
              refine (HAN.out x.id _ HQ1.out).mono ?_
              have KK0 := toHid (Below.refl (wr.heap.size + 1) (wr.alloc (.cells #[.int .i64 x.id, .int .i64 x.frm, .int .i64 x.dst, .string x.typ, .slice x.pa x.pl x.pc] 53)))
              generalize wr.alloc (.cells #[.int .i64 x.id, .int .i64 x.frm, .int .i64 x.dst, .string x.typ, .slice x.pa x.pl x.pc] 53) = W2 at HQ0 HQ1 HP HZZ KK0 ⊢
              rintro e w2 ⟨hnil, k2⟩
              have KK2 := toHid (below3 KK0.out (by rw [HZZ.out]; exact Nat.le_refl _) k2)
              have HB2 := toHid (below3 HQ1.out HQ1.out.size k2)
              have HK2 := toHid (below3 HQ0.out (by rw [HZZ.out]; omega) k2)
              have S2 : wr.heap.size + 1 ≤ w2.heap.size := by have := k2.size; rw [HZZ.out] at this; exact this
              clear d0 d1 d2 d3 d4 y0 y1 y2 k2 KK0
              obtain ⟨p0, p1, p2, p3, p4⟩ := HP.out w2 KK2.out
              obtain ⟨y0, y1, y2⟩ := HY.out w2 HK2.out
              rcases hnil with ⟨hh1, rfl⟩ | ⟨hh1, ad, rfl⟩
              · have HH1 := toHid hh1
                clear hh1
                go_wp2_with fail
                refine (isName_any x.typ _ HT.out).mono ?_
                rintro e w3 ⟨rfl, k3⟩
                have KK3 := toHid (below3 KK2.out S2 k3)
                have HB3 := toHid (below3 HB2.out HB2.out.size k3)
                have HK3 := toHid (below3 HK2.out (by omega) k3)
                have S3 : wr.heap.size + 1 ≤ w3.heap.size := Nat.le_trans S2 k3.size
                clear p0 p1 p2 p3 p4 y0 y1 y2 k3 KK2 HB2 HK2 S2
                obtain ⟨p0, p1, p2, p3, p4⟩ := HP.out w3 KK3.out
                obtain ⟨y0, y1, y2⟩ := HY.out w3 HK3.out
                cases hb2 : nm x.typ with
                | false =>
                  have H3 := toHid (show R = 6 by
                    have h4 : edOne N bh x = 6 := by rw [edOne, if_pos (.inr (.inr hb2))]
                    have h5 : edE N 0 E = 6 := by rw [HF.out, HD.out, edE, if_neg (by rw [h4]; decide), h4]
                    rw [HR2.out, h5, if_neg (by decide)])
                  clear HR2
                  go_wp2_with fail
                  go_ret
                  exact ⟨ret_int (by rw [H3.out]), HB3.out⟩
                | true =>
                  have HO := toHid (show edOne N bh x = if hasN N x.frm = false ∨ hasN N x.dst = false then 5 else prsE x.props by rw [edOne, if_neg (by rw [HH1.out, hb2]; simp; have := HLE.out; omega)])
                  go_wp2_with fail
                  go_region
                  have HT2 : Hid (∀ T', T' = max T x.id → ah ≤ T' ∧ x.id ≤ T' ∧ (T' = ah ∨ T' = x.id)) := by
                    intro T' hT'
                    have hT := HTT.out
                    have := HLE.out
                    omega
                  have HT3 := toHid (HT2.out (max T x.id) rfl)
                  have HB4 := toHid HB3.out.drew
                  have HK4 := toHid HK3.out.drew
                  have KK4 := toHid KK3.out.drew
                  have S4 : wr.heap.size + 1 ≤ w3.drew.heap.size := by simpa using S3
                  clear HT2 p0 p1 p2 p3 p4 y0 y1 y2 HB3 HK3 KK3 S3
                  generalize max T x.id = T' at HT3 ⊢
                  generalize w3.drew = w4 at HB4 HK4 KK4 S4 ⊢
                  obtain ⟨p0, p1, p2, p3, p4⟩ := HP.out w4 KK4.out
                  obtain ⟨y0, y1, y2⟩ := HY.out w4 HK4.out
                  go_wp2_with fail
                  refine (HAN.out x.frm _ HB4.out).mono ?_
                  rintro e w5 ⟨hnil, k5⟩
                  have KK5 := toHid (below3 KK4.out S4 k5)
                  have HB5 := toHid (below3 HB4.out HB4.out.size k5)
                  have HK5 := toHid (below3 HK4.out (by omega) k5)
                  have S5 : wr.heap.size + 1 ≤ w5.heap.size := Nat.le_trans S4 k5.size
                  clear p0 p1 p2 p3 p4 y0 y1 y2 k5 KK4 HB4 HK4 S4
                  obtain ⟨p0, p1, p2, p3, p4⟩ := HP.out w5 KK5.out
                  obtain ⟨y0, y1, y2⟩ := HY.out w5 HK5.out
                  rcases hnil with ⟨hh3, rfl⟩ | ⟨hh3, ad, rfl⟩
                  · have H3 := toHid (show R = 5 by
                      have h4 : edOne N bh x = 5 := by rw [HO.out, if_pos (.inl hh3)]
                      have h5 : edE N 0 E = 5 := by rw [HF.out, HD.out, edE, if_neg (by rw [h4]; decide), h4]
                      rw [HR2.out, h5, if_neg (by decide)])
                    clear HR2 hh3
                    go_wp2_with fail
                    go_ret
                    exact ⟨ret_int (by rw [H3.out]), HB5.out⟩
                  · have HH3 := toHid hh3
                    clear hh3
                    go_wp2_with fail
                    refine (HAN.out x.dst _ HB5.out).mono ?_
                    rintro e w6 ⟨hnil, k6⟩
                    have KK6 := toHid (below3 KK5.out S5 k6)
                    have HB6 := toHid (below3 HB5.out HB5.out.size k6)
                    have HK6 := toHid (below3 HK5.out (by omega) k6)
                    have S6 : wr.heap.size + 1 ≤ w6.heap.size := Nat.le_trans S5 k6.size
                    clear p0 p1 p2 p3 p4 y0 y1 y2 k6 KK5 HB5 HK5 S5
                    obtain ⟨p0, p1, p2, p3, p4⟩ := HP.out w6 KK6.out
                    obtain ⟨y0, y1, y2⟩ := HY.out w6 HK6.out
                    rcases hnil with ⟨hh4, rfl⟩ | ⟨hh4, ad2, rfl⟩
                    · have H3 := toHid (show R = 5 by
                        have h4 : edOne N bh x = 5 := by rw [HO.out, if_pos (.inr hh4)]
                        have h5 : edE N 0 E = 5 := by rw [HF.out, HD.out, edE, if_neg (by rw [h4]; decide), h4]
                        rw [HR2.out, h5, if_neg (by decide)])
                      clear HR2 hh4
                      go_wp2_with fail
                      go_ret
                      exact ⟨ret_int (by rw [H3.out]), HB6.out⟩
                    · have HO2 := toHid (show edOne N bh x = prsE x.props by rw [HO.out, if_neg (by rw [HH3.out, hh4]; simp)])
                      clear hh4
                      go_wp2_with fail
                      refine (HCE.out x HX.out _ HB6.out).mono ?_
                      rintro e w7 ⟨rfl, k7⟩
                      have HB7 := toHid (below3 HB6.out HB6.out.size k7)
                      have HK7 := toHid (below3 HK6.out (by omega) k7)
                      clear k7 p0 p1 p2 p3 p4 y0 y1 y2
                      by_cases he2 : prsE x.props = 0
                      · have he2' : (prsE x.props != 0) = false := by simp [he2]
                        have HE2 := toHid he2
                        clear he2
                        go_wp2_with fail
                        go_roundg (el - (i + 1))
                        case measure => omega
                        case rel =>
                          have h5 : edOne N bh x = 0 := by rw [HO2.out]; exact HE2.out
                          exact ⟨i + 1, x.id, T', by omega, by omega, rfl, rfl, by go_num, HT3.out, HK7.out, by rw [HF.out, HD.out, edE, if_pos h5], by rw [HLA.out, HM.out, lastI]⟩
                      · have he2' : (prsE x.props != 0) = true := by simp [he2]
                        have H3 := toHid (show R = prsE x.props by
                          have h5 : edE N 0 E = prsE x.props := by rw [HF.out, HD.out, edE, if_neg (by rw [HO2.out]; exact he2), HO2.out]
                          rw [HR2.out, h5, if_neg he2])
                        clear he2 HR2
                        go_wp2_with fail
                        go_ret
                        exact ⟨ret_int (by rw [H3.out]), HB7.out⟩
              · have H3 := toHid (show R = 6 by
                  have h4 : edOne N bh x = 6 := by rw [edOne, if_pos (.inr (.inl hh1))]
                  have h5 : edE N 0 E = 6 := by rw [HF.out, HD.out, edE, if_neg (by rw [h4]; decide), h4]
                  rw [HR2.out, h5, if_neg (by decide)])
                clear HR2 hh1
                go_wp2_with fail
                go_ret
                exact ⟨ret_int (by rw [H3.out]), HB2.out⟩
          · have hE0 : edE N 0 E = 0 := by rw [HF.out, List.drop_eq_nil_of_le (by have := HEL.out; omega)]; rfl
            have HLN := toHid (show lastI 0 (E.map Ed.id) = bh by rw [HLA.out, List.drop_eq_nil_of_le (by have := HEL.out; simp; omega)]; rfl)
            have HR3 := toHid (show R = if next ≤ ah ∨ next ≤ bh ∨ 1099511627776 < next then 9 else 0 by rw [HR2.out, if_pos hE0, HLN.out])
            clear HR2 hE0 HF HLA HLN
            obtain ⟨y0, y1, y2⟩ := HY.out wr hbw
            have hw1 := toHid hw0
            clear hw0 hbw
            go_wp2_with fail
            all_goals
              go_ret
              refine ⟨ret_int ?_, hw1.out⟩
              have hT := HTT.out
              rw [HR3.out]
              first
                | rw [if_pos (by omega)]
                | rw [if_neg (by omega)]

theorem check_ok {w : World} {N : List Nd} {E : List Ed} {na : Option Addr} {nl : Nat} {ea : Option Addr} {el : Nat} (h : GrOk w N E na nl ea el) (nc ec : Nat) (next : Int) (W : World) (k : Below w.heap.size w W) :
    Calls Tryz.prog 12 #[.agg #[.slice na nl nc, .slice ea el ec, .int .i64 next]] W fun e w' => e = .returned (.int .i64 (gE N E next)) ∧ Below W.heap.size W w' := by
  have h' := h.below k
  exact check_graph N E na nl nc ea el ec next W h'.1 h'.2.1 (fun x hx w' k' => ⟨labels_of name_any _ _ _ _ w' ((h'.2.2.1 x hx).1.below k'), props_ok x.pc (h'.2.2.1 x hx).2.1 (h'.2.2.1 x hx).2.2 w' k'⟩) (fun x hx w' k' => props_ok x.pc (h'.2.2.2 x hx).1 (h'.2.2.2 x hx).2 w' k')

theorem checkGraph_ok {w : World} {N : List Nd} {E : List Ed} {na : Option Addr} {nl : Nat} {ea : Option Addr} {el : Nat} (h : GrOk w N E na nl ea el) (nc ec : Nat) (next : Int) (W : World) (k : Below w.heap.size w W) :
    Calls Tryz.prog 7 #[.agg #[.slice na nl nc, .slice ea el ec, .int .i64 next]] W fun e w' => e = .returned (.int .i64 (gE N E next)) ∧ Below W.heap.size W w' := by
  have h' := h.below k
  exact ref_graph N E na nl nc ea el ec next W h'.1 h'.2.1 (fun x hx w' k' => ⟨checkLabels_of isName_any _ _ _ _ w' ((h'.2.2.1 x hx).1.below k'), checkProps_ok x.pc (h'.2.2.1 x hx).2.1 (h'.2.2.1 x hx).2.2 w' k'⟩) (fun x hx w' k' => checkProps_ok x.pc (h'.2.2.2 x hx).1 (h'.2.2.2 x hx).2 w' k')

set_option linter.unusedSimpArgs false

/-- Has it that label, or is none asked for? -/
def selN (label : ByteArray) (x : Nd) : Bool := label.toList.isEmpty || hasS x.labs label

def lbL (label : ByteArray) (N : List Nd) : List Int := (N.filter (selN label)).map Nd.id

theorem lbL_yes {label : ByteArray} {x : Nd} {N : List Nd} (h : selN label x = true) : lbL label (x :: N) = x.id :: lbL label N := by
  simp [lbL, h]

theorem lbL_no {label : ByteArray} {x : Nd} {N : List Nd} (h : selN label x = false) : lbL label (x :: N) = lbL label N := by
  simp [lbL, h]

/-- What Labelled answers. -/
def LabEnd (w w' : World) (er : Int) (L : List Int) (e : Ending) : Prop :=
  (er ≠ 0 ∧ e = .returned (.tuple #[.slice none 0 0, .int .i64 er])) ∨ (er = 0 ∧ ∃ v, e = .returned (.tuple #[v, .int .i64 0]) ∧ w'.ownsRow w.heap.size 3 1 v L.length (ints L))

theorem rowI_keep {w w' : World} {B n size : Nat} {e : TypeId} {v : Value} {xs : List Value} (h : w.ownsRow B e size v n xs) (k : Below w.heap.size w w') : w'.ownsRow B e size v n xs := by
  refine ⟨h.1, ?_⟩
  rcases h.2 with h0 | ⟨g, cap, cur, h0, h1, h2, h3⟩
  · exact .inl h0
  · refine .inr ⟨g, cap, cur, h0, h1, ?_, h3⟩
    rw [k.block g (Array.getElem?_eq_some_iff.1 h2).1]
    exact h2

theorem edE_ok (N : List Nd) : ∀ (E : List Ed) (ah : Int), edE N ah E = 0 → Rise (E.map Ed.id) ∧ (∀ x ∈ E, ah < x.id ∧ hasN N x.id = false ∧ nm x.typ = true ∧ hasN N x.frm = true ∧ hasN N x.dst = true ∧ prsE x.props = 0)
  | [], ah, _ => ⟨fun i j x y _ h => by simp at h, fun x h => by cases h⟩
  | x :: r, ah, h => by
    unfold edE at h
    split at h
    · rename_i h1
      have h2 : ah < x.id ∧ hasN N x.id = false ∧ nm x.typ = true ∧ hasN N x.frm = true ∧ hasN N x.dst = true ∧ prsE x.props = 0 := by
        unfold edOne at h1
        split at h1
        · exact absurd h1 (by decide)
        · split at h1
          · exact absurd h1 (by decide)
          · rename_i h3 h4
            simp only [not_or, Bool.not_eq_true, Bool.not_eq_false] at h3 h4
            exact ⟨by omega, h3.2.1, h3.2.2, h4.1, h4.2, h1⟩
      obtain ⟨hr, hall⟩ := edE_ok N r x.id h
      refine ⟨fun i j u v hij hu hv => ?_, fun y hy => ?_⟩
      · cases j with
        | zero => omega
        | succ j =>
          cases i with
          | zero =>
            simp only [List.map_cons, List.getElem?_cons_zero, Option.some.injEq] at hu
            simp only [List.map_cons, List.getElem?_cons_succ] at hv
            obtain ⟨y, hy, rfl⟩ := List.mem_map.1 (List.mem_of_getElem? hv)
            rw [← hu]
            exact (hall y hy).1
          | succ i =>
            simp only [List.map_cons, List.getElem?_cons_succ] at hu hv
            exact hr i j u v (by omega) hu hv
      · rcases List.mem_cons.1 hy with rfl | hy
        · exact h2
        · have := hall y hy
          exact ⟨by omega, this.2⟩
    · rename_i h1
      exact absurd h h1

/-- What holds of a graph in which nothing is wrong. -/
structure Right (N : List Nd) (E : List Ed) : Prop where
  fewN : N.length ≤ 40
  fewE : E.length ≤ 60
  riseN : Rise (N.map Nd.id)
  riseE : Rise (E.map Ed.id)
  nodes : ∀ x ∈ N, labsE x.labs = 0 ∧ prsE x.props = 0
  edges : ∀ x ∈ E, hasN N x.id = false ∧ hasN N x.frm = true ∧ hasN N x.dst = true ∧ prsE x.props = 0

theorem gE_ok {N : List Nd} {E : List Ed} {next : Int} (h : gE N E next = 0) : Right N E := by
  unfold gE at h
  split at h
  · exact absurd h (by decide)
  · split at h
    · split at h
      · rename_i h1 h2 h3
        obtain ⟨r1, a1⟩ := ndE_ok N 0 h2
        obtain ⟨r2, a2⟩ := edE_ok N E 0 h3
        exact ⟨by omega, by omega, r1, r2, fun x hx => (a1 x hx).2, fun x hx => ⟨(a2 x hx).2.1, (a2 x hx).2.2.2.1, (a2 x hx).2.2.2.2.1, (a2 x hx).2.2.2.2.2⟩⟩
      · rename_i h3
        exact absurd h h3
    · rename_i h2
      exact absurd h h2

section
variable {w : World} {N : List Nd} {E : List Ed} {na : Option Addr} {nl : Nat} {ea : Option Addr} {el : Nat}

theorem nil_ok (h : GrOk w N E na nl ea el) (nc ec : Nat) (next id : Int) (W : World) (k : Below w.heap.size w W) :
    Calls Tryz.prog 18 #[.agg #[.slice na nl nc, .slice ea el ec, .int .i64 next], .int .i64 id] W fun e w' => NilEnd (hasN N id) e ∧ Below W.heap.size W w' :=
  nodeAt_nil N na nl nc ea el ec next id W (h.1.below k)
end

theorem lbL_length (label : ByteArray) (N : List Nd) : (lbL label N).length ≤ N.length := by
  unfold lbL
  rw [List.length_map]
  exact List.length_filter_le _ _

theorem arL_length (id : Int) (kind : ByteArray) (inn : Bool) (E : List Ed) : (arL id kind inn E).length ≤ E.length := by
  unfold arL
  rw [List.length_map]
  exact List.length_filter_le _ _
end Go.Proofs.YthbbapimedlocaaGreatDoor
