/-
  What is proved here: what the texts GtRefC, GtSeenBy prove, in one text.
-/
import Derived.Test.YthikpmngcbgbfaaDoorQGAN
import Derived.Test.YthikpmngcbgbfaaDoorQGAH
import Derived.Test.YthikpmngcbgbfaaDoorQGAP
import Derived.Test.YthikpmngcbgbfaaDoorQGAQ
namespace Go.Proofs.YthikpmngcbgbfaaDoor
open Go.RowKit
set_option linter.unusedVariables false

set_option linter.unusedSimpArgs false

/-- What is wrong with a grant behind others, or what is told behind it. -/
def gtK (A : List Gt) (x : Gt) (T : Int) : Int := if nm x.who = false then 6 else if A.any (toW x.who) = true then 7 else if 4 < x.labs.length then 2 else if x.labs.any noLab = true then 6 else T

theorem gtK_is (A : List Gt) (x : Gt) (T : Int) : (if gtOne A x = 0 then T else gtOne A x) = gtK A x T := by
  unfold gtOne gtK
  by_cases h1 : nm x.who = false
  · simp [h1]
  by_cases h2 : A.any (toW x.who) = true
  · simp [h1, h2]
  by_cases h3 : 4 < x.labs.length
  · simp [h1, h2, h3]
  by_cases h4 : x.labs.any noLab = true
  · simp [h1, h2, h3, h4]
  · simp [h1, h2, h3, h4]

theorem any_drop {α : Type} {L : List α} {i : Nat} {x : α} (h : L.drop i = x :: L.drop (i + 1)) (f : α → Bool) : (L.drop i).any f = (f x || (L.drop (i + 1)).any f) := by
  rw [h, List.any_cons]

set_option maxHeartbeats 8000000 in
set_option maxRecDepth 100000 in
theorem checkGrants_any (L : List Gt) (a : Option Addr) (l c : Nat) (w : World) (hL : GtsOk w L a l) (hlc : l ≤ c) :
    Calls Tryd.prog 10 #[.slice a l c] w fun e w' => e = .returned (.int .i64 (gtsE L)) ∧ Below w.heap.size w w' := by
  obtain ⟨R, hR⟩ : ∃ R, R = gtsE L := ⟨_, rfl⟩
  rw [← hR]
  have HLN := toHid hL.1.1
  have hmx := hL.1.2.1
  have HL := toHid hL
  clear hL
  by_cases h4 : 4 < l
  · have h4' : (4 : Int) < l := by omega
    have H3 : Hid (R = 2) := by rw [hR, gtsE, if_pos (by rw [← HLN.out]; exact h4)]; exact toHid rfl
    clear hR
    go_enter Tryd.func10, Tryd.ntmps10
    go_wp2_with fail
    go_ret
    exact ⟨ret_int H3.out.symm, Below.refl _ _⟩
  · have h4' : ¬ ((4 : Int) < l) := by omega
    have H3 : Hid (R = gtFrom L (l - 0) 0) := by rw [hR, gtsE, if_neg (by rw [← HLN.out]; exact h4), HLN.out]; exact toHid rfl
    clear hR
    go_enter Tryd.func10, Tryd.ntmps10
    go_wp2_with fail
    go_loopg [14] l (fun g s14 wr => ∃ i : Nat, i ≤ l ∧ l - i ≤ g ∧ s14 = .int .i64 i ∧ Below w.heap.size w wr ∧ R = gtFrom L (l - i) i)
    case atStart => exact ⟨0, Nat.zero_le _, by omega, rfl, Below.refl _ _, H3.out⟩
    case round =>
      clear H3
      obtain ⟨i, hi, hg, rfl, hbw, hfe⟩ := hrel
      have HFE := toHid hfe
      have HBW := toHid hbw
      clear hfe hbw
      by_cases hlt : i < l
      · have hil : (i : Int) < l := by omega
        have HLR := HL.out.below HBW.out
        obtain ⟨b, off, ha, hb, hc⟩ := HLR.1.2.2 (by omega)
        subst ha
        obtain ⟨x, hx, _⟩ := drop_get (L := L) (i := i) (by have := HLN.out; omega)
        obtain ⟨hsz, d1, d2⟩ := hc i x hx
        have b1 : Below wr.heap.size wr (wr.alloc (.cells #[.string x.who, .slice x.la x.ll x.lc] 54)) := (Below.refl _ _).alloc (Nat.le_refl _) _
        have h0 := alloc_new wr (.cells #[.string x.who, .slice x.la x.ll x.lc] 54)
        have HB1 := toHid b1
        have HX0 := toHid (HLR.2 x (List.mem_of_getElem? hx))
        have HT0 := toHid (HLR.1.take hi)
        have hxm := HX0.out.2.1
        have HXL := toHid HX0.out.1
        obtain ⟨T, hT⟩ : ∃ T, T = gtFrom L (l - (i + 1)) (i + 1) := ⟨_, rfl⟩
        have HT := toHid hT
        have H4 : Hid (R = gtK (L.take i) x T) := by rw [HFE.out, gtFrom_step HLN.out hlt hx, gtK_is, hT]; exact toHid rfl
        have hic : (i : Int) ≤ c := by omega
        have hic2 : i ≤ c := by omega
        have HC : Hid (∀ W, Calls Tryd.prog 24 #[.string x.who] W fun e w' => e = .returned (.bool (nm x.who)) ∧ Below W.heap.size W w') := fun W => isName_any x.who W hsz
        have HBB := toHid hb
        clear hc hx HFE HLR b1 hT
        go_upto_region 6 with fail
        generalize wr.alloc (.cells #[.string x.who, .slice x.la x.ll x.lc] 54) = W at HB1 h0 ⊢
        generalize hbx : wr.heap.size = bx at h0 ⊢
        have HB2 : Hid (∀ W', Below W.heap.size W W' → Below wr.heap.size wr W') := fun W' k => HB1.out.trans (k.mono HB1.out.size)
        have x0 := cell_of h0 0
        simp at x0
        have hbl := lt_block h0
        have H0 := toHid h0
        clear hbx h0 d1 d2
        go_wp2_with fail
        refine (HC.out _).mono ?_
        rintro e w1 ⟨rfl, k1⟩
        have HK1 := toHid (HB2.out _ k1)
        have H01 := toHid ((k1.block bx hbl).trans H0.out)
        have hbl1 := Nat.lt_of_lt_of_le hbl k1.size
        clear k1 x0 H0 HC hbl
        have HOUT : Hid (∀ W', Below w1.heap.size w1 W' → Below w.heap.size w W') := fun W' k => HBW.out.trans ((HK1.out.trans (k.mono HK1.out.size)).mono HBW.out.size)
        cases hn : nm x.who with
        | false =>
          have H5 : Hid (R = 6) := by rw [H4.out, gtK, if_pos hn]; exact toHid rfl
          clear H4
          go_wp2_with fail
          go_ret
          exact ⟨ret_int H5.out.symm, HOUT.out _ (Below.refl _ _)⟩
        | true =>
          have HT1 := toHid (HT0.out.below HK1.out)
          have HX1 := toHid (HX0.out.below HK1.out)
          have HAL := toHid HT0.out.1
          clear HT0 HX0
          obtain ⟨T2, hT2⟩ : ∃ T2, T2 = if 4 < x.labs.length then 2 else if x.labs.any noLab = true then 6 else T := ⟨_, rfl⟩
          have HT2 := toHid hT2
          have H5 : Hid (R = if ((L.take i).drop 0).any (toW x.who) = true then 7 else T2) := by rw [H4.out, gtK, if_neg (by simp [hn]), hT2]; exact toHid rfl
          clear H4 hn hT2
          generalize L.take i = A at HT1 H5 HAL
          go_wp2_with fail
          go_loopg [27] i (fun g s27 wr => ∃ j : Nat, j ≤ i ∧ i - j ≤ g ∧ s27 = .int .i64 j ∧ Below w1.heap.size w1 wr ∧ R = if (A.drop j).any (toW x.who) = true then 7 else T2)
          case atStart => exact ⟨0, Nat.zero_le _, by omega, rfl, Below.refl _ _, H5.out⟩
          case round =>
            clear H5
            obtain ⟨j, hj, hg2, rfl, hbw2, hfe2⟩ := hrel
            have HF2 := toHid hfe2
            have HW2 := toHid hbw2
            clear hfe2 hbw2
            obtain ⟨w2, rfl⟩ : ∃ z, z = wr := ⟨_, rfl⟩
            have H02 := toHid ((HW2.out.block bx hbl1).trans H01.out)
            have hbl2 := Nat.lt_of_lt_of_le hbl1 HW2.out.size
            by_cases hlt2 : j < i
            · have hji : (j : Int) < i := by omega
              obtain ⟨b', off', ha', hb', hc'⟩ := HT1.out.2.2 (by omega)
              injection ha' with ha'
              injection ha' with ha' hoff'
              subst ha' hoff'
              obtain ⟨y, hy, hd⟩ := drop_get (L := A) (i := j) (by have := HAL.out; omega)
              obtain ⟨_, c1, c2⟩ := hc' j y hy
              have d1 := (HW2.out.cell (p := ⟨b, off + j * 2, none⟩) hb').trans c1
              have d2 := (HW2.out.cell (p := ⟨b, off + j * 2 + 1, none⟩) hb').trans c2
              have x0 := cell_of H02.out 0
              simp at x0
              have H6 : Hid (R = if (toW x.who y || (A.drop (j + 1)).any (toW x.who)) = true then 7 else T2) := by rw [HF2.out, any_drop hd]; exact toHid rfl
              clear hc' hy hd c1 c2 HF2
              have hyx : toW x.who y = (y.who.toList == x.who.toList) := rfl
              have HB3 : Hid (Below w2.heap.size w2 (w2.alloc (.cells #[.string y.who, .slice y.la y.ll y.lc] 54))) := (Below.refl _ _).alloc (Nat.le_refl _) _
              have x0' := (((Below.refl w2.heap.size w2).alloc (Nat.le_refl _) (.cells #[.string y.who, .slice y.la y.ll y.lc] 54)).cell (p := ⟨bx, 0, none⟩) hbl2).trans x0
              cases hs : toW x.who y with
              | true =>
                have H7 : Hid (R = 7) := by rw [H6.out, hs]; exact toHid rfl
                rw [hyx] at hs
                clear H6 hyx
                go_wp2_with fail
                go_ret
                exact ⟨ret_int H7.out.symm, HOUT.out _ (HW2.out.trans (HB3.out.mono HW2.out.size))⟩
              | false =>
                have H7 : Hid (R = if (A.drop (j + 1)).any (toW x.who) = true then 7 else T2) := by rw [H6.out, hs]; exact toHid rfl
                rw [hyx] at hs
                clear H6 hyx
                go_wp2_with fail
                go_roundg (i - (j + 1))
                case measure => omega
                case rel => exact ⟨j + 1, by omega, Nat.le_refl _, by go_num, HW2.out.trans (HB3.out.mono HW2.out.size), H7.out⟩
            · have H6 : Hid (R = T2) := by rw [HF2.out, List.drop_eq_nil_of_le (by have := HAL.out; omega)]; exact toHid rfl
              have HX2 := toHid (HX1.out.below HW2.out)
              have HOUT2 : Hid (∀ W', Below w2.heap.size w2 W' → Below w.heap.size w W') := fun W' k => HOUT.out _ (HW2.out.trans (k.mono HW2.out.size))
              have x1 := cell_of H02.out 1
              simp at x1
              clear HF2 HT1 HX1 HW2 HOUT
              have hji : ¬ (j : Int) < i := by omega
              by_cases h5 : 4 < x.ll
              · have h5' : (4 : Int) < x.ll := by omega
                have H7 : Hid (R = 2) := by rw [H6.out, HT2.out, if_pos (by rw [← HXL.out]; exact h5)]; exact toHid rfl
                go_wp2_with fail
                go_ret
                exact ⟨ret_int H7.out.symm, HOUT2.out _ (Below.refl _ _)⟩
              · have h5' : ¬ ((4 : Int) < x.ll) := by omega
                have H7 : Hid (R = if (x.labs.drop 0).any noLab = true then 6 else T) := by rw [H6.out, HT2.out, if_neg (by rw [← HXL.out]; exact h5)]; exact toHid rfl
                clear H6 HT2 H02
                generalize x.la = xa at HX2 x1 ⊢
                go_wp2_with fail
                go_loopg [44] x.ll (fun g s44 wr => ∃ k : Nat, k ≤ x.ll ∧ x.ll - k ≤ g ∧ s44 = .int .i64 k ∧ Below w2.heap.size w2 wr ∧ R = if (x.labs.drop k).any noLab = true then 6 else T)
                case atStart => exact ⟨0, Nat.zero_le _, by omega, rfl, Below.refl _ _, H7.out⟩
                case round =>
                  clear H7
                  obtain ⟨k, hk, hg3, rfl, hbw3, hfe3⟩ := hrel
                  have HF3 := toHid hfe3
                  have HW3 := toHid hbw3
                  clear hfe3 hbw3
                  obtain ⟨w3, rfl⟩ : ∃ z, z = wr := ⟨_, rfl⟩
                  by_cases hlt3 : k < x.ll
                  · have hkl : (k : Int) < x.ll := by omega
                    obtain ⟨b4, off4, ha4, hb4, hc4⟩ := HX2.out.2.2 (by omega)
                    subst ha4
                    obtain ⟨s, hs, hd⟩ := drop_get (L := x.labs) (i := k) (by have := HXL.out; omega)
                    obtain ⟨hss, c1⟩ := hc4 k s hs
                    have d1 := (HW3.out.cell (p := ⟨b4, off4 + k, none⟩) hb4).trans c1
                    have H8 : Hid (R = if (noLab s || (x.labs.drop (k + 1)).any noLab) = true then 6 else T) := by rw [HF3.out, any_drop hd]; exact toHid rfl
                    have HC := toHid (isName_any s w3 hss)
                    clear hc4 hs hd c1 HF3
                    unfold noLab at H8
                    cases he : s.toList.isEmpty with
                    | true =>
                      have H9 : Hid (R = if (x.labs.drop (k + 1)).any noLab = true then 6 else T) := by rw [H8.out, he]; exact toHid rfl
                      clear H8
                      go_wp2_with fail
                      go_roundg (x.ll - (k + 1))
                      case measure => omega
                      case rel => exact ⟨k + 1, by omega, Nat.le_refl _, by go_num, HW3.out, H9.out⟩
                    | false =>
                      go_wp2_with fail
                      refine HC.out.mono ?_
                      rintro e w4 ⟨rfl, k4⟩
                      have HW4 := toHid (HW3.out.trans (k4.mono HW3.out.size))
                      clear k4 HC
                      cases hn2 : nm s with
                      | true =>
                        have H9 : Hid (R = if (x.labs.drop (k + 1)).any noLab = true then 6 else T) := by rw [H8.out, he, hn2]; exact toHid rfl
                        clear H8
                        go_wp2_with fail
                        go_roundg (x.ll - (k + 1))
                        case measure => omega
                        case rel => exact ⟨k + 1, by omega, Nat.le_refl _, by go_num, HW4.out, H9.out⟩
                      | false =>
                        have H9 : Hid (R = 6) := by rw [H8.out, he, hn2]; exact toHid rfl
                        clear H8
                        go_wp2_with fail
                        go_ret
                        exact ⟨ret_int H9.out.symm, HOUT2.out _ HW4.out⟩
                  · have hkl : ¬ (k : Int) < x.ll := by omega
                    have H8 : Hid (R = T) := by rw [HF3.out, List.drop_eq_nil_of_le (by have := HXL.out; omega)]; exact toHid rfl
                    clear HF3
                    go_wp2_with fail
                    go_roundg (l - (i + 1))
                    case measure => omega
                    case rel => exact ⟨i + 1, by omega, Nat.le_refl _, by go_num, HOUT2.out _ HW3.out, H8.out.trans HT.out⟩
      · have hil : ¬ (i : Int) < l := by omega
        have H3 : Hid (R = 0) := by rw [HFE.out, gtFrom_end i (by omega)]; exact toHid rfl
        clear HFE
        go_wp2_with fail
        go_ret
        exact ⟨ret_int H3.out.symm, HBW.out⟩

set_option linter.unusedSimpArgs false

/-- What seenBy hands out. -/
def SbEnd (w' : World) (L : List Gt) (who : ByteArray) (er : Int) (XN : List AN) (XE : List AE) (nx : Int) (e : Ending) : Prop :=
  (er ≠ 0 ∧ e = .returned (.tuple #[.agg #[.slice none 0 0, .slice none 0 0, .int .i64 0], .slice none 0 0, .int .i64 er])) ∨
  (er = 0 ∧ ∃ g, L.find? (toW who) = some g ∧ ∃ na nc ea ec, e = .returned (.tuple #[.agg #[.slice na XN.length nc, .slice ea XE.length ec, .int .i64 nx], .slice g.la g.ll g.lc, .int .i64 0]) ∧ NsAt w' XN na XN.length ∧ EsAt w' XE ea XE.length)

theorem set3_other {u : World} {b g : Nat} {x y z : Value} (h : g ≠ b) : (((u.setCell ⟨b, 0, none⟩ x).setCell ⟨b, 1, none⟩ y).setCell ⟨b, 2, none⟩ z).heap[g]? = u.heap[g]? := putL_other b [x, y, z] 0 u g h

theorem find_drop {L : List Gt} {i : Nat} {x : Gt} {p : Gt → Bool} (h : L.drop i = x :: L.drop (i + 1)) : (L.drop i).find? p = if p x = true then some x else (L.drop (i + 1)).find? p := by
  rw [h, List.find?_cons]
  cases p x <;> simp

set_option maxHeartbeats 16000000 in
set_option maxRecDepth 100000 in
theorem seenBy_any (L : List Gt) (a : Option Addr) (l c : Nat) (who : ByteArray) (N : List Nd) (E : List Ed) (na : Option Addr) (nl nc : Nat) (ea : Option Addr) (el ec : Nat) (nx : Int) (XN : List AN) (XE : List AE) (w : World) (hL : GtsOk w L a l) (hlc : l ≤ c) (hG : GrOk w N E na nl ea el)
    (hX : gE N E nx = 0 → Pair2 (NdIn w) N XN ∧ Pair2 (EdIn w) E XE ∧ (∀ x ∈ XN, x.ok) ∧ (∀ x ∈ XE, x.ok)) :
    Calls Tryd.prog 7 #[.slice a l c, .string who, .agg #[.slice na nl nc, .slice ea el ec, .int .i64 nx]] w fun e w' => SbEnd w' L who (sgE L who (gE N E nx)) (seenN (labsOf L who) XN) (seenE (seenN (labsOf L who) XN) XE) nx e ∧ Below w.heap.size w w' := by
  obtain ⟨e1, he1⟩ : ∃ e1, e1 = gtsE L := ⟨_, rfl⟩
  obtain ⟨e2, he2⟩ : ∃ e2, e2 = gE N E nx := ⟨_, rfl⟩
  have HC1 : Hid (∀ W, Below w.heap.size w W → Calls Tryd.prog 10 #[.slice a l c] W fun e w' => e = .returned (.int .i64 e1) ∧ Below W.heap.size W w') := fun W k => by
    rw [he1]
    exact checkGrants_any L a l c W (hL.below k) hlc
  have HC2 : Hid (∀ W, Below w.heap.size w W → Calls Tryd.prog 21 #[.agg #[.slice na nl nc, .slice ea el ec, .int .i64 nx]] W fun e w' => e = .returned (.int .i64 e2) ∧ Below W.heap.size W w') := fun W k => by
    rw [he2]
    exact checkGraph_ok hG nc ec nx W k
  have HSE : Hid (e2 = 0 → ∀ (g : Gt) (W : World), Below w.heap.size w W → g ∈ L → L.find? (toW who) = some g → Calls Tryd.prog 15 #[.slice g.la g.ll g.lc, .agg #[.slice na nl nc, .slice ea el ec, .int .i64 nx]] W fun e w' => (∃ (FN : List Nd) (FE : List Ed) (na : Option Addr) (nc : Nat) (ea : Option Addr) (ec : Nat), e = .returned (.agg #[.slice na (seenN (labsOf L who) XN).length nc, .slice ea (seenE (seenN (labsOf L who) XN) XE).length ec, .int .i64 nx]) ∧ w'.ownsRow W.heap.size 51 3 (.slice na (seenN (labsOf L who) XN).length nc) FN.length (rowN FN) ∧ w'.ownsRow W.heap.size 71 5 (.slice ea (seenE (seenN (labsOf L who) XN) XE).length ec) FE.length (rowX FE) ∧ Pair2 (NdIn w) FN (seenN (labsOf L who) XN) ∧ Pair2 (EdIn w) FE (seenE (seenN (labsOf L who) XN) XE)) ∧ Below W.heap.size W w') := by
    intro h0 g W k hm hf
    have hg0 : gE N E nx = 0 := by rw [← he2]; exact h0
    have r := gE_ok hg0
    obtain ⟨hpN, hpE, _, _⟩ := hX hg0
    have hG' := hG.below k
    have hl : labsOf L who = g.labs := by rw [labsOf, hf]
    rw [hl]
    refine (seen_any N E na nl nc ea el ec nx g.labs g.la g.ll g.lc W hG'.1 hG'.2.1 (by rw [hG'.1.1]; have := r.fewN; omega) (by rw [hG'.2.1.1]; have := r.fewE; omega) r.riseN ((hL.below k).2 g hm) (fun x hx => (hG'.2.2.1 x hx).1)).mono fun e w' ⟨⟨na', nc', ea', ec', he, h1, h2⟩, kb⟩ => ⟨?_, kb⟩
    obtain ⟨p1, p2⟩ := seen_pairs (G := g.labs) hpN hpE
    have q1 := p1.1
    have q2 := p2.1
    exact ⟨_, _, na', nc', ea', ec', by rw [← q1, ← q2]; exact he, by rw [← q1]; exact h1, by rw [← q2]; exact h2, p1, p2⟩
  obtain ⟨er, her⟩ : ∃ er, er = sgE L who e2 := ⟨_, rfl⟩
  rw [← he2, ← her]
  have HER : Hid (er = if e1 ≠ 0 then e1 else if e2 ≠ 0 then e2 else if (L.find? (toW who)).isNone then 12 else 0) := by rw [her, sgE, ← he1]; exact toHid rfl
  have HLL := toHid hL
  have HLN := toHid hL.1.1
  have hmx := hL.1.2.1
  clear hX hL hG her he1 he2
  generalize seenE (seenN (labsOf L who) XN) XE = YE at HSE ⊢
  generalize seenN (labsOf L who) XN = YN at HSE ⊢
  have b0 : Below w.heap.size w ((w.alloc (.cells #[.slice na nl nc, .slice ea el ec, .int .i64 nx] 26)).alloc (.cells #[.slice none 0 0, .slice none 0 0, .int .i64 0] 26)) := ((Below.refl _ _).alloc (Nat.le_refl _) _).alloc (by simp) _
  have hg0 : ((w.alloc (.cells #[.slice na nl nc, .slice ea el ec, .int .i64 nx] 26)).alloc (.cells #[.slice none 0 0, .slice none 0 0, .int .i64 0] 26)).heap[w.heap.size]? = some (.cells #[.slice na nl nc, .slice ea el ec, .int .i64 nx] 26 (0, 0)) := bk_alP (bk_newP rfl)
  have hr0 : ((w.alloc (.cells #[.slice na nl nc, .slice ea el ec, .int .i64 nx] 26)).alloc (.cells #[.slice none 0 0, .slice none 0 0, .int .i64 0] 26)).heap[w.heap.size + 1]? = some (.cells #[.slice none 0 0, .slice none 0 0, .int .i64 0] 26 (0, 0)) := bk_newP (by simp)
  have HB := toHid b0
  have HG := toHid hg0
  have HR := toHid hr0
  clear b0 hg0 hr0
  have HBAD : Hid (∀ (Y W : World) (z : Int), Below w.heap.size w W → W.heap[w.heap.size + 1]? = some (.cells #[.slice none 0 0, .slice none 0 0, .int .i64 0] 26 (0, 0)) → Y = putL W (w.heap.size + 1) 0 [.slice none 0 0, .slice none 0 0, .int .i64 0] → Below w.heap.size w Y ∧ Y.cell? ⟨w.heap.size + 1, 0, none⟩ = some (.slice none 0 0) ∧ Y.cell? ⟨w.heap.size + 1, 1, none⟩ = some (.slice none 0 0) ∧ Y.cell? ⟨w.heap.size + 1, 2, none⟩ = some (.int .i64 0)) := fun Y W z k hW hY => by
    subst hY
    have E1 := putL_here [.slice none 0 0, .slice none 0 0, .int .i64 0] 0 W _ hW
    have t0 := cell_of E1 0
    have t1 := cell_of E1 1
    have t2 := cell_of E1 2
    simp [setL] at t0 t1 t2
    exact ⟨k.trans ((putL_bel (w.heap.size + 1) _ _ W).mono (by omega)), t0, t1, t2⟩
  go_enter Tryd.func7, Tryd.ntmps7
  go_upto_region 1 with fail
  generalize (w.alloc (.cells #[.slice na nl nc, .slice ea el ec, .int .i64 nx] 26)).alloc (.cells #[.slice none 0 0, .slice none 0 0, .int .i64 0] 26) = W at HB HG HR ⊢
  go_wp2_with fail
  refine (HC1.out _ HB.out).mono ?_
  rintro e w1 ⟨rfl, k1⟩
  have HB1 := toHid (HB.out.trans (k1.mono HB.out.size))
  have HG1 := toHid ((k1.block _ (lt_block HG.out)).trans HG.out)
  have HR1 := toHid ((k1.block _ (lt_block HR.out)).trans HR.out)
  clear k1 HG HR HB HC1
  have hr0 := HR1.out
  have r0 := cell_of HR1.out 0
  have r1 := cell_of HR1.out 1
  have r2 := cell_of HR1.out 2
  have g0 := free_of HR1.out 0
  have g1 := free_of HR1.out 1
  have g2 := free_of HR1.out 2
  simp at r0 r1 r2
  have hbl := lt_block HR1.out
  have eP : ∀ X : World, ((X.setCell ⟨w.heap.size + 1, 0, none⟩ (.slice none 0 0)).setCell ⟨w.heap.size + 1, 1, none⟩ (.slice none 0 0)).setCell ⟨w.heap.size + 1, 2, none⟩ (.int .i64 0) = putL X (w.heap.size + 1) 0 [.slice none 0 0, .slice none 0 0, .int .i64 0] := fun _ => rfl
  have EP := toHid eP
  clear eP hr0
  by_cases h1 : e1 = 0
  · subst h1
    have HER2 : Hid (er = if e2 ≠ 0 then e2 else if (L.find? (toW who)).isNone then 12 else 0) := by rw [HER.out, if_neg (by simp)]; exact toHid rfl
    clear HER r0 r1 r2 g0 g1 g2 hbl
    have x0 := cell_of HG1.out 0
    have x1 := cell_of HG1.out 1
    have x2 := cell_of HG1.out 2
    simp at x0 x1 x2
    have hbl := lt_block HG1.out
    go_wp2_with fail
    refine (HC2.out _ HB1.out).mono ?_
    rintro e w2 ⟨rfl, k2⟩
    have HB2 := toHid (HB1.out.trans (k2.mono HB1.out.size))
    have HG2 := toHid ((k2.block _ (lt_block HG1.out)).trans HG1.out)
    have HR2 := toHid ((k2.block _ (lt_block HR1.out)).trans HR1.out)
    clear k2 x0 x1 x2 hbl HG1 HR1 HB1 HC2
    by_cases h2 : e2 = 0
    · subst h2
      have HER3 : Hid (er = if ((L.drop 0).find? (toW who)).isNone then 12 else 0) := by rw [HER2.out, if_neg (by simp)]; exact toHid rfl
      have HSE2 := toHid (HSE.out rfl)
      clear HER2 HSE
      have HFD : Hid (L.find? (toW who) = (L.drop 0).find? (toW who)) := rfl
      go_wp2_with fail
      go_loopg [27] l (fun g s27 wr => ∃ i : Nat, i ≤ l ∧ l - i ≤ g ∧ s27 = .int .i64 i ∧ Below w2.heap.size w2 wr ∧ er = (if ((L.drop i).find? (toW who)).isNone then 12 else 0) ∧ L.find? (toW who) = (L.drop i).find? (toW who))
      case atStart => exact ⟨0, Nat.zero_le _, by omega, rfl, Below.refl _ _, HER3.out, HFD.out⟩
      case round =>
        clear HER3 HFD
        obtain ⟨i, hi, hg, rfl, hbw, hre, hfd⟩ := hrel
        have HRE := toHid hre
        have HFD := toHid hfd
        have HBW := toHid hbw
        clear hre hfd hbw
        have HB3 := toHid (HB2.out.trans (HBW.out.mono HB2.out.size))
        have HG3 := toHid ((HBW.out.block _ (lt_block HG2.out)).trans HG2.out)
        have HR3 := toHid ((HBW.out.block _ (lt_block HR2.out)).trans HR2.out)
        by_cases hlt : i < l
        · have hil : (i : Int) < l := by omega
          obtain ⟨b, off, ha, hb, hc⟩ := (HLL.out.below HB3.out).1.2.2 (by omega)
          subst ha
          obtain ⟨x, hx, hd⟩ := drop_get (L := L) (i := i) (by have := HLN.out; omega)
          obtain ⟨_, d1, d2⟩ := hc i x hx
          have HRE2 := toHid (HRE.out.trans (by rw [find_drop (p := toW who) hd]))
          have HFD2 := toHid (HFD.out.trans (find_drop (p := toW who) hd))
          have HXM := toHid (List.mem_of_getElem? hx)
          clear hc hx hd HRE HFD
          have hyx : toW who x = (x.who.toList == who.toList) := rfl
          have HBX : Hid ((wr.alloc (.cells #[.string x.who, .slice x.la x.ll x.lc] 54)).heap[wr.heap.size]? = some (.cells #[.string x.who, .slice x.la x.ll x.lc] 54 (0, 0))) := alloc_new wr _
          have HK1 : Hid (Below wr.heap.size wr (wr.alloc (.cells #[.string x.who, .slice x.la x.ll x.lc] 54))) := (Below.refl _ _).alloc (Nat.le_refl _) _
          cases hs : toW who x with
          | false =>
            have H5 : Hid (er = if ((L.drop (i + 1)).find? (toW who)).isNone then 12 else 0) := by rw [HRE2.out, show (if toW who x = true then some x else (L.drop (i + 1)).find? (toW who)) = (L.drop (i + 1)).find? (toW who) from if_neg (by simp [hs])]; exact toHid rfl
            have H6 : Hid (L.find? (toW who) = (L.drop (i + 1)).find? (toW who)) := by rw [HFD2.out, if_neg (by simp [hs])]; exact toHid rfl
            rw [hyx] at hs
            clear HRE2 HFD2 hyx
            go_wp2_with fail
            go_roundg (l - (i + 1))
            case measure => omega
            case rel => exact ⟨i + 1, by omega, Nat.le_refl _, by go_num, HBW.out.trans (HK1.out.mono HBW.out.size), H5.out, H6.out⟩
          | true =>
            have H6 : Hid (L.find? (toW who) = some x) := by rw [HFD2.out, if_pos hs]; exact toHid rfl
            have H5 : Hid (er = 0) := by rw [HRE2.out, if_pos hs]; exact toHid rfl
            rw [hyx] at hs
            clear HRE2 HFD2 hyx
            go_upto_region 11 with fail
            generalize wr.alloc (.cells #[.string x.who, .slice x.la x.ll x.lc] 54) = W1 at HBX HK1 ⊢
            generalize hbq : wr.heap.size = bx at HBX ⊢
            have hbxo : w.heap.size + 1 < bx := by have := lt_block HR3.out; omega
            have HR4 := toHid ((HK1.out.block (w.heap.size + 1) (by omega)).trans HR3.out)
            have HG4 := toHid ((HK1.out.block w.heap.size (by omega)).trans HG3.out)
            have HB4 := toHid (HB3.out.trans (HK1.out.mono HB3.out.size))
            have HS : Hid (∀ W' : World, (∀ g, g < W1.heap.size → g ≠ w.heap.size + 1 → W'.heap[g]? = W1.heap[g]?) → W'.cell? ⟨bx, 1, none⟩ = some (.slice x.la x.ll x.lc) ∧ W'.cell? ⟨w.heap.size, 0, none⟩ = some (.slice na nl nc) ∧ W'.cell? ⟨w.heap.size, 1, none⟩ = some (.slice ea el ec) ∧ W'.cell? ⟨w.heap.size, 2, none⟩ = some (.int .i64 nx)) := fun W' k => by
              have q1 := (k bx (lt_block HBX.out) (by omega)).trans HBX.out
              have q2 := (k w.heap.size (lt_block HG4.out) (by omega)).trans HG4.out
              exact ⟨cell_of q1 1, cell_of q2 0, cell_of q2 1, cell_of q2 2⟩
            have D0 : Below W1.heap.size W1 W1.drew := (Below.refl _ _).drew
            obtain ⟨x0, x1, x2, x3⟩ := HS.out W1 (fun _ _ _ => rfl)
            have hbl := lt_block HBX.out
            have hbl2 := lt_block HR4.out
            have hbl3 := lt_block HG4.out
            obtain ⟨fl, hfl⟩ : ∃ z, z = YN.length := ⟨_, rfl⟩
            obtain ⟨gl, hgl⟩ : ∃ z, z = YE.length := ⟨_, rfl⟩
            rw [← hfl, ← hgl] at HSE2
            have HFL := toHid (⟨hfl, hgl⟩ : fl = YN.length ∧ gl = YE.length)
            clear hbq hfl hgl d1 d2 HG3 HR3 HB3
            go_cut [7, 8] (fun s7 s8 wx => s7 = .slice x.la x.ll x.lc ∧ s8 = .int .i64 0 ∧ ∃ fa fc ga gc, wx.heap[w.heap.size + 1]? = some (.cells #[.slice fa fl fc, .slice ga gl gc, .int .i64 nx] 26 (0, 0)) ∧ NsAt wx YN fa fl ∧ EsAt wx YE ga gl ∧ Below w.heap.size w wx)
            case first =>
              go_region_held3 (fun W' => W'.cell? ⟨bx, 1, none⟩ = some (.slice x.la x.ll x.lc) ∧ W'.cell? ⟨w.heap.size, 0, none⟩ = some (.slice na nl nc) ∧ W'.cell? ⟨w.heap.size, 1, none⟩ = some (.slice ea el ec) ∧ W'.cell? ⟨w.heap.size, 2, none⟩ = some (.int .i64 nx))
                (first
                  | exact ⟨x0, x1, x2, x3⟩
                  | exact HS.out _ (fun g h _ => D0.block g h)
                  | exact HS.out _ (fun g h _ => k1.block g h)
                  | exact HS.out _ (fun g h h' => (set3_other h').trans (k1.block g h))
                  | go_keep)
                (first
                  | (go_at_call 15; refine (HSE2.out x _ (HB4.out.trans (D0.mono HB4.out.size)) HXM.out H6.out).mono ?_; rintro e u1 ⟨⟨FN, FE, fa, fc, ga, gc, rfl, hn, he, pn, pe⟩, h1⟩; have k1 : Below W1.heap.size W1 u1 := D0.trans h1; have HR5 := (k1.block (w.heap.size + 1) hbl2).trans HR4.out; have p0 := cell_of HR5 0; have p1 := cell_of HR5 1; have p2 := cell_of HR5 2; have f0 := free_of HR5 0; have f1 := free_of HR5 1; have f2 := free_of HR5 2; simp at p0 p1 p2))
              all_goals
                go_wp2_with fail
                go_meet
                have E1 := putL_here [.slice fa fl fc, .slice ga gl gc, .int .i64 nx] 0 u1 _ HR5
                have hbb : Below w.heap.size w (putL u1 (w.heap.size + 1) 0 [.slice fa fl fc, .slice ga gl gc, .int .i64 nx]) := (HB4.out.trans (k1.mono HB4.out.size)).trans ((putL_bel (w.heap.size + 1) _ _ u1).mono (by omega))
                have hn2 := row_keep hn (w' := putL u1 (w.heap.size + 1) 0 [.slice fa fl fc, .slice ga gl gc, .int .i64 nx]) (fun g hg hgl => set3_other (by have := own_ge hn hg; have : w.heap.size + 1 < W1.drew.heap.size := hbl2; omega))
                have he2 := row_keep he (w' := putL u1 (w.heap.size + 1) 0 [.slice fa fl fc, .slice ga gl gc, .int .i64 nx]) (fun g hg hgl => set3_other (by have := own_ge he hg; have : w.heap.size + 1 < W1.drew.heap.size := hbl2; omega))
                exact ⟨rfl, rfl, fa, fc, ga, gc, E1, ns_of hn2 pn hbb, es_of he2 pe hbb, hbb⟩
            case rest =>
              obtain ⟨rfl, rfl, fa, fc, ga, gc, hbk, hn, he, hbb⟩ := hcut
              have t0 := cell_of hbk 0
              have t1 := cell_of hbk 1
              have t2 := cell_of hbk 2
              simp at t0 t1 t2
              have HN := toHid hn
              have HE := toHid he
              have HBB := toHid hbb
              have hbl := lt_block hbk
              clear hbk hn he hbb x0 x1 x2 x3 D0 HS HSE2
              go_wp2_with fail
              exact bodyPost_ret (v := .tuple #[.agg #[.slice fa fl fc, .slice ga gl gc, .int .i64 nx], .slice x.la x.ll x.lc, .int .i64 0]) (by simp [results, Tryd.results7, go_sem, t0, t1, t2]) rfl ⟨.inr ⟨H5.out, x, H6.out, fa, fc, ga, gc, by rw [← HFL.out.1, ← HFL.out.2], by rw [← HFL.out.1]; exact HN.out, by rw [← HFL.out.2]; exact HE.out⟩, HBB.out⟩
        · have hil : ¬ (i : Int) < l := by omega
          have H5 : Hid (er = 12) := by rw [HRE.out, List.drop_eq_nil_of_le (by have := HLN.out; omega)]; exact toHid rfl
          have r0 := cell_of HR3.out 0
          have r1 := cell_of HR3.out 1
          have r2 := cell_of HR3.out 2
          have g0 := free_of HR3.out 0
          have g1 := free_of HR3.out 1
          have g2 := free_of HR3.out 2
          simp at r0 r1 r2
          have hbl := lt_block HR3.out
          clear HRE HFD
          go_wp2_with fail
          rw [EP.out]
          obtain ⟨hbb, t0, t1, t2⟩ := HBAD.out _ wr 0 HB3.out HR3.out rfl
          generalize putL wr (w.heap.size + 1) 0 [.slice none 0 0, .slice none 0 0, .int .i64 0] = Y at hbb t0 t1 t2 ⊢
          exact bodyPost_ret (v := .tuple #[.agg #[.slice none 0 0, .slice none 0 0, .int .i64 0], .slice none 0 0, .int .i64 12]) (by simp [results, Tryd.results7, go_sem, t0, t1, t2]) rfl ⟨.inl ⟨by rw [H5.out]; decide, by rw [H5.out]⟩, hbb⟩
    · have h2' : (e2 != 0) = true := by simp [h2]
      have H5 : Hid (er = e2) := by rw [HER2.out, if_pos h2]; exact toHid rfl
      have r0 := cell_of HR2.out 0
      have r1 := cell_of HR2.out 1
      have r2 := cell_of HR2.out 2
      have g0 := free_of HR2.out 0
      have g1 := free_of HR2.out 1
      have g2 := free_of HR2.out 2
      simp at r0 r1 r2
      have hbl := lt_block HR2.out
      clear HER2
      go_wp2_with fail
      rw [EP.out]
      obtain ⟨hbb, t0, t1, t2⟩ := HBAD.out _ w2 0 HB2.out HR2.out rfl
      generalize putL w2 (w.heap.size + 1) 0 [.slice none 0 0, .slice none 0 0, .int .i64 0] = Y at hbb t0 t1 t2 ⊢
      exact bodyPost_ret (v := .tuple #[.agg #[.slice none 0 0, .slice none 0 0, .int .i64 0], .slice none 0 0, .int .i64 e2]) (by simp [results, Tryd.results7, go_sem, t0, t1, t2]) rfl ⟨.inl ⟨by rw [H5.out]; exact h2, by rw [H5.out]⟩, hbb⟩
  · have h1' : (e1 != 0) = true := by simp [h1]
    have H5 : Hid (er = e1) := by rw [HER.out, if_pos h1]; exact toHid rfl
    clear HER
    go_wp2_with fail
    rw [EP.out]
    obtain ⟨hbb, t0, t1, t2⟩ := HBAD.out _ w1 0 HB1.out HR1.out rfl
    generalize putL w1 (w.heap.size + 1) 0 [.slice none 0 0, .slice none 0 0, .int .i64 0] = Y at hbb t0 t1 t2 ⊢
    exact bodyPost_ret (v := .tuple #[.agg #[.slice none 0 0, .slice none 0 0, .int .i64 0], .slice none 0 0, .int .i64 e1]) (by simp [results, Tryd.results7, go_sem, t0, t1, t2]) rfl ⟨.inl ⟨by rw [H5.out]; exact h1, by rw [H5.out]⟩, hbb⟩
end Go.Proofs.YthikpmngcbgbfaaDoor
