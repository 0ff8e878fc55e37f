/-
  What is proved here: what the texts GtMay, GtLawM prove, in one text.
-/
import Derived.Test.YthikpmngcbgbfaaDoorQGAP
import Derived.Test.YthikpmngcbgbfaaDoorQGAS
namespace Go.Proofs.YthikpmngcbgbfaaDoor
open Go.RowKit
set_option linter.unusedVariables false

set_option linter.unusedSimpArgs false

def hasAE (E : List AE) (i : Int) : Bool := E.any fun x => x.id == i

/-- May he do it, of what he sees? -/
def mayB (G : List ByteArray) (YN : List AN) (YE : List AE) (k id frm dst : Int) (L : List ByteArray) : Bool :=
  if k = 1 then seesN G L else if k = 2 then hasA YN frm && hasA YN dst else if k = 3 ∨ k = 6 ∨ k = 7 then hasA YN id else if k = 4 then hasAE YE id else if k = 5 then hasA YN id || hasAE YE id else false

theorem mayB_1 (G YN YE id frm dst L) : mayB G YN YE 1 id frm dst L = seesN G L := by simp [mayB]
theorem mayB_2 (G YN YE id frm dst L) : mayB G YN YE 2 id frm dst L = (hasA YN frm && hasA YN dst) := by simp [mayB]
theorem mayB_3 (G YN YE id frm dst L) : mayB G YN YE 3 id frm dst L = hasA YN id := by simp [mayB]
theorem mayB_6 (G YN YE id frm dst L) : mayB G YN YE 6 id frm dst L = hasA YN id := by simp [mayB]
theorem mayB_7 (G YN YE id frm dst L) : mayB G YN YE 7 id frm dst L = hasA YN id := by simp [mayB]
theorem mayB_4 (G YN YE id frm dst L) : mayB G YN YE 4 id frm dst L = hasAE YE id := by simp [mayB]
theorem mayB_5 (G YN YE id frm dst L) : mayB G YN YE 5 id frm dst L = (hasA YN id || hasAE YE id) := by simp [mayB]
theorem mayB_no {k : Int} (h1 : k ≠ 1) (h2 : k ≠ 2) (h3 : k ≠ 3) (h4 : k ≠ 4) (h5 : k ≠ 5) (h6 : k ≠ 6) (h7 : k ≠ 7) (G YN YE id frm dst L) : mayB G YN YE k id frm dst L = false := by simp [mayB, h1, h2, h3, h4, h5, h6, h7]

set_option maxHeartbeats 16000000 in
set_option maxRecDepth 100000 in
theorem may_any (L : List Gt) (a : Option Addr) (l c : Nat) (who : ByteArray) (N : List Nd) (E : List Ed) (na : Option Addr) (nl nc : Nat) (ea : Option Addr) (el ec : Nat) (nx : Int) (k id frm dst : Int) (nm : ByteArray) (vk vn : Int) (vs : ByteArray) (va : Option Addr) (vl vc : Nat) (LB : List ByteArray) (la : Option Addr) (ll lc : Nat) (pa : Option Addr) (pl pc : Nat) (XN : List AN) (XE : List AE) (w : World) (hL : GtsOk w L a l) (hlc : l ≤ c) (hG : GrOk w N E na nl ea el) (hLB : StrsAt w LB la ll)
    (hX : gE N E nx = 0 → Pair2 (NdIn w) N XN ∧ Pair2 (EdIn w) E XE ∧ (∀ x ∈ XN, x.ok) ∧ (∀ x ∈ XE, x.ok)) :
    Calls Tryd.prog 12 #[.slice a l c, .string who, .agg #[.slice na nl nc, .slice ea el ec, .int .i64 nx], .agg #[.int .i64 k, .int .i64 id, .int .i64 frm, .int .i64 dst, .string nm, .int .i64 vk, .int .i64 vn, .string vs, .slice va vl vc, .slice la ll lc, .slice pa pl pc]] w fun e w' => e = .returned (.tuple #[.bool (if sgE L who (gE N E nx) = 0 then mayB (labsOf L who) (seenN (labsOf L who) XN) (seenE (seenN (labsOf L who) XN) XE) k id frm dst LB else false), .int .i64 (sgE L who (gE N E nx))]) ∧ Below w.heap.size w w' := by
  obtain ⟨er, her⟩ : ∃ er, er = sgE L who (gE N E nx) := ⟨_, rfl⟩
  rw [← her]
  obtain ⟨R, hR⟩ : ∃ R, R = (if er = 0 then mayB (labsOf L who) (seenN (labsOf L who) XN) (seenE (seenN (labsOf L who) XN) XE) k id frm dst LB else false) := ⟨_, rfl⟩
  rw [← hR]
  have HS : Hid (∀ W, Below w.heap.size w W → Calls Tryd.prog 18 #[.slice a l c, .string who, .agg #[.slice na nl nc, .slice ea el ec, .int .i64 nx]] W fun e w' => SgEnd w' L who a l c er e ∧ Below W.heap.size W w') := fun W k => by
    rw [her]
    exact sightOf_any L a l c who na nl nc ea el ec nx (gE N E nx) W (hL.below k) hlc (fun W' k' => check_ok (hG.below k) nc ec nx W' k')
  have hg0 : er = 0 → gE N E nx = 0 := fun h0 => by
    rw [her] at h0
    unfold sgE at h0
    split at h0
    · rename_i h; exact absurd h0 h
    · split at h0
      · rename_i h; exact absurd h0 h
      · rename_i h; exact Classical.not_not.1 h
  have HP : Hid (er = 0 → ∀ (i p q : Nat) (g : Gt) (W : World), Below w.heap.size w W → L[i]? = some g → L.find? (toW who) = some g → SightAt W L a l c i p q → Calls Tryd.prog 20 #[.func (.func 38) #[] #[.pointer (some ⟨p, 0, none⟩), .pointer (some ⟨q, 0, none⟩)], .agg #[.slice na nl nc, .slice ea el ec, .int .i64 nx]] W fun e w' => (∃ (FN : List Nd) (FE : List Ed) (fa : Option Addr) (fc : Nat) (ga : Option Addr) (gc : Nat), e = .returned (.agg #[.slice fa FN.length fc, .slice ga FE.length gc, .int .i64 nx]) ∧ (NodesAt w' FN fa FN.length ∧ EdgesAt w' FE ga FE.length) ∧ (FN.length ≤ 60 ∧ FE.length ≤ 60 ∧ Rise (FN.map Nd.id) ∧ Rise (FE.map Ed.id)) ∧ (∀ i, hasD FN i = hasA (seenN (labsOf L who) XN) i) ∧ ∀ i, hasDE FE i = hasAE (seenE (seenN (labsOf L who) XN) XE) i) ∧ Below W.heap.size W w') := by
    intro h0 i p q g W kk hi hf hs
    have r := gE_ok (hg0 h0)
    obtain ⟨hpN, hpE, _, _⟩ := hX (hg0 h0)
    have hG' := hG.below kk
    have hl : labsOf L who = g.labs := by rw [labsOf, hf]
    rw [hl]
    refine (part_any N E na nl nc ea el ec nx (fun x => seesN g.labs x.labs) p q W hG'.1 hG'.2.1 (by rw [hG'.1.1]; have := r.fewN; omega) (by rw [hG'.2.1.1]; have := r.fewE; omega) r.riseN (fun W' x k' hx => ?_)).mono fun e w' ⟨⟨na', nc', ea', ec', he, h1, h2⟩, kb⟩ => ⟨?_, kb⟩
    · exact sees_any L a l c i p q g x W' ((hL.below kk).below k') hi (hs.below k') ((hG'.2.2.1 x hx).1.below k')
    · obtain ⟨p1, p2⟩ := seen_pairs (G := g.labs) hpN hpE
      refine ⟨_, _, na', nc', ea', ec', he, ⟨row_nodes h1, row_edges h2 fun x hx => ?_⟩, ⟨Nat.le_trans (List.length_filter_le _ _) (by have := r.fewN; omega), Nat.le_trans (List.length_filter_le _ _) (by have := r.fewE; omega), rise_sub r.riseN List.filter_sublist, rise_sub r.riseE List.filter_sublist⟩, fun i => pair2_any _ _ p1 fun p x h => by rw [h.1], fun i => pair2_any _ _ p2 fun p x h => by rw [h.1]⟩
      obtain ⟨j, hj⟩ := List.getElem?_of_mem hx
      obtain ⟨y, _, hy⟩ := p2.left hj
      exact hy.2.2.2.2.1
  have HSEE : Hid (∀ (i p q : Nat) (g : Gt) (W : World), Below w.heap.size w W → L[i]? = some g → L.find? (toW who) = some g → SightAt W L a l c i p q → Calls Tryd.prog 38 #[.agg #[.int .i64 0, .slice la ll lc, .slice none 0 0], .pointer (some ⟨p, 0, none⟩), .pointer (some ⟨q, 0, none⟩)] W fun e w' => e = .returned (.bool (seesN (labsOf L who) LB)) ∧ Below W.heap.size W w') := fun i p q g W kk hi hf hs => by
    have hl : labsOf L who = g.labs := by rw [labsOf, hf]
    rw [hl]
    exact sees_any L a l c i p q g ⟨0, LB, la, ll, lc, [], none, 0, 0⟩ W (hL.below kk) hi hs (hLB.below kk)
  have HR := toHid hR
  clear hX hL hG her hR hg0
  generalize seenE (seenN (labsOf L who) XN) XE = YE at HP HR
  generalize seenN (labsOf L who) XN = YN at HP HR
  generalize labsOf L who = GL at HSEE HR
  have b0 : Below w.heap.size w ((w.alloc (.cells #[.slice na nl nc, .slice ea el ec, .int .i64 nx] 26)).alloc (.cells #[.int .i64 k, .int .i64 id, .int .i64 frm, .int .i64 dst, .string nm, .int .i64 vk, .int .i64 vn, .string vs, .slice va vl vc, .slice la ll lc, .slice pa pl pc] 42)) := ((Below.refl _ _).alloc (Nat.le_refl _) _).alloc (by simp) _
  have h0 : ((w.alloc (.cells #[.slice na nl nc, .slice ea el ec, .int .i64 nx] 26)).alloc (.cells #[.int .i64 k, .int .i64 id, .int .i64 frm, .int .i64 dst, .string nm, .int .i64 vk, .int .i64 vn, .string vs, .slice va vl vc, .slice la ll lc, .slice pa pl pc] 42)).heap[w.heap.size]? = some (.cells #[.slice na nl nc, .slice ea el ec, .int .i64 nx] 26 (0, 0)) := bk_alP (bk_newP rfl)
  have h1 : ((w.alloc (.cells #[.slice na nl nc, .slice ea el ec, .int .i64 nx] 26)).alloc (.cells #[.int .i64 k, .int .i64 id, .int .i64 frm, .int .i64 dst, .string nm, .int .i64 vk, .int .i64 vn, .string vs, .slice va vl vc, .slice la ll lc, .slice pa pl pc] 42)).heap[w.heap.size + 1]? = some (.cells #[.int .i64 k, .int .i64 id, .int .i64 frm, .int .i64 dst, .string nm, .int .i64 vk, .int .i64 vn, .string vs, .slice va vl vc, .slice la ll lc, .slice pa pl pc] 42 (0, 0)) := bk_newP (by simp)
  have HB := toHid b0
  have HG := toHid h0
  have HO := toHid h1
  clear b0 h0 h1
  go_enter Tryd.func12, Tryd.ntmps12
  go_upto_region 1 with fail
  generalize (w.alloc (.cells #[.slice na nl nc, .slice ea el ec, .int .i64 nx] 26)).alloc (.cells #[.int .i64 k, .int .i64 id, .int .i64 frm, .int .i64 dst, .string nm, .int .i64 vk, .int .i64 vn, .string vs, .slice va vl vc, .slice la ll lc, .slice pa pl pc] 42) = W at HB HG HO ⊢
  have x0 := cell_of HG.out 0
  have x1 := cell_of HG.out 1
  have x2 := cell_of HG.out 2
  simp at x0 x1 x2
  have hbl := lt_block HG.out
  go_wp2_with fail
  refine (HS.out _ HB.out).mono ?_
  rintro e w1 ⟨hsg, k1⟩
  have HB1 := toHid (HB.out.trans (k1.mono HB.out.size))
  have HG1 := toHid ((k1.block _ (lt_block HG.out)).trans HG.out)
  have HO1 := toHid ((k1.block _ (lt_block HO.out)).trans HO.out)
  clear k1 x0 x1 x2 hbl HG HO HB HS
  rcases hsg with ⟨h0, rfl⟩ | ⟨h0, i, p, q, g, hi, hf, rfl, hs⟩
  · have h0' : (er != 0) = true := by simp [h0]
    have H5 : Hid (R = false) := by rw [HR.out, if_neg h0]; exact toHid rfl
    clear HR
    go_wp2_with fail
    exact bodyPost_ret (v := .tuple #[.bool false, .int .i64 er]) (by simp [results, Tryd.results12, go_sem]) rfl ⟨by rw [H5.out], HB1.out⟩
  · subst h0
    have HR2 : Hid (R = mayB GL YN YE k id frm dst LB) := by rw [HR.out, if_pos rfl]; exact toHid rfl
    have HP1 := toHid (HP.out rfl i p q g w1 HB1.out hi hf hs)
    have HSG : Hid (∀ W, Below w1.heap.size w1 W → Calls Tryd.prog 38 #[.agg #[.int .i64 0, .slice la ll lc, .slice none 0 0], .pointer (some ⟨p, 0, none⟩), .pointer (some ⟨q, 0, none⟩)] W fun e w' => e = .returned (.bool (seesN GL LB)) ∧ Below W.heap.size W w') := fun W kk => HSEE.out i p q g W (HB1.out.trans (kk.mono HB1.out.size)) hi hf (hs.below kk)
    have x0 := cell_of HG1.out 0
    have x1 := cell_of HG1.out 1
    have x2 := cell_of HG1.out 2
    simp at x0 x1 x2
    have hbl := lt_block HG1.out
    clear HP HSEE hi hf hs HR
    go_wp2_with fail
    refine HP1.out.mono ?_
    rintro e w2 ⟨⟨FN, FE, fa, fc, ga, gc, rfl, ⟨hn, he⟩, ⟨hl1, hl2, hr1, hr2⟩, hh1, hh2⟩, k2⟩
    have HK2 := toHid k2
    have HB2 := toHid (HB1.out.trans (k2.mono HB1.out.size))
    have HO2 := toHid ((k2.block _ (lt_block HO1.out)).trans HO1.out)
    have HND := toHid (fun W (kk : Below w2.heap.size w2 W) i => (isNodeG_any FN fa FN.length fc ga FE.length gc nx i W (hn.below kk) hl1 hr1).mono fun e w' (h : e = .returned (.bool (hasD FN i)) ∧ Below W.heap.size W w') => (by rw [hh1] at h; exact h : e = .returned (.bool (hasA YN i)) ∧ Below W.heap.size W w'))
    have HED := toHid (fun W (kk : Below w2.heap.size w2 W) i => (isEdgeG_any FE fa FN.length fc ga FE.length gc nx i W (he.below kk) hl2 hr2).mono fun e w' (h : e = .returned (.bool (hasDE FE i)) ∧ Below W.heap.size W w') => (by rw [hh2] at h; exact h : e = .returned (.bool (hasAE YE i)) ∧ Below W.heap.size W w'))
    generalize FN.length = fl at HND HED ⊢
    generalize FE.length = gl at HND HED ⊢
    clear k2 x0 x1 x2 hbl HG1 HO1 HP1 hn he hl1 hl2 hr1 hr2 hh1 hh2
    have k3 : Below w2.heap.size w2 (w2.alloc (.cells #[.slice fa fl fc, .slice ga gl gc, .int .i64 nx] 26)) := (Below.refl _ _).alloc (Nat.le_refl _) _
    have h3 := alloc_new w2 (.cells #[.slice fa fl fc, .slice ga gl gc, .int .i64 nx] 26)
    have HK3 := toHid k3
    have HP3 := toHid h3
    have HO3 := toHid ((k3.block _ (lt_block HO2.out)).trans HO2.out)
    have HB3 := toHid (HB2.out.trans (k3.mono HB2.out.size))
    have HSG3 := toHid (HSG.out _ (HK2.out.trans (k3.mono HK2.out.size)))
    clear k3 h3 HO2 HB2 HSG HK2
    go_upto_region 5 with fail
    generalize w2.alloc (.cells #[.slice fa fl fc, .slice ga gl gc, .int .i64 nx] 26) = W3 at HK3 HP3 HO3 HB3 HSG3 ⊢
    generalize w2.heap.size = bp at HP3 ⊢
    have HC : Hid (∀ W', Below W3.heap.size W3 W' → (W'.cell? ⟨bp, 0, none⟩ = some (.slice fa fl fc) ∧ W'.cell? ⟨bp, 1, none⟩ = some (.slice ga gl gc) ∧ W'.cell? ⟨bp, 2, none⟩ = some (.int .i64 nx)) ∧ (W'.cell? ⟨w.heap.size + 1, 0, none⟩ = some (.int .i64 k) ∧ W'.cell? ⟨w.heap.size + 1, 1, none⟩ = some (.int .i64 id) ∧ W'.cell? ⟨w.heap.size + 1, 2, none⟩ = some (.int .i64 frm) ∧ W'.cell? ⟨w.heap.size + 1, 3, none⟩ = some (.int .i64 dst) ∧ W'.cell? ⟨w.heap.size + 1, 9, none⟩ = some (.slice la ll lc)) ∧ bp < W'.heap.size ∧ w.heap.size + 1 < W'.heap.size) := fun W' kk => by
      have q : ∀ o, W'.cell? ⟨bp, o, none⟩ = _ := fun o => (kk.cell (p := ⟨bp, o, none⟩) (lt_block HP3.out)).trans (cell_of HP3.out o)
      have q' : ∀ o, W'.cell? ⟨w.heap.size + 1, o, none⟩ = _ := fun o => (kk.cell (p := ⟨w.heap.size + 1, o, none⟩) (lt_block HO3.out)).trans (cell_of HO3.out o)
      exact ⟨⟨q 0, q 1, q 2⟩, ⟨q' 0, q' 1, q' 2, q' 3, q' 9⟩, Nat.lt_of_lt_of_le (lt_block HP3.out) kk.size, Nat.lt_of_lt_of_le (lt_block HO3.out) kk.size⟩
    have HND3 : Hid (∀ W', Below W3.heap.size W3 W' → ∀ i, Calls Tryd.prog 29 #[.agg #[.slice fa fl fc, .slice ga gl gc, .int .i64 nx], .int .i64 i] W' fun e w' => e = .returned (.bool (hasA YN i)) ∧ Below W'.heap.size W' w') := fun W' kk i => HND.out W' (HK3.out.trans (kk.mono HK3.out.size)) i
    have HED3 : Hid (∀ W', Below W3.heap.size W3 W' → ∀ i, Calls Tryd.prog 30 #[.agg #[.slice fa fl fc, .slice ga gl gc, .int .i64 nx], .int .i64 i] W' fun e w' => e = .returned (.bool (hasAE YE i)) ∧ Below W'.heap.size W' w') := fun W' kk i => HED.out W' (HK3.out.trans (kk.mono HK3.out.size)) i
    obtain ⟨⟨y0, y1, y2⟩, ⟨z0, z1, z2, z3, z9⟩, hb1, hb2⟩ := HC.out W3 (Below.refl _ _)
    have HOUT : Hid (∀ W', Below W3.heap.size W3 W' → Below w.heap.size w W') := fun W' kk => HB3.out.trans (kk.mono HB3.out.size)
    clear HND HED HK3 HP3 HO3 HB3 HB1
    by_cases hk1 : k = 1
    · subst hk1
      have H5 := toHid (HR2.out.trans (mayB_1 ..))
      clear HR2
      go_wp2_with fail
      refine (HSG3.out).mono ?_
      rintro e w4 ⟨rfl, k4⟩
      go_wp2_with fail
      exact bodyPost_ret (v := .tuple #[.bool R, .int .i64 0]) (by simp [results, Tryd.results12, go_sem, H5.out]) rfl ⟨rfl, HOUT.out _ k4⟩
    have hq1 : (k == 1) = false := by simp [hk1]
    clear HSG3
    by_cases hk2 : k = 2
    · subst hk2
      have H5 := toHid (HR2.out.trans (mayB_2 ..))
      clear HR2
      go_wp2_with fail
      refine (HND3.out W3 (Below.refl _ _) frm).mono ?_
      rintro e w4 ⟨rfl, k4⟩
      have HC2 := toHid (HND3.out w4 k4 dst)
      obtain ⟨⟨y0', y1', y2'⟩, ⟨z0', z1', z2', z3', z9'⟩, hb1', hb2'⟩ := HC.out w4 k4
      clear y0 y1 y2 z0 z1 z2 z3 z9 hb1 hb2
      generalize hasA YN frm = t1 at H5
      generalize hasA YN dst = t2 at H5 HC2
      cases t1 with
      | false =>
        go_wp2_with fail
        exact bodyPost_ret (v := .tuple #[.bool R, .int .i64 0]) (by simp [results, Tryd.results12, go_sem, H5.out]) rfl ⟨rfl, HOUT.out _ k4⟩
      | true =>
        go_wp2_with fail
        refine HC2.out.mono ?_
        rintro e w5 ⟨rfl, k5⟩
        go_wp2_with fail
        exact bodyPost_ret (v := .tuple #[.bool R, .int .i64 0]) (by simp [results, Tryd.results12, go_sem, H5.out]) rfl ⟨rfl, HOUT.out _ (k4.trans (k5.mono k4.size))⟩
    have hq2 : (k == 2) = false := by simp [hk2]
    by_cases hk3 : k = 3
    · subst hk3
      have H5 := toHid (HR2.out.trans (mayB_3 ..))
      clear HR2
      go_wp2_with fail
      refine (HND3.out W3 (Below.refl _ _) id).mono ?_
      rintro e w4 ⟨rfl, k4⟩
      go_wp2_with fail
      exact bodyPost_ret (v := .tuple #[.bool R, .int .i64 0]) (by simp [results, Tryd.results12, go_sem, H5.out]) rfl ⟨rfl, HOUT.out _ k4⟩
    have hq3 : (k == 3) = false := by simp [hk3]
    by_cases hk6 : k = 6
    · subst hk6
      have H5 := toHid (HR2.out.trans (mayB_6 ..))
      clear HR2
      go_wp2_with fail
      refine (HND3.out W3 (Below.refl _ _) id).mono ?_
      rintro e w4 ⟨rfl, k4⟩
      go_wp2_with fail
      exact bodyPost_ret (v := .tuple #[.bool R, .int .i64 0]) (by simp [results, Tryd.results12, go_sem, H5.out]) rfl ⟨rfl, HOUT.out _ k4⟩
    have hq6 : (k == 6) = false := by simp [hk6]
    by_cases hk7 : k = 7
    · subst hk7
      have H5 := toHid (HR2.out.trans (mayB_7 ..))
      clear HR2
      go_wp2_with fail
      refine (HND3.out W3 (Below.refl _ _) id).mono ?_
      rintro e w4 ⟨rfl, k4⟩
      go_wp2_with fail
      exact bodyPost_ret (v := .tuple #[.bool R, .int .i64 0]) (by simp [results, Tryd.results12, go_sem, H5.out]) rfl ⟨rfl, HOUT.out _ k4⟩
    have hq7 : (k == 7) = false := by simp [hk7]
    by_cases hk4 : k = 4
    · subst hk4
      have H5 := toHid (HR2.out.trans (mayB_4 ..))
      clear HR2
      go_wp2_with fail
      refine (HED3.out W3 (Below.refl _ _) id).mono ?_
      rintro e w4 ⟨rfl, k4⟩
      go_wp2_with fail
      exact bodyPost_ret (v := .tuple #[.bool R, .int .i64 0]) (by simp [results, Tryd.results12, go_sem, H5.out]) rfl ⟨rfl, HOUT.out _ k4⟩
    have hq4 : (k == 4) = false := by simp [hk4]
    by_cases hk5 : k = 5
    · subst hk5
      have H5 := toHid (HR2.out.trans (mayB_5 ..))
      clear HR2
      go_wp2_with fail
      refine (HND3.out W3 (Below.refl _ _) id).mono ?_
      rintro e w4 ⟨rfl, k4⟩
      have HC2 := toHid (HED3.out w4 k4 id)
      obtain ⟨⟨y0', y1', y2'⟩, ⟨z0', z1', z2', z3', z9'⟩, hb1', hb2'⟩ := HC.out w4 k4
      clear y0 y1 y2 z0 z1 z2 z3 z9 hb1 hb2
      generalize hasA YN id = t1 at H5
      generalize hasAE YE id = t2 at H5 HC2
      cases t1 with
      | true =>
        go_wp2_with fail
        exact bodyPost_ret (v := .tuple #[.bool R, .int .i64 0]) (by simp [results, Tryd.results12, go_sem, H5.out]) rfl ⟨rfl, HOUT.out _ k4⟩
      | false =>
        go_wp2_with fail
        refine HC2.out.mono ?_
        rintro e w5 ⟨rfl, k5⟩
        go_wp2_with fail
        exact bodyPost_ret (v := .tuple #[.bool R, .int .i64 0]) (by simp [results, Tryd.results12, go_sem, H5.out]) rfl ⟨rfl, HOUT.out _ (k4.trans (k5.mono k4.size))⟩
    have hq5 : (k == 5) = false := by simp [hk5]
    have H5 := toHid (HR2.out.trans (mayB_no hk1 hk2 hk3 hk4 hk5 hk6 hk7 ..))
    clear HR2
    go_wp2_with fail
    exact bodyPost_ret (v := .tuple #[.bool R, .int .i64 0]) (by simp [results, Tryd.results12, go_sem, H5.out]) rfl ⟨rfl, HOUT.out _ (Below.refl _ _)⟩

set_option linter.unusedSimpArgs false

theorem run_field0 (qa : Option Addr) (n qc : Nat) (ra : Option Addr) (rl rc : Nat) (z : Int) (w : World) : (Instr.field 26 (.agg #[.slice qa n qc, .slice ra rl rc, .int .i64 z]) 0).run Tryd.prog w = .ok (.slice qa n qc) w := by
  unfold Instr.field
  simp [underlying, Tryd.underlying26, asAgg, part, go_sem]

/-- A pointer that is one, or nil. -/
def PtrB : Bool → Ending → Prop
  | true, e => ∃ p, e = .returned (.pointer (some p))
  | false, e => e = .returned (.pointer none)

theorem nodeAt_ptr {w : World} {YN : List AN} {fa : Option Addr} {fl : Nat} (h : NsAt w YN fa fl) (fc : Nat) (ga : Option Addr) (gl gc : Nat) (nz i : Int) :
    Calls Tryd.prog 13 #[.agg #[.slice fa fl fc, .slice ga gl gc, .int .i64 nz], .int .i64 i] w fun e w' => PtrB (hasA YN i) e ∧ Below w.heap.size w w' := by
  obtain ⟨N, h1, h2⟩ := h
  refine (nodeAt_any N fa fl fc ga gl gc nz i w h1).mono fun e w' ⟨hk, kb⟩ => ⟨?_, kb⟩
  have hh : hasD N i = hasA YN i := pair2_any _ _ h2 fun p x h => by rw [h.1]
  rcases hk with ⟨hno, rfl⟩ | ⟨j, x, b, off, _, hx, hid, rfl⟩
  · have : hasA YN i = false := by
      rw [← hh]
      cases hd : hasD N i with
      | true => exact absurd (hasD_iff.1 hd) hno
      | false => rfl
    rw [this]
    rfl
  · have : hasA YN i = true := by
      rw [← hh]
      exact hasD_iff.2 (List.mem_map.2 ⟨x, List.mem_of_getElem? hx, hid⟩)
    rw [this]
    exact ⟨_, rfl⟩

theorem edgeAt_ptr {w : World} {YE : List AE} {ga : Option Addr} {gl : Nat} (h : EsAt w YE ga gl) (fa : Option Addr) (fl fc gc : Nat) (nz i : Int) :
    Calls Tryd.prog 14 #[.agg #[.slice fa fl fc, .slice ga gl gc, .int .i64 nz], .int .i64 i] w fun e w' => PtrB (hasAE YE i) e ∧ Below w.heap.size w w' := by
  obtain ⟨E, h1, h2⟩ := h
  refine (edgeAt_any E fa fl fc ga gl gc nz i w h1).mono fun e w' ⟨hk, kb⟩ => ⟨?_, kb⟩
  have hh : hasDE E i = hasAE YE i := pair2_any _ _ h2 fun p x h => by rw [h.1]
  rcases hk with ⟨hno, rfl⟩ | ⟨j, x, b, off, _, hx, hid, rfl⟩
  · have : hasAE YE i = false := by
      rw [← hh]
      cases hd : hasDE E i with
      | true => exact absurd (hasDE_iff.1 hd) hno
      | false => rfl
    rw [this]
    rfl
  · have : hasAE YE i = true := by
      rw [← hh]
      exact hasDE_iff.2 (List.mem_map.2 ⟨x, List.mem_of_getElem? hx, hid⟩)
    rw [this]
    exact ⟨_, rfl⟩

/-- What the law asks of an operation's own kind. -/
theorem seen_one {w : World} {G : List ByteArray} {ga : Option Addr} {gl gc : Nat} (hG : StrsAt w G ga gl) {LB : List ByteArray} {la : Option Addr} {ll lc : Nat} (hLB : StrsAt w LB la ll) {bn : Nat} (hb : w.heap[bn]? = some (.cells #[.int .i64 1, .slice la ll lc, .slice none 0 0] 51 (0, 0))) :
    Calls Tryd.prog 15 #[.slice ga gl gc, .agg #[.slice (some ⟨bn, 0, none⟩) 1 1, .slice none 0 0, .int .i64 0]] w fun e w' => (∃ (na : Option Addr) (nc : Nat) (qa : Option Addr) (ql qc : Nat), e = .returned (.agg #[.slice na (if seesN G LB = true then 1 else 0) nc, .slice qa ql qc, .int .i64 0])) ∧ Below w.heap.size w w' := by
  have hN : NodesAt w [⟨1, LB, la, ll, lc, [], none, 0, 0⟩] (some ⟨bn, 0, none⟩) 1 := ⟨rfl, by omega, fun _ => ⟨bn, 0, rfl, lt_block hb, fun i x hx => by
    match i, hx with
    | 0, hx =>
      simp at hx
      subst hx
      exact ⟨cell_of hb 0, cell_of hb 1, cell_of hb 2⟩
    | i + 1, hx => simp at hx⟩⟩
  have hl : ([(⟨1, LB, la, ll, lc, [], none, 0, 0⟩ : Nd)].filter (fun x => seesN G x.labs)).length = if seesN G LB = true then 1 else 0 := by
    by_cases hs : seesN G LB = true
    · simp [hs]
    · simp [hs]
  refine (seen_any [⟨1, LB, la, ll, lc, [], none, 0, 0⟩] [] (some ⟨bn, 0, none⟩) 1 1 none 0 0 0 G ga gl gc w hN ⟨rfl, by omega, fun h => absurd h (Nat.lt_irrefl _)⟩ (by omega) (by omega) (fun i j x y hij hx hy => ?_) hG (fun x hx => ?_)).mono ?_
  · match i, j, hij, hx, hy with
    | i, j + 1, _, _, hy => simp at hy
  · simp at hx
    subst hx
    exact hLB
  · rintro e w' ⟨⟨fa, fc, qa, qc, he, _, _⟩, kb⟩
    rw [hl] at he
    exact ⟨⟨fa, fc, _, _, _, he⟩, kb⟩

set_option maxHeartbeats 16000000 in
set_option maxRecDepth 100000 in
theorem law_may (L : List Gt) (a : Option Addr) (l c : Nat) (who : ByteArray) (N : List Nd) (E : List Ed) (na : Option Addr) (nl nc : Nat) (ea : Option Addr) (el ec : Nat) (nx : Int) (k id frm dst : Int) (nm : ByteArray) (vk vn : Int) (vs : ByteArray) (va : Option Addr) (vl vc : Nat) (LB : List ByteArray) (la : Option Addr) (ll lc : Nat) (pa : Option Addr) (pl pc : Nat) (w : World) (hL : GtsOk w L a l) (hlc : l ≤ c) (hG : GrOk w N E na nl ea el) (hLB : StrsAt w LB la ll) :
    Calls Tryd.prog 4 #[.slice a l c, .string who, .agg #[.slice na nl nc, .slice ea el ec, .int .i64 nx], .agg #[.int .i64 k, .int .i64 id, .int .i64 frm, .int .i64 dst, .string nm, .int .i64 vk, .int .i64 vn, .string vs, .slice va vl vc, .slice la ll lc, .slice pa pl pc]] w fun e w' => e = .returned (.bool true) ∧ Below w.heap.size w w' := by
  obtain ⟨XN, XE, hX⟩ := gr_plain (nx := nx) hG
  obtain ⟨er, her⟩ : ∃ er, er = sgE L who (gE N E nx) := ⟨_, rfl⟩
  obtain ⟨R, hR⟩ : ∃ R, R = (if er = 0 then mayB (labsOf L who) (seenN (labsOf L who) XN) (seenE (seenN (labsOf L who) XN) XE) k id frm dst LB else false) := ⟨_, rfl⟩
  obtain ⟨YN, hYN⟩ : ∃ YN, YN = if er = 0 then seenN (labsOf L who) XN else [] := ⟨_, rfl⟩
  obtain ⟨YE, hYE⟩ : ∃ YE, YE = if er = 0 then seenE (seenN (labsOf L who) XN) XE else [] := ⟨_, rfl⟩
  obtain ⟨nz, hnz⟩ : ∃ nz, nz = if er = 0 then nx else 0 := ⟨_, rfl⟩
  have hX2 : ∀ W, Below w.heap.size w W → gE N E nx = 0 → Pair2 (NdIn W) N XN ∧ Pair2 (EdIn W) E XE ∧ (∀ x ∈ XN, x.ok) ∧ (∀ x ∈ XE, x.ok) := fun W k h => by
    obtain ⟨p1, p2, p3, p4⟩ := hX h
    exact ⟨p1.mono fun p x _ _ h => h.below k, p2.mono fun p x _ _ h => h.below k, p3, p4⟩
  have HM : Hid (∀ W, Below w.heap.size w W → Calls Tryd.prog 12 #[.slice a l c, .string who, .agg #[.slice na nl nc, .slice ea el ec, .int .i64 nx], .agg #[.int .i64 k, .int .i64 id, .int .i64 frm, .int .i64 dst, .string nm, .int .i64 vk, .int .i64 vn, .string vs, .slice va vl vc, .slice la ll lc, .slice pa pl pc]] W fun e w' => e = .returned (.tuple #[.bool R, .int .i64 er]) ∧ Below W.heap.size W w') := fun W kk => by
    rw [hR, her]
    exact may_any L a l c who N E na nl nc ea el ec nx k id frm dst nm vk vn vs va vl vc LB la ll lc pa pl pc XN XE W (hL.below kk) hlc (hG.below kk) (hLB.below kk) (hX2 W kk)
  have HSB : Hid (∀ W, Below w.heap.size w W → Calls Tryd.prog 7 #[.slice a l c, .string who, .agg #[.slice na nl nc, .slice ea el ec, .int .i64 nx]] W fun e w' => (∃ na nc ea ec sa sl sc, e = .returned (.tuple #[.agg #[.slice na YN.length nc, .slice ea YE.length ec, .int .i64 nz], .slice sa sl sc, .int .i64 er]) ∧ NsAt w' YN na YN.length ∧ EsAt w' YE ea YE.length ∧ (er = 0 → StrsAt w' (labsOf L who) sa sl)) ∧ Below W.heap.size W w') := fun W kk => (seenBy_any L a l c who N E na nl nc ea el ec nx XN XE W (hL.below kk) hlc (hG.below kk) (hX2 W kk)).mono fun e w' ⟨h, kb⟩ => ⟨by
    rw [hYN, hYE, hnz]
    rw [← her] at h
    obtain ⟨q1, q2, q3, q4, q5, q6, q7, r1, r2, r3, r4⟩ := seenBy_out h
    refine ⟨q1, q2, q3, q4, q5, q6, q7, r1, r2, r3, fun h0 => ?_⟩
    obtain ⟨g, hg, e1, e2, _⟩ := r4 h0
    rw [labsOf, hg, e1, e2]
    exact ((hL.below kk).2 g (List.mem_of_find?_eq_some hg)).below kb, kb⟩
  have HR : Hid (er = 0 → R = mayB (labsOf L who) YN YE k id frm dst LB) := fun h0 => by rw [hR, hYN, hYE, if_pos h0, if_pos h0, if_pos h0]
  have HRN : Hid (er ≠ 0 → R = false) := fun h0 => by rw [hR, if_neg h0]
  have HLB := toHid hLB
  clear hX hX2 hL hG hYN hYE hnz her hR hLB
  generalize labsOf L who = GL at HSB HR
  have b0 : Below w.heap.size w ((w.alloc (.cells #[.slice na nl nc, .slice ea el ec, .int .i64 nx] 26)).alloc (.cells #[.int .i64 k, .int .i64 id, .int .i64 frm, .int .i64 dst, .string nm, .int .i64 vk, .int .i64 vn, .string vs, .slice va vl vc, .slice la ll lc, .slice pa pl pc] 42)) := ((Below.refl _ _).alloc (Nat.le_refl _) _).alloc (by simp) _
  have h0 : ((w.alloc (.cells #[.slice na nl nc, .slice ea el ec, .int .i64 nx] 26)).alloc (.cells #[.int .i64 k, .int .i64 id, .int .i64 frm, .int .i64 dst, .string nm, .int .i64 vk, .int .i64 vn, .string vs, .slice va vl vc, .slice la ll lc, .slice pa pl pc] 42)).heap[w.heap.size]? = some (.cells #[.slice na nl nc, .slice ea el ec, .int .i64 nx] 26 (0, 0)) := bk_alP (bk_newP rfl)
  have h1 : ((w.alloc (.cells #[.slice na nl nc, .slice ea el ec, .int .i64 nx] 26)).alloc (.cells #[.int .i64 k, .int .i64 id, .int .i64 frm, .int .i64 dst, .string nm, .int .i64 vk, .int .i64 vn, .string vs, .slice va vl vc, .slice la ll lc, .slice pa pl pc] 42)).heap[w.heap.size + 1]? = some (.cells #[.int .i64 k, .int .i64 id, .int .i64 frm, .int .i64 dst, .string nm, .int .i64 vk, .int .i64 vn, .string vs, .slice va vl vc, .slice la ll lc, .slice pa pl pc] 42 (0, 0)) := bk_newP (by simp)
  have HB := toHid b0
  have HG := toHid h0
  have HO := toHid h1
  clear b0 h0 h1
  go_enter Tryd.func4, Tryd.ntmps4
  go_upto_region 1 with fail
  generalize (w.alloc (.cells #[.slice na nl nc, .slice ea el ec, .int .i64 nx] 26)).alloc (.cells #[.int .i64 k, .int .i64 id, .int .i64 frm, .int .i64 dst, .string nm, .int .i64 vk, .int .i64 vn, .string vs, .slice va vl vc, .slice la ll lc, .slice pa pl pc] 42) = W at HB HG HO ⊢
  have x0 := cell_of HG.out 0
  have x1 := cell_of HG.out 1
  have x2 := cell_of HG.out 2
  simp at x0 x1 x2
  have o0 := cell_of HO.out 0
  have o1 := cell_of HO.out 1
  have o2 := cell_of HO.out 2
  have o3 := cell_of HO.out 3
  have o4 := cell_of HO.out 4
  have o5 := cell_of HO.out 5
  have o6 := cell_of HO.out 6
  have o7 := cell_of HO.out 7
  have o8 := cell_of HO.out 8
  have o9 := cell_of HO.out 9
  have o10 := cell_of HO.out 10
  simp at o0 o1 o2 o3 o4 o5 o6 o7 o8 o9 o10
  have hbl := lt_block HG.out
  have hbl2 := lt_block HO.out
  go_wp2_with fail
  refine (HM.out _ HB.out).mono ?_
  rintro e w1 ⟨rfl, k1⟩
  have HB1 := toHid (HB.out.trans (k1.mono HB.out.size))
  have HG1 := toHid ((k1.block _ (lt_block HG.out)).trans HG.out)
  have HO1 := toHid ((k1.block _ (lt_block HO.out)).trans HO.out)
  clear k1 x0 x1 x2 hbl hbl2 HG HO HB HM o0 o1 o2 o3 o4 o5 o6 o7 o8 o9 o10
  have x0 := cell_of HG1.out 0
  have x1 := cell_of HG1.out 1
  have x2 := cell_of HG1.out 2
  simp at x0 x1 x2
  have hbl := lt_block HG1.out
  go_wp2_with fail
  refine (HSB.out _ HB1.out).mono ?_
  rintro e w2 ⟨⟨fa, fc, ga, gc, sa, sl, sc, rfl, hn, he, hsl⟩, k2⟩
  have HB2 := toHid (HB1.out.trans (k2.mono HB1.out.size))
  have HO2 := toHid ((k2.block _ (lt_block HO1.out)).trans HO1.out)
  have HNS := toHid hn
  have HES := toHid he
  have HSL := toHid hsl
  clear k2 x0 x1 x2 hbl HG1 HO1 HB1 HSB hn he hsl
  generalize YN.length = fl at HNS ⊢
  generalize YE.length = gl at HES ⊢
  have k3 : Below w2.heap.size w2 (w2.alloc (.cells #[.slice fa fl fc, .slice ga gl gc, .int .i64 nz] 26)) := (Below.refl _ _).alloc (Nat.le_refl _) _
  have h3 := alloc_new w2 (.cells #[.slice fa fl fc, .slice ga gl gc, .int .i64 nz] 26)
  have HP3 := toHid h3
  have HO3 := toHid ((k3.block _ (lt_block HO2.out)).trans HO2.out)
  have HB3 := toHid (HB2.out.trans (k3.mono HB2.out.size))
  have HN3 := toHid (HNS.out.below k3)
  have HE3 := toHid (HES.out.below k3)
  have HS3 : Hid (er = 0 → StrsAt (w2.alloc (.cells #[.slice fa fl fc, .slice ga gl gc, .int .i64 nz] 26)) GL sa sl) := fun h0 => (HSL.out h0).below k3
  clear k3 h3 HO2 HB2 HNS HES HSL
  go_upto_region 3 with fail
  generalize w2.alloc (.cells #[.slice fa fl fc, .slice ga gl gc, .int .i64 nz] 26) = W3 at HP3 HO3 HB3 HN3 HE3 HS3 ⊢
  generalize w2.heap.size = bp at HP3 ⊢
  go_wp2_with fail
  refine (granted_true W3).mono ?_
  rintro e w4 ⟨rfl, k4⟩
  have HB4 := toHid (HB3.out.trans (k4.mono HB3.out.size))
  have HO4 := toHid ((k4.block _ (lt_block HO3.out)).trans HO3.out)
  have HP4 := toHid ((k4.block _ (lt_block HP3.out)).trans HP3.out)
  have HN4 := toHid (HN3.out.below k4)
  have HE4 := toHid (HE3.out.below k4)
  have HS4 : Hid (er = 0 → StrsAt w4 GL sa sl) := fun h0 => (HS3.out h0).below k4
  clear k4 HO3 HB3 HN3 HE3 HS3 HP3
  by_cases h0 : er = 0
  · subst h0
    have HRK := toHid (HR.out rfl)
    have HS5 := toHid (HS4.out rfl)
    clear HR HRN HS4
    go_upto_region 5 with fail
    have HC : Hid (∀ W', Below w4.heap.size w4 W' → (W'.cell? ⟨bp, 0, none⟩ = some (.slice fa fl fc) ∧ W'.cell? ⟨bp, 1, none⟩ = some (.slice ga gl gc) ∧ W'.cell? ⟨bp, 2, none⟩ = some (.int .i64 nz)) ∧ (W'.cell? ⟨w.heap.size + 1, 0, none⟩ = some (.int .i64 k) ∧ W'.cell? ⟨w.heap.size + 1, 1, none⟩ = some (.int .i64 id) ∧ W'.cell? ⟨w.heap.size + 1, 2, none⟩ = some (.int .i64 frm) ∧ W'.cell? ⟨w.heap.size + 1, 3, none⟩ = some (.int .i64 dst) ∧ W'.cell? ⟨w.heap.size + 1, 9, none⟩ = some (.slice la ll lc)) ∧ bp < W'.heap.size ∧ w.heap.size + 1 < W'.heap.size) := fun W' kk => by
      have q : ∀ o, W'.cell? ⟨bp, o, none⟩ = _ := fun o => (kk.cell (p := ⟨bp, o, none⟩) (lt_block HP4.out)).trans (cell_of HP4.out o)
      have q' : ∀ o, W'.cell? ⟨w.heap.size + 1, o, none⟩ = _ := fun o => (kk.cell (p := ⟨w.heap.size + 1, o, none⟩) (lt_block HO4.out)).trans (cell_of HO4.out o)
      exact ⟨⟨q 0, q 1, q 2⟩, ⟨q' 0, q' 1, q' 2, q' 3, q' 9⟩, Nat.lt_of_lt_of_le (lt_block HP4.out) kk.size, Nat.lt_of_lt_of_le (lt_block HO4.out) kk.size⟩
    have HND : Hid (∀ W', Below w4.heap.size w4 W' → ∀ i, Calls Tryd.prog 13 #[.agg #[.slice fa fl fc, .slice ga gl gc, .int .i64 nz], .int .i64 i] W' fun e w' => PtrB (hasA YN i) e ∧ Below W'.heap.size W' w') := fun W' kk i => nodeAt_ptr (HN4.out.below kk) fc ga gl gc nz i
    have HED : Hid (∀ W', Below w4.heap.size w4 W' → ∀ i, Calls Tryd.prog 14 #[.agg #[.slice fa fl fc, .slice ga gl gc, .int .i64 nz], .int .i64 i] W' fun e w' => PtrB (hasAE YE i) e ∧ Below W'.heap.size W' w') := fun W' kk i => edgeAt_ptr (HE4.out.below kk) fa fl fc gc nz i
    have HNI : Hid (∀ W', Below w4.heap.size w4 W' → Calls Tryd.prog 13 #[.agg #[.slice fa fl fc, .slice ga gl gc, .int .i64 nz], .int .i64 id] W' fun e w' => PtrB (hasA YN id) e ∧ Below W'.heap.size W' w') := fun W' kk => HND.out W' kk id
    have HEI : Hid (∀ W', Below w4.heap.size w4 W' → Calls Tryd.prog 14 #[.agg #[.slice fa fl fc, .slice ga gl gc, .int .i64 nz], .int .i64 id] W' fun e w' => PtrB (hasAE YE id) e ∧ Below W'.heap.size W' w') := fun W' kk => HED.out W' kk id
    obtain ⟨t1, ht1⟩ : ∃ t1, t1 = hasA YN id := ⟨_, rfl⟩
    obtain ⟨t2, ht2⟩ : ∃ t2, t2 = hasAE YE id := ⟨_, rfl⟩
    have HT1 := toHid ht1
    have HT2 := toHid ht2
    rw [← ht1] at HNI
    rw [← ht2] at HEI
    clear ht1 ht2 HED
    obtain ⟨⟨y0, y1, y2⟩, ⟨z0, z1, z2, z3, z9⟩, hb1, hb2⟩ := HC.out w4 (Below.refl _ _)
    have D0 : Below w4.heap.size w4 w4.drew := (Below.refl _ _).drew
    go_cut [14, 15] (fun s14 s15 wx => s14 = .bool t1 ∧ s15 = .bool t2 ∧ Below w4.heap.size w4 wx)
    case first =>
      cases t1 <;> cases t2 <;>
      (go_region_held3 (fun W' => (W'.cell? ⟨bp, 0, none⟩ = some (.slice fa fl fc) ∧ W'.cell? ⟨bp, 1, none⟩ = some (.slice ga gl gc) ∧ W'.cell? ⟨bp, 2, none⟩ = some (.int .i64 nz)) ∧ (W'.cell? ⟨w.heap.size + 1, 0, none⟩ = some (.int .i64 k) ∧ W'.cell? ⟨w.heap.size + 1, 1, none⟩ = some (.int .i64 id) ∧ W'.cell? ⟨w.heap.size + 1, 2, none⟩ = some (.int .i64 frm) ∧ W'.cell? ⟨w.heap.size + 1, 3, none⟩ = some (.int .i64 dst) ∧ W'.cell? ⟨w.heap.size + 1, 9, none⟩ = some (.slice la ll lc)) ∧ bp < W'.heap.size ∧ w.heap.size + 1 < W'.heap.size)
        (first
          | exact S2
          | exact S1
          | exact HC.out _ (Below.refl _ _)
          | exact HC.out _ D0
          | go_keep)
        (first
          | (go_at_call 14; refine (HEI.out _ k1).mono ?_; rintro e u2 ⟨hp2, h2⟩; first | (obtain ⟨p2, rfl⟩ := hp2; have k2 : Below w4.heap.size w4 u2 := k1.trans (h2.mono k1.size); have S2 := HC.out u2 k2) | (obtain rfl := hp2; have k2 : Below w4.heap.size w4 u2 := k1.trans (h2.mono k1.size); have S2 := HC.out u2 k2))
          | (go_at_call 13; refine (HNI.out _ D0).mono ?_; rintro e u1 ⟨hp1, h1⟩; first | (obtain ⟨p1, rfl⟩ := hp1; have k1 : Below w4.heap.size w4 u1 := D0.trans h1; have S1 := HC.out u1 k1) | (obtain rfl := hp1; have k1 : Below w4.heap.size w4 u1 := D0.trans h1; have S1 := HC.out u1 k1)))
       all_goals
        go_wp2_with fail
        go_meet
        exact ⟨rfl, rfl, k2⟩)
    case rest =>
      obtain ⟨rfl, rfl, kc⟩ := hcut
      obtain ⟨⟨y0, y1, y2⟩, ⟨z0, z1, z2, z3, z9⟩, hb1, hb2⟩ := HC.out wc kc
      have HOUT : Hid (∀ W', Below wc.heap.size wc W' → Below w.heap.size w W') := fun W' kk => HB4.out.trans ((kc.trans (kk.mono kc.size)).mono HB4.out.size)
      have HLBC : Hid (∀ W', Below wc.heap.size wc W' → StrsAt W' LB la ll ∧ StrsAt W' GL sa sl) := fun W' kk => ⟨HLB.out.below (HOUT.out W' kk), HS5.out.below (kc.trans (kk.mono kc.size))⟩
      have HNDC : Hid (∀ W', Below wc.heap.size wc W' → ∀ i, Calls Tryd.prog 13 #[.agg #[.slice fa fl fc, .slice ga gl gc, .int .i64 nz], .int .i64 i] W' fun e w' => PtrB (hasA YN i) e ∧ Below W'.heap.size W' w') := fun W' kk i => HND.out W' (kc.trans (kk.mono kc.size)) i
      have HCC : Hid (∀ W', Below wc.heap.size wc W' → (W'.cell? ⟨bp, 0, none⟩ = some (.slice fa fl fc) ∧ W'.cell? ⟨bp, 1, none⟩ = some (.slice ga gl gc) ∧ W'.cell? ⟨bp, 2, none⟩ = some (.int .i64 nz)) ∧ (W'.cell? ⟨w.heap.size + 1, 2, none⟩ = some (.int .i64 frm) ∧ W'.cell? ⟨w.heap.size + 1, 3, none⟩ = some (.int .i64 dst)) ∧ bp < W'.heap.size ∧ w.heap.size + 1 < W'.heap.size) := fun W' kk => by
        obtain ⟨q1, q2, q3, q4⟩ := HC.out W' (kc.trans (kk.mono kc.size))
        exact ⟨q1, ⟨q2.2.2.1, q2.2.2.2.1⟩, q3, q4⟩
      clear HC HND HNI HEI HB4 HO4 HP4 HN4 HE4 HS5 kc D0 HLB
      by_cases hk1 : k = 1
      · subst hk1
        have HRX := toHid (HRK.out.trans (mayB_1 ..))
        clear HRK HT1 HT2 HNDC
        have k5 : Below wc.heap.size wc (wc.alloc (.cells #[.int .i64 1, .slice la ll lc, .slice none 0 0] 51)) := (Below.refl _ _).alloc (Nat.le_refl _) _
        have h5 := alloc_new wc (.cells #[.int .i64 1, .slice la ll lc, .slice none 0 0] 51)
        have HC5 := toHid (seen_one (lc := lc) (gc := sc) (HLBC.out _ k5).2 (HLBC.out _ k5).1 h5)
        have HK5 := toHid k5
        clear k5 h5
        go_wp2_with fail
        refine HC5.out.mono ?_
        rintro e w6 ⟨⟨qa, qc, v1, v2, v3, rfl⟩, k6⟩
        have HB6 := toHid (HOUT.out _ (HK5.out.trans (k6.mono HK5.out.size)))
        clear k6 HC5 HK5
        obtain ⟨n1, hn1⟩ : ∃ n1 : Nat, n1 = if seesN GL LB = true then 1 else 0 := ⟨_, rfl⟩
        rw [← hn1]
        have hh : (n1 = 1 ∧ R = true) ∨ (n1 = 0 ∧ R = false) := by
          rw [hn1, HRX.out]
          by_cases hs : seesN GL LB = true
          · exact .inl ⟨if_pos hs, hs⟩
          · exact .inr ⟨if_neg hs, by simpa using hs⟩
        have hfi := run_field0 qa n1 qc v1 v2 v3 0 w6
        clear HRX hn1
        rcases hh with ⟨e1, e2⟩ | ⟨e1, e2⟩
        · subst e1 e2
          go_wp2_with fail
          go_ret
          exact ⟨rfl, HB6.out⟩
        · subst e1 e2
          go_wp2_with fail
          go_ret
          exact ⟨rfl, HB6.out⟩
      have hq1 : (k == 1) = false := by simp [hk1]
      clear HLBC
      by_cases hk2 : k = 2
      · subst hk2
        have HRX := toHid (HRK.out.trans (mayB_2 ..))
        have HC1 := toHid (HNDC.out wc (Below.refl _ _) frm)
        clear HRK HT1 HT2
        generalize hasA YN frm = t3 at HRX HC1
        go_wp2_with fail
        refine HC1.out.mono ?_
        rintro e w5 ⟨hp, k5⟩
        have HC2 := toHid (HNDC.out w5 k5 dst)
        obtain ⟨⟨y0', y1', y2'⟩, ⟨z2', z3'⟩, hb1', hb2'⟩ := HCC.out w5 k5
        clear y0 y1 y2 z0 z1 z2 z3 z9 hb1 hb2 HNDC HC1
        generalize hasA YN dst = t4 at HRX HC2
        cases t3 with
        | false =>
          obtain rfl := hp
          have H5 : R = false := HRX.out
          clear HRX
          subst H5
          go_wp2_with fail
          go_ret
          exact ⟨rfl, HOUT.out _ k5⟩
        | true =>
          obtain ⟨p1, rfl⟩ := hp
          have H5 : R = t4 := HRX.out
          clear HRX
          subst H5
          go_wp2_with fail
          refine HC2.out.mono ?_
          rintro e w6 ⟨hp, k6⟩
          cases R with
          | false =>
            obtain rfl := hp
            go_wp2_with fail
            go_ret
            exact ⟨rfl, HOUT.out _ (k5.trans (k6.mono k5.size))⟩
          | true =>
            obtain ⟨p2, rfl⟩ := hp
            go_wp2_with fail
            go_ret
            exact ⟨rfl, HOUT.out _ (k5.trans (k6.mono k5.size))⟩
      have hq2 : (k == 2) = false := by simp [hk2]
      clear HNDC HCC
      by_cases hk3 : k = 3
      · subst hk3
        have H5 : R = t1 := by rw [HRK.out, mayB_3, HT1.out]
        clear HRK HT1 HT2
        subst H5
        cases R <;>
        (go_wp2_with fail
         go_ret
         exact ⟨rfl, HOUT.out _ (Below.refl _ _)⟩)
      have hq3 : (k == 3) = false := by simp [hk3]
      by_cases hk6 : k = 6
      · subst hk6
        have H5 : R = t1 := by rw [HRK.out, mayB_6, HT1.out]
        clear HRK HT1 HT2
        subst H5
        cases R <;>
        (go_wp2_with fail
         go_ret
         exact ⟨rfl, HOUT.out _ (Below.refl _ _)⟩)
      have hq6 : (k == 6) = false := by simp [hk6]
      by_cases hk7 : k = 7
      · subst hk7
        have H5 : R = t1 := by rw [HRK.out, mayB_7, HT1.out]
        clear HRK HT1 HT2
        subst H5
        cases R <;>
        (go_wp2_with fail
         go_ret
         exact ⟨rfl, HOUT.out _ (Below.refl _ _)⟩)
      have hq7 : (k == 7) = false := by simp [hk7]
      by_cases hk4 : k = 4
      · subst hk4
        have H5 : R = t2 := by rw [HRK.out, mayB_4, HT2.out]
        clear HRK HT1 HT2
        subst H5
        cases R <;>
        (go_wp2_with fail
         go_ret
         exact ⟨rfl, HOUT.out _ (Below.refl _ _)⟩)
      have hq4 : (k == 4) = false := by simp [hk4]
      by_cases hk5 : k = 5
      · subst hk5
        have H5 : R = (t1 || t2) := by rw [HRK.out, mayB_5, HT1.out, HT2.out]
        clear HRK HT1 HT2
        subst H5
        cases t1 <;> cases t2 <;>
        (go_wp2_with fail
         go_ret
         exact ⟨rfl, HOUT.out _ (Below.refl _ _)⟩)
      have hq5 : (k == 5) = false := by simp [hk5]
      have H5 : R = false := HRK.out.trans (mayB_no hk1 hk2 hk3 hk4 hk5 hk6 hk7 ..)
      clear HRK HT1 HT2
      subst H5
      go_wp2_with fail
      go_ret
      exact ⟨rfl, HOUT.out _ (Below.refl _ _)⟩
  · have H5 : R = false := HRN.out h0
    have h0' : (er != 0) = true := by simp [h0]
    have h0e : (er == er) = true := by simp
    clear HR HRN HS4
    subst H5
    go_wp2_with fail
    refine (granted_true w4).mono ?_
    rintro e w5 ⟨rfl, k5⟩
    go_wp2_with fail
    go_ret
    exact ⟨rfl, HB4.out.trans (k5.mono HB4.out.size)⟩
end Go.Proofs.YthikpmngcbgbfaaDoor
