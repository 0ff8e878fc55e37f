/-
  What is proved here: what the texts GuWaits, GuRef prove, in one text.
-/
import Derived.Test.YtmjeanpjiogkiaaDoorQTAQ
import Derived.Test.YtmjeanpjiogkiaaDoorQTAS
import Derived.Test.YtmjeanpjiogkiaaDoorQTAO
import Derived.Test.YtmjeanpjiogkiaaDoorQTAP
namespace Go.Proofs.YtmjeanpjiogkiaaDoor
open Go.RowKit
set_option linter.unusedVariables false

set_option linter.unusedSimpArgs false

abbrev bagO (n : Int) : List Cn := [([numT 1], n)]

theorem fit_one (n : Int) (h0 : 0 < n) (h1 : n ≤ 10) : Fit (bagO n) := by
  refine ⟨by simp, ⟨List.pairwise_singleton _ _, fun c hc => ?_⟩, fun c hc => ?_, fun c hc => ?_⟩
  · rw [List.mem_singleton] at hc
    subst hc
    show n ≠ 0
    omega
  · rw [List.mem_singleton] at hc
    subst hc
    exact right_num 1 (by decide) (by decide)
  · rw [List.mem_singleton] at hc
    subst hc
    exact ⟨by show _ ≤ n; omega, by show n ≤ _; omega⟩

theorem fit_nil : Fit [] := ⟨by simp, ⟨List.Pairwise.nil, fun c hc => (by cases hc)⟩, fun c hc => (by cases hc), fun c hc => (by cases hc)⟩

theorem rb_nil {B : Nat} {w : World} (hB : B ≤ w.heap.size) (hT : Tabs B w) : RB w [] none 0 := rb_mk hB hT (F := []) fit_nil ⟨rfl, by omega, fun h => absurd h (Nat.lt_irrefl _)⟩ fun x hx => by cases hx

theorem rb_one {B : Nat} {w : World} (hB : B ≤ w.heap.size) (hT : Tabs B w) {b b1 : Nat} {n : Int} (h0 : 0 < n) (hn : n ≤ 10) (h1 : w.heap[b1]? = some (vObj 2 1 ⟨#[]⟩ none 0 0)) (h : w.heap[b]? = some (.cells #[.slice (some ⟨b1, 0, none⟩) 1 1, .int .i64 n] 55 (0, 0))) : RB w (bagO n) (some ⟨b, 0, none⟩) 1 := by
  refine rb_mk hB hT (F := [⟨n, some ⟨b1, 0, none⟩, 1, 1, [numT 1]⟩]) (fit_one n h0 hn) ⟨rfl, by omega, fun _ => ⟨b, 0, rfl, blkB_lt h, fun i x hx => ?_⟩⟩ fun x hx => ?_
  · match i, hx with
    | 0, hx => simp at hx; subst hx; exact ⟨cell_of h 0, cell_of h 1⟩
    | i + 1, hx => simp at hx
  · rw [List.mem_singleton] at hx
    subst hx
    exact ⟨lies_num h1, Nat.le_refl _⟩

/-- Nothing is told of a right guest. -/
theorem guE_right {v t : Int} {Q : List Qd} (hv : 0 ≤ v) (ht : 0 ≤ t) (h : ∀ q ∈ Q, q.z = 0 ∧ q.l ≠ 0) (hN : qN Q ≤ 40) (f : Bool) (hf : f = true → Q = []) : guE v t f Q = 0 := by
  have hE : ∀ Q : List Qd, (∀ q ∈ Q, q.z = 0 ∧ q.l ≠ 0) → qE Q = 0 := fun Q => by
    induction Q with
    | nil => intro _; rfl
    | cons q Q ih =>
      intro h
      have h1 := h q (List.mem_cons_self ..)
      unfold qE
      rw [if_neg (by rw [h1.1]; simp), if_neg h1.2]
      exact ih fun x hx => h x (List.mem_cons_of_mem _ hx)
  unfold guE
  rw [if_neg (by omega), if_neg (by rw [hE Q h]; simp), if_neg (by omega), if_neg]
  rintro ⟨h1, h2⟩
  rw [hf h1] at h2
  simp at h2

/-- A right queue, as it is asked of Tell and Take. -/
theorem GQ.guE {w : World} {XS : List (List Cn)} {a : Option Addr} {l : Nat} (h : GQ w XS a l) (hX : ∀ X ∈ XS, X.length ≠ 0) (hs : sumL XS ≤ 40) (v t : Int) (hv : 0 ≤ v) (ht : 0 ≤ t) (f : Bool) (hf : f = true → XS = []) : ∃ Q : List Qd, Q.map (·.X) = XS ∧ QIn w Q a l ∧ Go.Proofs.YtmjeanpjiogkiaaDoor.guE v t f Q = 0 := by
  obtain ⟨Q, h1, h2, h3⟩ := h
  have hl : ∀ q ∈ Q, q.l = q.X.length := fun q hq => ((h2.bags q hq).right (h3 q hq)).len
  refine ⟨Q, h1, h2, guE_right hv ht (fun q hq => ⟨h3 q hq, ?_⟩) ?_ f fun e => ?_⟩
  · rw [hl q hq]
    exact hX q.X (by rw [← h1]; exact List.mem_map.2 ⟨q, hq, rfl⟩)
  · rw [← sumL_of Q hl, h1]
    exact hs
  · have := hf e
    rw [← h1] at this
    exact List.map_eq_nil_iff.1 this

theorem tell_1 : tellF false [] (bagO 1) = (false, [bagO 1]) := by simp [tellF, sumL]
theorem tell_2 : tellF false [bagO 1] (bagO 1) = (false, [bagO 1, bagO 1]) := by simp [tellF, sumL]
theorem cnt_two (r : List T) : cnt [bagO 1, bagO 1].flatten r = cnt (bagO 2) r := by
  simp only [cnt, List.flatten_cons, List.flatten_nil, List.append_nil, List.cons_append, List.nil_append]
  split <;> rfl

set_option maxHeartbeats 8000000 in
set_option maxRecDepth 100000 in
theorem waits_true (B : Nat) (w : World) (hB : B ≤ w.heap.size) (hT : Tabs B w) : Calls Tryd.prog 8 #[] w fun e w' => e = .returned (.bool true) ∧ Below w.heap.size w w' := by
  have HTB := toHid hT
  clear hT
  go_enter Tryd.func8, Tryd.ntmps8
  go_wp2_with fail
  refine (numB_any 1 _).mono ?_
  rintro e w1 ⟨rfl, k1⟩
  have HK1 := toHid k1
  clear k1
  go_upto_region 2 with fail
  have a1 : Below w1.heap.size w1 ((w1.alloc (vObj 2 1 ⟨#[]⟩ none 0 0)).alloc (.cells #[.slice (some ⟨w1.heap.size, 0, none⟩) 1 1, .int .i64 1] 55)) := ((Below.refl _ _).alloc (Nat.le_refl _) _).alloc (by simp) _
  have r1 : ((w1.alloc (vObj 2 1 ⟨#[]⟩ none 0 0)).alloc (.cells #[.slice (some ⟨w1.heap.size, 0, none⟩) 1 1, .int .i64 1] 55)).heap[w1.heap.size]? = some (vObj 2 1 ⟨#[]⟩ none 0 0) := (Below.heap_alloc _ _ _ (by simp)).trans (alloc_new w1 _)
  have r2 := alloc_two w1 (vObj 2 1 ⟨#[]⟩ none 0 0) (.cells #[.slice (some ⟨w1.heap.size, 0, none⟩) 1 1, .int .i64 1] 55)
  have HK2 := toHid (HK1.out.trans (a1.mono HK1.out.size))
  generalize (w1.alloc (vObj 2 1 ⟨#[]⟩ none 0 0)).alloc (.cells #[.slice (some ⟨w1.heap.size, 0, none⟩) 1 1, .int .i64 1] 55) = W2 at HK2 r1 r2 ⊢
  have HONE := toHid (rb_one (Nat.le_trans hB HK2.out.size) (HTB.out.below (HK2.out.mono hB)) (by decide) (by decide) r1 r2)
  generalize w1.heap.size + 1 = b1 at HONE ⊢
  clear a1 r1 r2 HK1
  have HT1 := toHid (tell_any B 0 [] none 0 0 false 0 (bagO 1) 0 0 (some ⟨b1, 0, none⟩) 1 1 W2 (Nat.le_trans hB HK2.out.size) (HTB.out.below (HK2.out.mono hB)) ⟨⟨rfl, by omega, fun h => absurd h (Nat.lt_irrefl _)⟩, fun q hq => (by cases hq), by simp [qN]⟩ (HONE.out.bagZ 1) rfl)
  go_wp2_with fail
  refine HT1.out.mono ?_
  rintro e w3 ⟨hend, k3⟩
  have HK3 := toHid (HK2.out.trans (k3.mono HK2.out.size))
  have HONE3 := toHid (HONE.out.below k3)
  rcases hend with ⟨h0, _⟩ | ⟨_, a1, l1, c1, rfl, hq⟩
  · exact absurd rfl h0
  have e1 : tellF false (List.map (·.X) ([] : List Qd)) (bagO 1) = (false, [bagO 1]) := tell_1
  rw [e1] at hq ⊢
  have HG3 := toHid (QB.gq (Nat.le_trans hB HK3.out.size) (HTB.out.below (HK3.out.mono hB)) hq (by simp [sumL]))
  clear hq k3 e1 HT1 HONE
  go_upto_region 3 with fail
  have a4 : Below w3.heap.size w3 (w3.alloc (gObj 0 a1 l1 c1 false 0)) := (Below.refl _ _).alloc (Nat.le_refl _) _
  have h4 := alloc_new w3 (gObj 0 a1 l1 c1 false 0)
  have z4 : (w3.alloc (gObj 0 a1 l1 c1 false 0)).heap.size = w3.heap.size + 1 := by simp
  have HK4 := toHid (HK3.out.trans (a4.mono HK3.out.size))
  have HONE4 := toHid (HONE3.out.below a4)
  have HG4 := toHid (HG3.out.below a4)
  generalize w3.alloc (gObj 0 a1 l1 c1 false 0) = W4 at HK4 HONE4 HG4 h4 z4 ⊢
  generalize hbu : w3.heap.size = bu at h4 z4 ⊢
  have HBU : Hid (w.heap.size ≤ bu) := by rw [← hbu]; exact HK3.out.size
  obtain ⟨Q4, q1, q2, q3⟩ := HG4.out.guE (by simp) (by simp [sumL]) 0 0 (by decide) (by decide) false (fun h => by cases h)
  have ht2 := tell_any B 0 Q4 a1 l1 c1 false 0 (bagO 1) 0 0 (some ⟨b1, 0, none⟩) 1 1 W4 (Nat.le_trans hB HK4.out.size) (HTB.out.below (HK4.out.mono hB)) q2 (HONE4.out.bagZ 1) (by rw [q3]; rfl)
  rw [q1] at ht2
  have HT2 := toHid ht2
  have HBX := toHid h4
  have x0 := cell_of h4 0
  have x1 := cell_of h4 1
  have x2 := cell_of h4 2
  have x3 := cell_of h4 3
  simp at x0 x1 x2 x3
  have hlx := blkB_lt h4
  have HZ4 := toHid z4
  clear q1 q2 q3 ht2 a4 HG3 HONE3 HG4 h4 z4 hbu
  go_wp2_with fail
  refine HT2.out.mono ?_
  rintro e w5 ⟨hend, k5⟩
  rcases hend with ⟨h0, _⟩ | ⟨_, a2, l2, c2, rfl, hq⟩
  · exact absurd rfl h0
  rw [tell_2] at hq ⊢
  have hX5 := (k5.block bu hlx).trans HBX.out
  have HK5 := toHid (HK4.out.trans (k5.mono HK4.out.size))
  clear x0 x1 x2 x3 hlx HT2
  have x0 := cell_of hX5 0
  have x1 := cell_of hX5 1
  have x2 := cell_of hX5 2
  have x3 := cell_of hX5 3
  simp at x0 x1 x2 x3
  have f0 := free_of hX5 0
  have f1 := free_of hX5 1
  have f2 := free_of hX5 2
  have f3 := free_of hX5 3
  have hlx := blkB_lt hX5
  obtain ⟨X, hX⟩ : ∃ X, X = (((w5.setCell ⟨bu, 0, none⟩ (.int .i64 0)).setCell ⟨bu, 1, none⟩ (.slice a2 l2 c2)).setCell ⟨bu, 2, none⟩ (.bool false)).setCell ⟨bu, 3, none⟩ (.int .i64 0) := ⟨_, rfl⟩
  have hXp : X = putL w5 bu 0 [.int .i64 0, .slice a2 l2 c2, .bool false, .int .i64 0] := hX
  have hvX : X.heap[bu]? = some (gObj 0 a2 l2 c2 false 0) := by rw [hXp, putL_here _ _ _ _ hX5]; rfl
  have hcX : Below w.heap.size w X := by rw [hXp]; exact HK5.out.trans ((putL_bel _ _ _ _).mono HBU.out)
  have hqX : QB (fun i => W4.heap.size ≤ i) X [bagO 1, bagO 1] a2 l2 := by
    rw [hXp]
    exact hq.kept ⟨by rw [putL_size]; exact Nat.le_refl _, fun i hi _ => ⟨hi, putL_other _ _ _ _ i (by have h5 : W4.heap.size ≤ i := hi; have := HZ4.out; omega)⟩⟩
  have hXs := hX.symm
  have HVX := toHid hvX
  have HCX := toHid hcX
  have HGX := toHid (QB.gq (Nat.le_trans hB hcX.size) (HTB.out.below (hcX.mono hB)) hqX (by simp [sumL]))
  obtain ⟨Q5, q1, q2, q3⟩ := HGX.out.guE (by simp) (by simp [sumL]) 0 0 (by decide) (by decide) false (fun h => by cases h)
  have ht3 := take_any B 0 Q5 a2 l2 c2 false 0 [] 0 0 3 none 0 0 X (Nat.le_trans hB hcX.size) (HTB.out.below (hcX.mono hB)) q2 ((rb_nil (Nat.le_trans hB hcX.size) (HTB.out.below (hcX.mono hB))).bagZ 0) (by rw [q3]; rfl)
  rw [q1] at ht3
  have HT3 := toHid ht3
  have y0 := cell_of hvX 0
  have y1 := cell_of hvX 1
  have y2 := cell_of hvX 2
  have y3 := cell_of hvX 3
  simp at y0 y1 y2 y3
  have hly := blkB_lt hvX
  clear q1 q2 q3 ht3 hX hXp hvX hcX hqX hq k5 hX5
  go_wp2_with fail
  refine HT3.out.mono ?_
  rintro e w6 ⟨⟨v', t', sa, sl, sc, fr, ze, rfl, h1, h2, h3⟩, k6⟩
  have HK6 := toHid (HCX.out.trans (k6.mono HCX.out.size))
  have hz6 : ze = 0 ∧ RB w6 (bagO 2) sa sl := by
    rcases h1 with ⟨h, _⟩ | ⟨_, h, _⟩ | ⟨_, _, h, _⟩ | ⟨_, _, _, h⟩
    · exact absurd rfl h
    · omega
    · cases h
    · obtain ⟨Z, g1, g2, g3⟩ := h
      have hZ : Z = bagO 2 := bag_ext _ _ g1 (fit_one 2 (by decide) (by decide)).bag fun r => by rw [g2, cnt_two]
      subst hZ
      rcases g3 with ⟨_, g4, g5⟩ | ⟨g4, _⟩
      · exact ⟨g4, g5.rb (Nat.le_trans hB HK6.out.size) (HTB.out.below (HK6.out.mono hB))⟩
      · exact absurd (bagX_fit (fit_one 2 (by decide) (by decide))) g4
  obtain ⟨rfl, hrb⟩ := hz6
  obtain ⟨rfl, rfl, rfl⟩ := h3 rfl
  clear h1 h2 h3 k6 y0 y1 y2 y3 hly x0 x1 x2 x3 f0 f1 f2 f3 hlx hXs HT3
  go_upto_region 5 with fail
  have a7 : Below w6.heap.size w6 (w6.alloc (gObj 0 none 0 0 false 3)) := (Below.refl _ _).alloc (Nat.le_refl _) _
  have h7 := alloc_new w6 (gObj 0 none 0 0 false 3)
  have HK7 := toHid (HK6.out.trans (a7.mono HK6.out.size))
  have HRB7 := toHid (hrb.below a7)
  clear hrb
  generalize w6.alloc (gObj 0 none 0 0 false 3) = W7 at HK7 HRB7 h7 ⊢
  generalize w6.heap.size = bv at h7 ⊢
  have y3 := cell_of h7 3
  simp at y3
  have hly := blkB_lt h7
  clear a7 h7
  go_wp2_with fail
  refine (numB_any 1 _).mono ?_
  rintro e w8 ⟨rfl, k8⟩
  have a9 : Below w8.heap.size w8 ((w8.alloc (vObj 2 1 ⟨#[]⟩ none 0 0)).alloc (.cells #[.slice (some ⟨w8.heap.size, 0, none⟩) 1 1, .int .i64 2] 55)) := ((Below.refl _ _).alloc (Nat.le_refl _) _).alloc (by simp) _
  have r1 : ((w8.alloc (vObj 2 1 ⟨#[]⟩ none 0 0)).alloc (.cells #[.slice (some ⟨w8.heap.size, 0, none⟩) 1 1, .int .i64 2] 55)).heap[w8.heap.size]? = some (vObj 2 1 ⟨#[]⟩ none 0 0) := (Below.heap_alloc _ _ _ (by simp)).trans (alloc_new w8 _)
  have r2 := alloc_two w8 (vObj 2 1 ⟨#[]⟩ none 0 0) (.cells #[.slice (some ⟨w8.heap.size, 0, none⟩) 1 1, .int .i64 2] 55)
  have HK9 := toHid ((HK7.out.trans (k8.mono HK7.out.size)).trans (a9.mono (HK7.out.trans (k8.mono HK7.out.size)).size))
  have HSB := toHid (same_rb (c := sc) (c' := 1) ((HRB7.out.below k8).below a9) (rb_one (Nat.le_trans hB HK9.out.size) (HTB.out.below (HK9.out.mono hB)) (by decide) (by decide) r1 r2))
  clear k8 a9 r1 r2 y3 hly
  go_wp2_with fail
  refine HSB.out.mono ?_
  rintro e w10 ⟨rfl, k10⟩
  have HK10 := toHid (HK9.out.trans (k10.mono HK9.out.size))
  clear k10 HSB
  go_wp2_with fail
  go_ret
  exact ⟨rfl, HK10.out⟩

set_option linter.unusedSimpArgs false

set_option maxHeartbeats 4000000 in
set_option maxRecDepth 100000 in
theorem checkG_ref (v : Int) (Q : List Qd) (a : Option Addr) (l c : Nat) (f : Bool) (t : Int) (w : World) (hQ : QIn w Q a l) :
    Calls Tryd.prog 7 #[gV v a l c f t] w fun e w' => e = .returned (.int .i64 (guE v t f Q)) ∧ Below w.heap.size w w' := by
  have b0 : Below w.heap.size w (w.alloc (gObj v a l c f t)) := (Below.refl _ _).alloc (Nat.le_refl _) _
  have h0 := alloc_new w (gObj v a l c f t)
  have HQ := toHid (hQ.below b0)
  have hmx : l ≤ 2000000 := hQ.at'.2.1
  have HB0 := toHid b0
  have HL := toHid hQ.at'.1
  obtain ⟨R, hR⟩ : ∃ R, R = guE v t f Q := ⟨_, rfl⟩
  rw [← hR]
  unfold guE at hR
  clear hQ
  by_cases hv : v < 0
  · rw [if_pos (.inl hv)] at hR
    have HR := toHid hR
    clear hR
    go_enter Tryd.func7, Tryd.ntmps7
    go_upto_region 1 with fail
    generalize w.alloc (gObj v a l c f t) = W at HQ HB0 h0 b0 ⊢
    generalize w.heap.size = bx at h0 ⊢
    have x0 := cell_of h0 0
    have x3 := cell_of h0 3
    simp at x0 x3
    have hbl := blkB_lt h0
    clear h0 b0
    go_wp2_with fail
    go_ret
    exact ⟨ret_int HR.out.symm, HB0.out⟩
  by_cases ht : t < 0
  · rw [if_pos (.inr ht)] at hR
    have HR := toHid hR
    clear hR
    go_enter Tryd.func7, Tryd.ntmps7
    go_upto_region 1 with fail
    generalize w.alloc (gObj v a l c f t) = W at HQ HB0 h0 b0 ⊢
    generalize w.heap.size = bx at h0 ⊢
    have x0 := cell_of h0 0
    have x3 := cell_of h0 3
    simp at x0 x3
    have hbl := blkB_lt h0
    clear h0 b0
    go_wp2_with fail
    go_ret
    exact ⟨ret_int HR.out.symm, HB0.out⟩
  rw [if_neg (by omega)] at hR
  have HR : Hid (R = guT (qE (Q.drop 0)) f Q) := hR
  have hN0 : qN Q ≤ 2000000 := HQ.out.small
  clear hR
  go_enter Tryd.func7, Tryd.ntmps7
  go_upto_region 1 with fail
  generalize w.alloc (gObj v a l c f t) = W at HQ HB0 h0 b0 ⊢
  have HBX : Hid (w.heap.size ≤ W.heap.size) := HB0.out.size
  generalize w.heap.size = bx at h0 ⊢
  have x0 := cell_of h0 0
  have x1 := cell_of h0 1
  have x3 := cell_of h0 3
  simp at x0 x1 x3
  have hbl := blkB_lt h0
  have H0 := toHid h0
  clear h0 b0
  go_wp2_with fail
  go_loopg [3, 18] l (fun g s3 s18 wr => ∃ i : Nat, i ≤ l ∧ l - i ≤ g ∧ s3 = .int .i64 (qN (Q.take i) : Nat) ∧ s18 = .int .i64 i ∧ (∀ q ∈ Q.take i, q.l ≠ 0) ∧ R = guT (qE (Q.drop i)) f Q ∧ Below W.heap.size W wr)
  case atStart => exact ⟨0, Nat.zero_le _, by omega, rfl, rfl, fun q hq => (by simp at hq), HR.out, Below.refl _ _⟩
  case round =>
    clear HR x0 x1 x3
    obtain ⟨i, hi, hg, rfl, rfl, hnz, hre, hbw⟩ := hrel
    have HRE := toHid hre
    have HBW := toHid hbw
    have HNZ := toHid hnz
    clear hre hbw hnz
    by_cases hlt : i < l
    · have hil : (i : Int) < l := by omega
      obtain ⟨b, off, rfl, hb, hc⟩ := HQ.out.at'.2.2 (by omega)
      obtain ⟨q, hq, _⟩ := drop_get (L := Q) (i := i) (by have := HL.out; omega)
      have d0 := (HBW.out.cell (p := ⟨b, off + i, none⟩) hb).trans (hc i q hq)
      have hbw2 : b < wr.heap.size := Nat.lt_of_lt_of_le hb HBW.out.size
      have HC := toHid ((HQ.out.bags q (List.mem_of_getElem? hq)).ref wr HBW.out)
      have HE : Hid (R = guT (if q.z ≠ 0 then q.z else if q.l = 0 then 6 else qE (Q.drop (i + 1))) f Q) := by
        show _ = _
        rw [HRE.out, qE_drop hq]
      have HNX := toHid (qN_next hq)
      have hle2 : qN (Q.take i) + q.l ≤ 2000000 := by have := qN_take Q (i + 1); have := HNX.out; omega
      have HTK : Hid (Q.take (i + 1) = Q.take i ++ [q]) := by
        show _ = _
        rw [List.take_add_one, hq]
        rfl
      clear hc hq HRE
      generalize qN (Q.take i) = m at HNX hle2
      go_wp2_with fail
      refine HC.out.mono ?_
      rintro e w1 ⟨rfl, k1⟩
      have HB1 := toHid (HBW.out.trans (k1.mono HBW.out.size))
      clear k1 d0 hbw2 hb
      by_cases hz : q.z = 0
      · have hz' : (q.z != 0) = false := by simp [hz]
        rw [if_neg (by simp [hz])] at HE
        by_cases h0 : q.l = 0
        · rw [if_pos h0, guT_bad (by decide)] at HE
          have h0' : ((q.l : Int) == 0) = true := by simp [h0]
          have h0i : (q.l : Int) = 0 := by omega
          go_wp2_with fail
          go_ret
          exact ⟨ret_int HE.out.symm, HB0.out.trans (HB1.out.mono HBX.out)⟩
        · rw [if_neg h0] at HE
          have h0' : ((q.l : Int) == 0) = false := by simp [h0]
          have h0i : ¬ ((q.l : Int) = 0) := by omega
          have HZ := toHid h0
          go_wp2_with fail
          go_roundg (l - (i + 1))
          case measure => omega
          case rel =>
            refine ⟨i + 1, by omega, Nat.le_refl _, ?_, by go_num, fun y hy => ?_, HE.out, HB1.out⟩
            · rw [HNX.out]
              go_num
            · rw [HTK.out] at hy
              rcases List.mem_append.1 hy with hy | hy
              · exact HNZ.out y hy
              · rw [List.mem_singleton] at hy
                rw [hy]
                exact HZ.out
      · have hz' : (q.z != 0) = true := by simp [hz]
        rw [if_pos hz, guT_bad hz] at HE
        go_wp2_with fail
        go_ret
        exact ⟨ret_int HE.out.symm, HB0.out.trans (HB1.out.mono HBX.out)⟩
    · have he : i = l := by omega
      subst he
      have hT : Q.take i = Q := List.take_of_length_le (by have := HL.out; omega)
      have hpos := qN_pos Q (by have h := HNZ.out; rw [hT] at h; exact h)
      have HE : Hid (R = if 40 < qN Q then 2 else if f = true ∧ 0 < qN Q then 6 else 0) := by
        show _ = _
        rw [HRE.out, List.drop_eq_nil_of_le (by have := HL.out; omega)]
        show (if 40 < qN Q then _ else if _ ∧ 0 < Q.length then _ else _) = _
        have e : (f = true ∧ 0 < Q.length) = (f = true ∧ 0 < qN Q) := propext ⟨fun h => ⟨h.1, hpos.2 h.2⟩, fun h => ⟨h.1, hpos.1 h.2⟩⟩
        simp only [e]
      rw [hT]
      have HW := toHid ((HBW.out.block bx hbl).trans H0.out)
      have x2 := cell_of HW.out 2
      simp at x2
      have hbl2 := blkB_lt HW.out
      have HB1 := toHid (HB0.out.trans (HBW.out.mono HBX.out))
      clear HRE hpos hT HNZ
      generalize qN Q = N at HE hN0
      by_cases hn : 40 < N
      · rw [if_pos hn] at HE
        have hn' : (40 : Int) < (N : Int) := by omega
        go_wp2_with fail
        go_ret
        exact ⟨ret_int HE.out.symm, HB1.out⟩
      · rw [if_neg hn] at HE
        have hn' : ¬ ((40 : Int) < (N : Int)) := by omega
        cases f with
        | false =>
          rw [if_neg (by simp)] at HE
          go_wp2_with fail
          go_ret
          exact ⟨ret_int HE.out.symm, HB1.out⟩
        | true =>
          by_cases h0 : 0 < N
          · rw [if_pos ⟨rfl, h0⟩] at HE
            have h0' : (0 : Int) < (N : Int) := by omega
            go_wp2_with fail
            go_ret
            exact ⟨ret_int HE.out.symm, HB1.out⟩
          · rw [if_neg (by omega)] at HE
            have h0' : ¬ ((0 : Int) < (N : Int)) := by omega
            go_wp2_with fail
            go_ret
            exact ⟨ret_int HE.out.symm, HB1.out⟩
end Go.Proofs.YtmjeanpjiogkiaaDoor
