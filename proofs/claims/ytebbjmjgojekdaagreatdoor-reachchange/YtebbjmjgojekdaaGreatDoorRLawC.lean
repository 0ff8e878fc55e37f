/-
  What is proved here: the law ReachChange answers true of any two graphs that lie in memory, and any text; what was there is as it was.
-/
import Derived.Test.YtebbjmjgojekdaaGreatDoorRLawA
import Derived.Test.YtebbjmjgojekdaaGreatDoorQRAS
import Derived.Deep.RegionHeld3
import Derived.Deep.CutBlock
namespace Go.Proofs.YtebbjmjgojekdaaGreatDoor
open Go.RowKit
set_option linter.unusedVariables false
set_option linter.unusedSimpArgs false

theorem less_facts {N : List Nd} {E : List Ed} {nx : Int} {M : List Nd} {F : List Ed} {mx : Int} (h1 : gE N E nx = 0) (h2 : gE M F mx = 0) (kind : ByteArray) : sortP (lessP (reachedF E (N.map (·.id)) kind) (reachedF F (M.map (·.id)) kind)) = lessP (allF N E kind) (allF M F kind) ∧ (lessP (reachedF E (N.map (·.id)) kind) (reachedF F (M.map (·.id)) kind)).length = (lessP (allF N E kind) (allF M F kind)).length ∧ (lessP (allF N E kind) (allF M F kind)).length ≤ 1000000 := by
  obtain ⟨hn, he⟩ := right_ids h1
  obtain ⟨hn', he'⟩ := right_ids h2
  have e := less_reached (N := N) (E := E) (M := M) (F := F) kind hn he hn' he' (L := sortP (lessP (reachedF E (N.map (·.id)) kind) (reachedF F (M.map (·.id)) kind))) ((List.mergeSort_perm _ _).nodup_iff.2 (List.Pairwise.filter _ (nodup_reached _ _ _))) (fun p => by
    unfold sortP
    rw [(List.mergeSort_perm _ _).mem_iff]
    unfold lessP
    rw [List.mem_filter]
    simp) ((sortP_rises _).imp fun h => by simpa using h)
  refine ⟨e, by rw [← e, len_sortP], Nat.le_trans (List.length_filter_le _ _) (reached_facts h1 kind).2.2.1⟩

/-- What the two calls of Reached leave. -/
def TwoM (X : World) (K J : List (Int × Int)) (s t : Value) (wx : World) : Prop := ∃ r q, s = .map (some r) ∧ t = .map (some q) ∧ MapB wx r K ∧ MapB wx q J ∧ Below X.heap.size X wx

theorem twoM_ab {X U V : World} {K J : List (Int × Int)} {r q : Nat} (k0 : Below X.heap.size X U) (h1 : MapB U r K) (k : Below U.heap.size U V) (h2 : MapB V q J) : TwoM X K J (.map (some r)) (.map (some q)) V := ⟨r, q, rfl, rfl, h1.of (k.block _ h1.lt), h2, below2 k0 k⟩

theorem twoM_ba {X U V : World} {K J : List (Int × Int)} {r q : Nat} (k0 : Below X.heap.size X U) (h2 : MapB U q J) (k : Below U.heap.size U V) (h1 : MapB V r K) : TwoM X K J (.map (some r)) (.map (some q)) V := ⟨r, q, rfl, rfl, h1, h2.of (k.block _ h2.lt), below2 k0 k⟩

set_option maxHeartbeats 8000000 in
set_option maxRecDepth 100000 in
theorem law_changeR (N : List Nd) (E : List Ed) (na : Option Addr) (nl nc : Nat) (ea : Option Addr) (el ec : Nat) (nx : Int) (M : List Nd) (F : List Ed) (ma : Option Addr) (ml mc : Nat) (fa : Option Addr) (fl fc : Nat) (mx : Int) (kind : ByteArray) (w : World) (h : GrOk w N E na nl ea el) (h' : GrOk w M F ma ml fa fl) :
    Calls Tryz.prog 5 #[.agg #[.slice na nl nc, .slice ea el ec, .int .i64 nx], .agg #[.slice ma ml mc, .slice fa fl fc, .int .i64 mx], .string kind] w fun e w' => e = .returned (.bool true) ∧ Below w.heap.size w w' := by
  obtain ⟨er, her⟩ : ∃ z, z = if gE N E nx = 0 then gE M F mx else gE N E nx := ⟨_, rfl⟩
  have HC1 := toHid fun (X : World) (kx : Below w.heap.size w X) => change_full h nx h' mx nc ec mc fc kind X kx er her
  have HK1 : Hid (∀ X, Below w.heap.size w X → Calls Tryz.prog 8 #[.agg #[.slice na nl nc, .slice ea el ec, .int .i64 nx]] X fun e w' => e = .returned (.int .i64 (gE N E nx)) ∧ Below X.heap.size X w') := fun X kx => checkGraph_ok h nc ec nx X kx
  have HK2 : Hid (∀ X, Below w.heap.size w X → Calls Tryz.prog 8 #[.agg #[.slice ma ml mc, .slice fa fl fc, .int .i64 mx]] X fun e w' => e = .returned (.int .i64 (gE M F mx)) ∧ Below X.heap.size X w') := fun X kx => checkGraph_ok h' mc fc mx X kx
  have HZ : Hid (er = 0 → gE N E nx = 0 ∧ gE M F mx = 0) := fun e0 => by
    by_cases h0 : gE N E nx = 0
    · rw [if_pos h0] at her; exact ⟨h0, her.symm.trans e0⟩
    · rw [if_neg h0] at her; exact absurd (her.symm.trans e0) h0
  have HF : Hid (er = 0 → ((reachedF E (N.map (·.id)) kind).length ≤ 1000000 ∧ (reachedF F (M.map (·.id)) kind).length ≤ 1000000) ∧ (sortP (lessP (reachedF E (N.map (·.id)) kind) (reachedF F (M.map (·.id)) kind)) = lessP (allF N E kind) (allF M F kind) ∧ (lessP (reachedF E (N.map (·.id)) kind) (reachedF F (M.map (·.id)) kind)).length = (lessP (allF N E kind) (allF M F kind)).length ∧ (lessP (allF N E kind) (allF M F kind)).length ≤ 1000000) ∧ (sortP (lessP (reachedF F (M.map (·.id)) kind) (reachedF E (N.map (·.id)) kind)) = lessP (allF M F kind) (allF N E kind) ∧ (lessP (reachedF F (M.map (·.id)) kind) (reachedF E (N.map (·.id)) kind)).length = (lessP (allF M F kind) (allF N E kind)).length ∧ (lessP (allF M F kind) (allF N E kind)).length ≤ 1000000)) := fun e0 => by
    obtain ⟨g1, g2⟩ := HZ.out e0
    exact ⟨⟨(reached_facts g1 kind).1, (reached_facts g2 kind).1⟩, less_facts g1 g2 kind, less_facts g2 g1 kind⟩
  have HRa : Hid (er = 0 → ∀ X, Below w.heap.size w X → Calls Tryz.prog 12 #[.agg #[.slice na nl nc, .slice ea el ec, .int .i64 nx], .string kind] X fun e w' => e = .returned (.map (some (X.heap.size + 1))) ∧ MapB w' (X.heap.size + 1) (reachedF E (N.map (·.id)) kind) ∧ Below X.heap.size X w') := fun e0 X kx => by
    have hX := h.below kx
    have hf := few_of h (HZ.out e0).1
    exact reached_any N E na nl nc ea el ec nx kind X hX.1 hX.2.1 hf.2 (by omega)
  have HRb : Hid (er = 0 → ∀ X, Below w.heap.size w X → Calls Tryz.prog 12 #[.agg #[.slice ma ml mc, .slice fa fl fc, .int .i64 mx], .string kind] X fun e w' => e = .returned (.map (some (X.heap.size + 1))) ∧ MapB w' (X.heap.size + 1) (reachedF F (M.map (·.id)) kind) ∧ Below X.heap.size X w') := fun e0 X kx => by
    have hX := h'.below kx
    have hf := few_of h' (HZ.out e0).2
    exact reached_any M F ma ml mc fa fl fc mx kind X hX.1 hX.2.1 hf.2 (by omega)
  generalize reachedF E (N.map (·.id)) kind = K at HF HRa
  generalize reachedF F (M.map (·.id)) kind = J at HF HRb
  generalize lessP (allF N E kind) (allF M F kind) = A at HF HC1
  generalize lessP (allF M F kind) (allF N E kind) = B at HF HC1
  obtain ⟨e1, he1⟩ : ∃ z, z = gE N E nx := ⟨_, rfl⟩
  obtain ⟨e2, he2⟩ : ∃ z, z = gE M F mx := ⟨_, rfl⟩
  rw [← he1] at her HK1
  rw [← he2] at her HK2
  clear HZ he1 he2 h h'
  have hb0 : Below w.heap.size w ((w.alloc (.cells #[.slice na nl nc, .slice ea el ec, .int .i64 nx] 25)).alloc (.cells #[.slice ma ml mc, .slice fa fl fc, .int .i64 mx] 25)) := ((Below.refl _ _).alloc (Nat.le_refl _) _).alloc (by simp) _
  have HB := toHid hb0
  have HG1 : Hid (((w.alloc (.cells #[.slice na nl nc, .slice ea el ec, .int .i64 nx] 25)).alloc (.cells #[.slice ma ml mc, .slice fa fl fc, .int .i64 mx] 25)).heap[w.heap.size]? = some (.cells #[.slice na nl nc, .slice ea el ec, .int .i64 nx] 25 (0, 0))) := (Below.heap_alloc _ _ _ (by simp)).trans (alloc_new w _)
  have HG2 := toHid (alloc_two w (.cells #[.slice na nl nc, .slice ea el ec, .int .i64 nx] 25) (.cells #[.slice ma ml mc, .slice fa fl fc, .int .i64 mx] 25))
  clear hb0
  have HER := toHid her
  clear her
  go_enter Tryz.func5, Tryz.ntmps5
  go_upto_region 1 with fail
  generalize (w.alloc (.cells #[.slice na nl nc, .slice ea el ec, .int .i64 nx] 25)).alloc (.cells #[.slice ma ml mc, .slice fa fl fc, .int .i64 mx] 25) = X at HB HG1 HG2 ⊢
  have HS : Hid (∀ W' : World, Below X.heap.size X W' → (W'.cell? ⟨w.heap.size, 0, none⟩ = some (.slice na nl nc) ∧ W'.cell? ⟨w.heap.size, 1, none⟩ = some (.slice ea el ec) ∧ W'.cell? ⟨w.heap.size, 2, none⟩ = some (.int .i64 nx) ∧ W'.cell? ⟨w.heap.size + 1, 0, none⟩ = some (.slice ma ml mc) ∧ W'.cell? ⟨w.heap.size + 1, 1, none⟩ = some (.slice fa fl fc) ∧ W'.cell? ⟨w.heap.size + 1, 2, none⟩ = some (.int .i64 mx)) ∧ w.heap.size + 1 < W'.heap.size) := by
    intro W' k
    have q1 := (k.block _ (blk_lt HG1.out)).trans HG1.out
    have q2 := (k.block _ (blk_lt HG2.out)).trans HG2.out
    exact ⟨⟨cell_of q1 0, cell_of q1 1, cell_of q1 2, cell_of q2 0, cell_of q2 1, cell_of q2 2⟩, blk_lt q2⟩
  obtain ⟨⟨x0, x1, x2, x3, x4, x5⟩, hl⟩ := HS.out X (Below.refl _ _)
  go_wp2_with fail
  refine (HC1.out X HB.out).mono ?_
  rintro e w1 ⟨a1, l1, c1, a2, l2, c2, rfl, hn1, hr1, k1⟩
  have HN1 := toHid hn1
  have HR1 := toHid hr1
  have HX1 := toHid k1
  have HB1 := toHid (below2 HB.out k1)
  clear x0 x1 x2 x3 x4 x5 hl hn1 hr1 k1
  obtain ⟨⟨x0, x1, x2, x3, x4, x5⟩, hl⟩ := HS.out w1 HX1.out
  go_wp2_with fail
  refine (HK1.out w1 HB1.out).mono ?_
  rintro e w2 ⟨rfl, k2⟩
  have HX2 := toHid (below2 HX1.out k2)
  have HB2 := toHid (below2 HB1.out k2)
  have HK12 := toHid k2
  clear x0 x1 x2 x3 x4 x5 hl k2
  obtain ⟨⟨x0, x1, x2, x3, x4, x5⟩, hl⟩ := HS.out w2 HX2.out
  by_cases h0 : e1 = 0
  case neg =>
    have hz : (e1 == 0) = false := by simp [h0]
    have hz1 : (e1 != 0) = true := by simp [h0]
    have hz2 : (e1 == e1) = true := by simp
    obtain rfl : er = e1 := by
      have q := HER.out
      simp [h0] at q
      exact q
    obtain ⟨rfl, rfl⟩ := HN1.out h0
    clear h0 HER HC1
    go_wp2_with fail
    refine (reached_true _).mono ?_
    rintro e w7 ⟨rfl, k7⟩
    have HB7 := toHid (below2 HB2.out k7)
    clear k7
    go_wp2_with fail
    refine (reached_true _).mono ?_
    rintro e w8 ⟨rfl, k8⟩
    have HB8 := toHid (below2 HB7.out k8)
    clear k8
    go_wp2_with fail
    go_ret
    exact ⟨rfl, HB8.out⟩
  subst h0
  go_wp2_with fail
  refine (HK2.out w2 HB2.out).mono ?_
  rintro e w3 ⟨rfl, k3⟩
  have HX3 := toHid (below2 HX2.out k3)
  have HB3 := toHid (below2 HB2.out k3)
  have HK13 := toHid (below2 HK12.out k3)
  clear x0 x1 x2 x3 x4 x5 hl k3
  by_cases h0 : e2 = 0
  case neg =>
    have hz1 : (e2 != 0) = true := by simp [h0]
    have hz2 : (e2 == e2) = true := by simp
    obtain rfl : er = e2 := by
      have q := HER.out
      simp at q
      exact q
    obtain ⟨rfl, rfl⟩ := HN1.out h0
    clear h0 HER HC1
    go_wp2_with fail
    refine (reached_true _).mono ?_
    rintro e w7 ⟨rfl, k7⟩
    have HB7 := toHid (below2 HB3.out k7)
    clear k7
    go_wp2_with fail
    refine (reached_true _).mono ?_
    rintro e w8 ⟨rfl, k8⟩
    have HB8 := toHid (below2 HB7.out k8)
    clear k8
    go_wp2_with fail
    go_ret
    exact ⟨rfl, HB8.out⟩
  subst h0
  obtain rfl : er = 0 := by
    have q := HER.out
    simp at q
    exact q
  have HRA := toHid (HRa.out rfl)
  have HRB := toHid (HRb.out rfl)
  have HFF := toHid (HF.out rfl)
  have HQ1 := toHid (HR1.out rfl)
  clear HRa HRb HF HR1 HN1 HER HC1 HK1 HK2
  go_wp2_with fail
  refine (reached_true _).mono ?_
  rintro e w4 ⟨rfl, k4⟩
  have HX4 := toHid (below2 HX3.out k4)
  have HB4 := toHid (below2 HB3.out k4)
  have HK14 := toHid (below2 HK13.out k4)
  clear k4
  go_upto_region 7 with fail
  have D0 : Below w4.heap.size w4 w4.drew := (Below.refl _ _).drew
  have HSW : Hid (∀ W' : World, Below w4.heap.size w4 W' → (W'.cell? ⟨w.heap.size, 0, none⟩ = some (.slice na nl nc) ∧ W'.cell? ⟨w.heap.size, 1, none⟩ = some (.slice ea el ec) ∧ W'.cell? ⟨w.heap.size, 2, none⟩ = some (.int .i64 nx) ∧ W'.cell? ⟨w.heap.size + 1, 0, none⟩ = some (.slice ma ml mc) ∧ W'.cell? ⟨w.heap.size + 1, 1, none⟩ = some (.slice fa fl fc) ∧ W'.cell? ⟨w.heap.size + 1, 2, none⟩ = some (.int .i64 mx))) := fun W' k => (HS.out W' (below2 HX4.out k)).1
  have HAW : Hid (∀ W, Below w4.heap.size w4 W → Calls Tryz.prog 12 #[.agg #[.slice na nl nc, .slice ea el ec, .int .i64 nx], .string kind] W fun e w' => e = .returned (.map (some (W.heap.size + 1))) ∧ MapB w' (W.heap.size + 1) K ∧ Below W.heap.size W w') := fun W k => HRA.out W (below2 HB4.out k)
  have HBW : Hid (∀ W, Below w4.heap.size w4 W → Calls Tryz.prog 12 #[.agg #[.slice ma ml mc, .slice fa fl fc, .int .i64 mx], .string kind] W fun e w' => e = .returned (.map (some (W.heap.size + 1))) ∧ MapB w' (W.heap.size + 1) J ∧ Below W.heap.size W w') := fun W k => HRB.out W (below2 HB4.out k)
  obtain ⟨⟨x0, x1, x2, x3, x4, x5⟩, hl⟩ := HS.out w4 HX4.out
  have hl' : w.heap.size < w4.heap.size := by omega
  go_cut [11, 12] (fun s11 s12 wx => TwoM w4 K J s11 s12 wx)
  case first =>
    go_region_held3 (fun W' => (W'.cell? ⟨w.heap.size, 0, none⟩ = some (.slice na nl nc) ∧ W'.cell? ⟨w.heap.size, 1, none⟩ = some (.slice ea el ec) ∧ W'.cell? ⟨w.heap.size, 2, none⟩ = some (.int .i64 nx) ∧ W'.cell? ⟨w.heap.size + 1, 0, none⟩ = some (.slice ma ml mc) ∧ W'.cell? ⟨w.heap.size + 1, 1, none⟩ = some (.slice fa fl fc) ∧ W'.cell? ⟨w.heap.size + 1, 2, none⟩ = some (.int .i64 mx)))
      (first
        | (with_reducible refine HSW.out _ ?_; (first | with_reducible exact D0 | with_reducible exact below2 D0 ka | with_reducible exact below2 D0 kb | with_reducible exact below2 (below2 D0 ka) kb | with_reducible exact below2 (below2 D0 kb) ka); done)
        | exact ⟨x0, x1, x2, x3, x4, x5⟩
        | go_keep)
      (first
        | (go_at_call 12; go_fit (HAW.out _ (by first | with_reducible exact D0 | with_reducible exact below2 D0 kb)); rintro e ua ⟨rfl, hma, ka⟩)
        | (go_at_call 12; go_fit (HBW.out _ (by first | with_reducible exact D0 | with_reducible exact below2 D0 ka)); rintro e ub ⟨rfl, hmb, kb⟩))
    all_goals
      go_wp2_with fail
      go_meet
    all_goals first
      | exact twoM_ab (below2 D0 ka) hma kb hmb
      | exact twoM_ba (below2 D0 kb) hmb ka hma
  case rest =>
    obtain ⟨r5, q5, rfl, rfl, hm1, hm2, k5⟩ := hcut
    have HM1 := toHid hm1
    have HM2 := toHid hm2
    have HB5 := toHid (below2 HB4.out k5)
    have HK15 := toHid (below2 HK14.out k5)
    clear x0 x1 x2 x3 x4 x5 hl hl' D0 HSW HAW HBW hm1 hm2 k5
    have HLA := toHid (lessM_any wc r5 q5 K J HM1.out HM2.out HFF.out.1.1)
    go_wp2_with fail
    refine HLA.out.mono ?_
    rintro e w6 ⟨v6, rfl, hv6, k6⟩
    rw [HFF.out.2.1.1, HFF.out.2.1.2.1] at hv6
    obtain ⟨a6, l6, c6, rfl⟩ := slice_row hv6
    have HB6 := toHid (below2 HB5.out k6)
    have HK16 := toHid (below2 HK15.out k6)
    have HM16 := toHid (HM1.out.of (k6.block _ HM1.out.lt))
    have HM26 := toHid (HM2.out.of (k6.block _ HM2.out.lt))
    have HEQ1 := toHid (equalP_same A a1 l1 c1 a6 l6 c6 w6 ((prs_row HQ1.out.1 HFF.out.2.1.2.2).below HK16.out) (prs_row hv6 HFF.out.2.1.2.2))
    clear hv6 k6 HLA HM1 HM2
    go_wp2_with fail
    refine HEQ1.out.mono ?_
    rintro e w7 ⟨rfl, k7⟩
    have HB7 := toHid (below2 HB6.out k7)
    have HK17 := toHid (below2 HK16.out k7)
    have HLB := toHid (lessM_any w7 q5 r5 J K (HM26.out.of (k7.block _ HM26.out.lt)) (HM16.out.of (k7.block _ HM16.out.lt)) HFF.out.1.2)
    clear k7 HEQ1 HM16 HM26
    go_wp2_with fail
    refine HLB.out.mono ?_
    rintro e w8 ⟨v8, rfl, hv8, k8⟩
    rw [HFF.out.2.2.1, HFF.out.2.2.2.1] at hv8
    obtain ⟨a8, l8, c8, rfl⟩ := slice_row hv8
    have HB8 := toHid (below2 HB7.out k8)
    have HEQ2 := toHid (equalP_same B a2 l2 c2 a8 l8 c8 w8 ((prs_row HQ1.out.2 HFF.out.2.2.2.2).below (below2 HK17.out k8)) (prs_row hv8 HFF.out.2.2.2.2))
    clear hv8 k8 HLB
    go_wp2_with fail
    refine HEQ2.out.mono ?_
    rintro e w9 ⟨rfl, k9⟩
    have HB9 := toHid (below2 HB8.out k9)
    clear k9
    go_wp2_with fail
    go_ret
    exact ⟨rfl, HB9.out⟩
end Go.Proofs.YtebbjmjgojekdaaGreatDoor
