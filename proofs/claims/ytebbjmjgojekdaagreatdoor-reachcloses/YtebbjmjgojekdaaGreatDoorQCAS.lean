/-
  What is proved here: what the texts RLawA, RChange2 prove, in one text.
-/
import Derived.Test.YtebbjmjgojekdaaGreatDoorQCAP
import Derived.Test.YtebbjmjgojekdaaGreatDoorQCAR
import Derived.Test.YtebbjmjgojekdaaGreatDoorQCAO
namespace Go.Proofs.YtebbjmjgojekdaaGreatDoor
open Go.RowKit
set_option linter.unusedVariables false

set_option linter.unusedSimpArgs false

theorem has_mem {N : List Nd} {i : Int} (h : hasN N i = true) : i ∈ N.map (·.id) := by
  unfold hasN at h
  simpa [eq_comm] using h

theorem right_ids {N : List Nd} {E : List Ed} {next : Int} (hg : gE N E next = 0) : (N.map (·.id)).Nodup ∧ ∀ x ∈ E, x.frm ∈ N.map (·.id) ∧ x.dst ∈ N.map (·.id) := by
  have hR := gE_ok hg
  refine ⟨?_, fun x hx => ⟨has_mem (hR.edges x hx).2.1, has_mem (hR.edges x hx).2.2.1⟩⟩
  refine List.Pairwise.imp (R := fun a b : Int => a < b) (fun {a b} hab => by omega) ?_
  rw [List.pairwise_iff_getElem]
  intro i j hi hj hij
  exact hR.riseN i j _ _ hij (List.getElem?_eq_getElem hi) (List.getElem?_eq_getElem hj)

/-- What is asked of the closed set of a right graph. -/
theorem reached_facts {N : List Nd} {E : List Ed} {next : Int} (hg : gE N E next = 0) (kind : ByteArray) : (reachedF E (N.map (·.id)) kind).length ≤ 1000000 ∧ sortP (reachedF E (N.map (·.id)) kind) = allF N E kind ∧ (allF N E kind).length ≤ 1000000 ∧ (allF N E kind).length = (reachedF E (N.map (·.id)) kind).length := by
  obtain ⟨hn, he⟩ := right_ids hg
  have r := gE_ok hg
  have a1 := r.fewN
  have a2 := r.fewE
  have hl := all_len N E kind (by omega) (by omega)
  have hp := all_perm (N := N) (E := E) kind hn he
  refine ⟨by rw [← hp.length_eq]; exact hl, ?_, hl, hp.length_eq⟩
  exact all_reached kind hn he (List.mergeSort_perm _ _) ((sortP_rises _).imp fun h => by simpa using h)

set_option maxHeartbeats 8000000 in
set_option maxRecDepth 100000 in
theorem law_all (N : List Nd) (E : List Ed) (na : Option Addr) (nl nc : Nat) (ea : Option Addr) (el ec : Nat) (nx : Int) (kind : ByteArray) (w : World) (h : GrOk w N E na nl ea el) :
    Calls Tryz.prog 3 #[.agg #[.slice na nl nc, .slice ea el ec, .int .i64 nx], .string kind] w fun e w' => e = .returned (.bool true) ∧ Below w.heap.size w w' := by
  have hb0 : Below w.heap.size w (w.alloc (.cells #[.slice na nl nc, .slice ea el ec, .int .i64 nx] 25)) := (Below.refl _ _).alloc (Nat.le_refl _) _
  have HB := toHid hb0
  have HG := toHid (alloc_new w (.cells #[.slice na nl nc, .slice ea el ec, .int .i64 nx] 25))
  have HCK : Hid (∀ X, Below w.heap.size w X → Calls Tryz.prog 8 #[.agg #[.slice na nl nc, .slice ea el ec, .int .i64 nx]] X fun e w' => e = .returned (.int .i64 (gE N E nx)) ∧ Below X.heap.size X w') := fun X kx => checkGraph_ok h nc ec nx X kx
  clear hb0
  by_cases hg : gE N E nx = 0
  case neg =>
    have HA : Hid (∀ X, Below w.heap.size w X → Calls Tryz.prog 7 #[.agg #[.slice na nl nc, .slice ea el ec, .int .i64 nx], .string kind] X fun e w' => e = .returned (.tuple #[.slice none 0 0, .int .i64 (gE N E nx)]) ∧ Below X.heap.size X w') := fun X kx => all_bad h hg nc ec kind X kx
    generalize gE N E nx = er at HA HCK hg
    have hz1 : (er != 0) = true := by simp [hg]
    have hz2 : (er == er) = true := by simp
    clear h hg
    go_enter Tryz.func3, Tryz.ntmps3
    go_upto_region 1 with fail
    generalize w.alloc (.cells #[.slice na nl nc, .slice ea el ec, .int .i64 nx] 25) = X at HB HG ⊢
    have x0 := cell_of HG.out 0
    have x1 := cell_of HG.out 1
    have x2 := cell_of HG.out 2
    simp at x0 x1 x2
    have hl0 : w.heap.size < X.heap.size := blk_lt HG.out
    go_wp2_with fail
    refine (HA.out X HB.out).mono ?_
    rintro e w1 ⟨rfl, k1⟩
    have HB1 := toHid (below2 HB.out k1)
    have HG1 := toHid ((k1.block _ hl0).trans HG.out)
    clear x0 x1 x2 k1 hl0
    have x0 := cell_of HG1.out 0
    have x1 := cell_of HG1.out 1
    have x2 := cell_of HG1.out 2
    simp at x0 x1 x2
    have hl1 : w.heap.size < w1.heap.size := blk_lt HG1.out
    go_wp2_with fail
    refine (HCK.out w1 HB1.out).mono ?_
    rintro e w2 ⟨rfl, k2⟩
    have HB2 := toHid (below2 HB1.out k2)
    clear x0 x1 x2 k2 hl1
    go_wp2_with fail
    refine (reached_true _).mono ?_
    rintro e w3 ⟨rfl, k3⟩
    have HB3 := toHid (below2 HB2.out k3)
    clear k3
    go_wp2_with fail
    refine (reached_true _).mono ?_
    rintro e w4 ⟨rfl, k4⟩
    have HB4 := toHid (below2 HB3.out k4)
    clear k4
    go_wp2_with fail
    go_ret
    exact ⟨rfl, HB4.out⟩
  have HA : Hid (∀ X, Below w.heap.size w X → Calls Tryz.prog 7 #[.agg #[.slice na nl nc, .slice ea el ec, .int .i64 nx], .string kind] X fun e w' => ∃ v, e = .returned (.tuple #[v, .int .i64 0]) ∧ w'.ownsRow X.heap.size 33 2 v (allF N E kind).length (pcells (allF N E kind)) ∧ Below X.heap.size X w') := fun X kx => all_good h hg nc ec kind X kx
  have HRM : Hid (∀ X, Below w.heap.size w X → Calls Tryz.prog 12 #[.agg #[.slice na nl nc, .slice ea el ec, .int .i64 nx], .string kind] X fun e w' => e = .returned (.map (some (X.heap.size + 1))) ∧ MapB w' (X.heap.size + 1) (reachedF E (N.map (·.id)) kind) ∧ Below X.heap.size X w') := fun X kx => by
    have hX := h.below kx
    have hf := few_of h hg
    exact reached_any N E na nl nc ea el ec nx kind X hX.1 hX.2.1 hf.2 (by omega)
  rw [hg] at HCK
  have HF := toHid (reached_facts hg kind)
  generalize reachedF E (N.map (·.id)) kind = K at HRM HF
  generalize allF N E kind = A at HA HF
  clear h hg
  go_enter Tryz.func3, Tryz.ntmps3
  go_upto_region 1 with fail
  generalize w.alloc (.cells #[.slice na nl nc, .slice ea el ec, .int .i64 nx] 25) = X at HB HG ⊢
  have x0 := cell_of HG.out 0
  have x1 := cell_of HG.out 1
  have x2 := cell_of HG.out 2
  simp at x0 x1 x2
  have hl0 : w.heap.size < X.heap.size := blk_lt HG.out
  go_wp2_with fail
  refine (HA.out X HB.out).mono ?_
  rintro e w1 ⟨v1, rfl, hv1, k1⟩
  obtain ⟨a1, l1, c1, rfl⟩ := slice_row hv1
  have HP1 := toHid (prs_row hv1 HF.out.2.2.1)
  have HB1 := toHid (below2 HB.out k1)
  have HG1 := toHid ((k1.block _ hl0).trans HG.out)
  clear x0 x1 x2 k1 hl0 hv1
  have x0 := cell_of HG1.out 0
  have x1 := cell_of HG1.out 1
  have x2 := cell_of HG1.out 2
  simp at x0 x1 x2
  have hl1 : w.heap.size < w1.heap.size := blk_lt HG1.out
  go_wp2_with fail
  refine (HCK.out w1 HB1.out).mono ?_
  rintro e w2 ⟨rfl, k2⟩
  have HB2 := toHid (below2 HB1.out k2)
  have HG2 := toHid ((k2.block _ hl1).trans HG1.out)
  have HP2 := toHid (HP1.out.below k2)
  clear x0 x1 x2 k2 hl1
  go_wp2_with fail
  refine (reached_true _).mono ?_
  rintro e w3 ⟨rfl, k3⟩
  have HB3 := toHid (below2 HB2.out k3)
  have HG3 := toHid ((k3.block _ (blk_lt HG2.out)).trans HG2.out)
  have HP3 := toHid (HP2.out.below k3)
  clear k3
  have x0 := cell_of HG3.out 0
  have x1 := cell_of HG3.out 1
  have x2 := cell_of HG3.out 2
  simp at x0 x1 x2
  have hl3 : w.heap.size < w3.heap.size := blk_lt HG3.out
  go_wp2_with fail
  refine (HRM.out w3 HB3.out).mono ?_
  rintro e w4 ⟨rfl, hm4, k4⟩
  have HPM := toHid (pairsM_any w4 _ K hm4 HF.out.1)
  have HB4 := toHid (below2 HB3.out k4)
  have HP4 := toHid (HP3.out.below k4)
  clear x0 x1 x2 k4 hl3 hm4
  go_wp2_with fail
  refine HPM.out.mono ?_
  rintro e w5 ⟨v5, rfl, hv5, k5⟩
  rw [HF.out.2.1, ← HF.out.2.2.2] at hv5
  obtain ⟨a5, l5, c5, rfl⟩ := slice_row hv5
  have HB5 := toHid (below2 HB4.out k5)
  have HEQ := toHid (equalP_same A a1 l1 c1 a5 l5 c5 w5 (HP4.out.below k5) (prs_row hv5 HF.out.2.2.1))
  clear k5 hv5
  go_wp2_with fail
  refine HEQ.out.mono ?_
  rintro e w6 ⟨rfl, k6⟩
  have HB6 := toHid (below2 HB5.out k6)
  clear k6
  go_wp2_with fail
  go_ret
  exact ⟨rfl, HB6.out⟩

set_option linter.unusedSimpArgs false

set_option maxHeartbeats 4000000 in
set_option maxRecDepth 100000 in
theorem change_full {w : World} {N : List Nd} {E : List Ed} {na : Option Addr} {nl : Nat} {ea : Option Addr} {el : Nat} (h : GrOk w N E na nl ea el) (nx : Int) {M : List Nd} {F : List Ed} {ma : Option Addr} {ml : Nat} {fa : Option Addr} {fl : Nat} (h' : GrOk w M F ma ml fa fl) (mx : Int) (nc ec mc fc : Nat) (kind : ByteArray) (W : World) (k : Below w.heap.size w W) (er : Int) (her : er = if gE N E nx = 0 then gE M F mx else gE N E nx) :
    Calls Tryz.prog 20 #[.agg #[.slice na nl nc, .slice ea el ec, .int .i64 nx], .agg #[.slice ma ml mc, .slice fa fl fc, .int .i64 mx], .string kind] W fun e w' => ∃ a l c a' l' c', e = .returned (.tuple #[.slice a l c, .slice a' l' c', .int .i64 er]) ∧ (¬ er = 0 → l = 0 ∧ l' = 0) ∧ (er = 0 → w'.ownsRow W.heap.size 33 2 (.slice a l c) (lessP (allF N E kind) (allF M F kind)).length (pcells (lessP (allF N E kind) (allF M F kind))) ∧ w'.ownsRow W.heap.size 33 2 (.slice a' l' c') (lessP (allF M F kind) (allF N E kind)).length (pcells (lessP (allF M F kind) (allF N E kind)))) ∧ Below W.heap.size W w' := by
  have HC1 : Hid (∀ X, Below W.heap.size W X → Calls Tryz.prog 25 #[.agg #[.slice na nl nc, .slice ea el ec, .int .i64 nx]] X fun e w' => e = .returned (.int .i64 (gE N E nx)) ∧ Below X.heap.size X w') := fun X kx => check_ok h nc ec nx X (below2 k kx)
  have HC2 : Hid (∀ X, Below W.heap.size W X → Calls Tryz.prog 25 #[.agg #[.slice ma ml mc, .slice fa fl fc, .int .i64 mx]] X fun e w' => e = .returned (.int .i64 (gE M F mx)) ∧ Below X.heap.size X w') := fun X kx => check_ok h' mc fc mx X (below2 k kx)
  have HP1 : Hid (er = 0 → ∀ X, Below W.heap.size W X → Calls Tryz.prog 26 #[.agg #[.slice na nl nc, .slice ea el ec, .int .i64 nx], .string kind] X fun e w' => ∃ v, e = .returned v ∧ w'.ownsRow X.heap.size 33 2 v (allF N E kind).length (pcells (allF N E kind)) ∧ Below X.heap.size X w') := fun e0 X kx => pairs_ok h (by
    by_cases h0 : gE N E nx = 0
    · exact h0
    · rw [if_neg h0] at her; exact absurd (her.symm.trans e0) h0) nc ec kind X (below2 k kx)
  have HP2 : Hid (er = 0 → ∀ X, Below W.heap.size W X → Calls Tryz.prog 26 #[.agg #[.slice ma ml mc, .slice fa fl fc, .int .i64 mx], .string kind] X fun e w' => ∃ v, e = .returned v ∧ w'.ownsRow X.heap.size 33 2 v (allF M F kind).length (pcells (allF M F kind)) ∧ Below X.heap.size X w') := fun e0 X kx => pairs_ok h' (by
    by_cases h0 : gE N E nx = 0
    · rw [if_pos h0] at her; exact her.symm.trans e0
    · rw [if_neg h0] at her; exact absurd (her.symm.trans e0) h0) mc fc kind X (below2 k kx)
  have HL : Hid (er = 0 → (allF N E kind).length ≤ 1000000 ∧ (allF M F kind).length ≤ 1000000) := fun e0 => by
    have g1 : gE N E nx = 0 := by
      by_cases h0 : gE N E nx = 0
      · exact h0
      · rw [if_neg h0] at her; exact absurd (her.symm.trans e0) h0
    have g2 : gE M F mx = 0 := by rw [if_pos g1] at her; exact her.symm.trans e0
    have r1 := gE_ok g1
    have r2 := gE_ok g2
    have a1 := r1.fewN
    have a2 := r1.fewE
    have a3 := r2.fewN
    have a4 := r2.fewE
    exact ⟨all_len N E kind (by omega) (by omega), all_len M F kind (by omega) (by omega)⟩
  have HER := toHid her
  obtain ⟨A, hA⟩ : ∃ A, A = allF N E kind := ⟨_, rfl⟩
  obtain ⟨B, hB⟩ : ∃ B, B = allF M F kind := ⟨_, rfl⟩
  rw [← hA] at HP1 HL ⊢
  rw [← hB] at HP2 HL ⊢
  clear h h' k her hA hB
  generalize gE N E nx = e1 at HC1 HER
  generalize gE M F mx = e2 at HC2 HER
  have hb0 : Below W.heap.size W ((W.alloc (.cells #[.slice na nl nc, .slice ea el ec, .int .i64 nx] 25)).alloc (.cells #[.slice ma ml mc, .slice fa fl fc, .int .i64 mx] 25)) := ((Below.refl _ _).alloc (Nat.le_refl _) _).alloc (by simp) _
  have HB := toHid hb0
  have HG1 : Hid (((W.alloc (.cells #[.slice na nl nc, .slice ea el ec, .int .i64 nx] 25)).alloc (.cells #[.slice ma ml mc, .slice fa fl fc, .int .i64 mx] 25)).heap[W.heap.size]? = some (.cells #[.slice na nl nc, .slice ea el ec, .int .i64 nx] 25 (0, 0))) := (Below.heap_alloc _ _ _ (by simp)).trans (alloc_new W _)
  have HG2 := toHid (alloc_two W (.cells #[.slice na nl nc, .slice ea el ec, .int .i64 nx] 25) (.cells #[.slice ma ml mc, .slice fa fl fc, .int .i64 mx] 25))
  clear hb0
  go_enter Tryz.func20, Tryz.ntmps20
  go_upto_region 1 with fail
  generalize (W.alloc (.cells #[.slice na nl nc, .slice ea el ec, .int .i64 nx] 25)).alloc (.cells #[.slice ma ml mc, .slice fa fl fc, .int .i64 mx] 25) = X at HB HG1 HG2 ⊢
  have HS : Hid (∀ W' : World, Below X.heap.size X W' → (W'.cell? ⟨W.heap.size, 0, none⟩ = some (.slice na nl nc) ∧ W'.cell? ⟨W.heap.size, 1, none⟩ = some (.slice ea el ec) ∧ W'.cell? ⟨W.heap.size, 2, none⟩ = some (.int .i64 nx) ∧ W'.cell? ⟨W.heap.size + 1, 0, none⟩ = some (.slice ma ml mc) ∧ W'.cell? ⟨W.heap.size + 1, 1, none⟩ = some (.slice fa fl fc) ∧ W'.cell? ⟨W.heap.size + 1, 2, none⟩ = some (.int .i64 mx))) := by
    intro W' k
    have q1 := (k.block _ (blk_lt HG1.out)).trans HG1.out
    have q2 := (k.block _ (blk_lt HG2.out)).trans HG2.out
    exact ⟨cell_of q1 0, cell_of q1 1, cell_of q1 2, cell_of q2 0, cell_of q2 1, cell_of q2 2⟩
  have D0 : Below X.heap.size X X.drew := (Below.refl _ _).drew
  obtain ⟨x0, x1, x2, x3, x4, x5⟩ := HS.out X (Below.refl _ _)
  have hl1 : W.heap.size < X.heap.size := blk_lt HG1.out
  have hl2 : W.heap.size + 1 < X.heap.size := blk_lt HG2.out
  go_cut [8] (fun s8 wx => s8 = .int .i64 er ∧ Below X.heap.size X wx)
  case first =>
    go_region_held3 (fun W' => (W'.cell? ⟨W.heap.size, 0, none⟩ = some (.slice na nl nc) ∧ W'.cell? ⟨W.heap.size, 1, none⟩ = some (.slice ea el ec) ∧ W'.cell? ⟨W.heap.size, 2, none⟩ = some (.int .i64 nx) ∧ W'.cell? ⟨W.heap.size + 1, 0, none⟩ = some (.slice ma ml mc) ∧ W'.cell? ⟨W.heap.size + 1, 1, none⟩ = some (.slice fa fl fc) ∧ W'.cell? ⟨W.heap.size + 1, 2, none⟩ = some (.int .i64 mx)))
      (first
        | with_reducible exact HS.out _ k3
        | with_reducible exact HS.out _ k2
        | with_reducible exact HS.out _ k1
        | with_reducible exact HS.out _ D0
        | exact ⟨x0, x1, x2, x3, x4, x5⟩
        | go_keep)
      (first
        | (go_at_call 40; go_fit (or_two e1 e2 er HER.out u2.heap.size (u2.alloc (.cells #[.int .i64 e1, .int .i64 e2] 27)) (cell_of (alloc_new u2 _) 0) (cell_of (alloc_new u2 _) 1)); rintro e u4 ⟨rfl, rfl⟩)
        | (go_at_call 25; go_fit (HC2.out _ (below2 HB.out k1)); rintro e u2 ⟨rfl, h2⟩; have k2 : Below X.heap.size X u2 := below2 k1 h2; have k3 : Below X.heap.size X (u2.alloc (.cells #[.int .i64 e1, .int .i64 e2] 27)) := k2.alloc k2.size _)
        | (go_at_call 25; go_fit (HC1.out _ (below2 HB.out D0)); rintro e u1 ⟨rfl, h1⟩; have k1 : Below X.heap.size X u1 := D0.trans h1))
    all_goals
      go_wp2_with fail
      go_meet
      exact ⟨rfl, k3⟩
  case rest =>
    obtain ⟨rfl, kc⟩ := hcut
    have HKC := toHid kc
    have HBC := toHid (below2 HB.out kc)
    clear x0 x1 x2 x3 x4 x5 D0 kc HC1 HC2
    by_cases her : er = 0
    case neg =>
      have hz : (er != 0) = true := by simp [her]
      go_wp2_with fail
      exact bodyPost_ret (v := .tuple #[.slice none 0 0, .slice none 0 0, .int .i64 er]) (by simp [results, Tryz.results20, go_sem]) rfl ⟨_, _, _, _, _, _, rfl, fun _ => ⟨rfl, rfl⟩, fun h => absurd h her, HBC.out⟩
    have hz : (er != 0) = false := by simp [her]
    have H0 := toHid her
    clear her
    go_upto_region 4 with fail
    have HS2 : Hid (∀ W' : World, Below wc.heap.size wc W' → (W'.cell? ⟨W.heap.size, 0, none⟩ = some (.slice na nl nc) ∧ W'.cell? ⟨W.heap.size, 1, none⟩ = some (.slice ea el ec) ∧ W'.cell? ⟨W.heap.size, 2, none⟩ = some (.int .i64 nx) ∧ W'.cell? ⟨W.heap.size + 1, 0, none⟩ = some (.slice ma ml mc) ∧ W'.cell? ⟨W.heap.size + 1, 1, none⟩ = some (.slice fa fl fc) ∧ W'.cell? ⟨W.heap.size + 1, 2, none⟩ = some (.int .i64 mx))) := fun W' k => HS.out W' (below2 HKC.out k)
    have D0 : Below wc.heap.size wc wc.drew := (Below.refl _ _).drew
    obtain ⟨x0, x1, x2, x3, x4, x5⟩ := HS2.out wc (Below.refl _ _)
    go_cut [9, 10] (fun s9 s10 wx => ∃ a l c a' l' c', s9 = .slice a l c ∧ s10 = .slice a' l' c' ∧ wx.ownsRow W.heap.size 33 2 (.slice a l c) A.length (pcells A) ∧ wx.ownsRow W.heap.size 33 2 (.slice a' l' c') B.length (pcells B) ∧ Below wc.heap.size wc wx)
    case first =>
      go_region_held3 (fun W' => (W'.cell? ⟨W.heap.size, 0, none⟩ = some (.slice na nl nc) ∧ W'.cell? ⟨W.heap.size, 1, none⟩ = some (.slice ea el ec) ∧ W'.cell? ⟨W.heap.size, 2, none⟩ = some (.int .i64 nx) ∧ W'.cell? ⟨W.heap.size + 1, 0, none⟩ = some (.slice ma ml mc) ∧ W'.cell? ⟨W.heap.size + 1, 1, none⟩ = some (.slice fa fl fc) ∧ W'.cell? ⟨W.heap.size + 1, 2, none⟩ = some (.int .i64 mx)))
        (first
          | with_reducible exact HS2.out _ k2
          | with_reducible exact HS2.out _ k1
          | with_reducible exact HS2.out _ D0
          | exact ⟨x0, x1, x2, x3, x4, x5⟩
          | go_keep)
        (first
          | (go_at_call 26; go_fit (HP2.out H0.out _ (below2 HBC.out k1)); rintro e u2 ⟨v2, rfl, hv2, h2⟩; have k2 : Below wc.heap.size wc u2 := below2 k1 h2)
          | (go_at_call 26; go_fit (HP1.out H0.out _ (below2 HBC.out D0)); rintro e u1 ⟨v1, rfl, hv1, h1⟩; have k1 : Below wc.heap.size wc u1 := D0.trans h1))
      all_goals
        go_wp2_with fail
        go_meet
        obtain ⟨a, l, c, rfl⟩ := slice_row hv1
        obtain ⟨a', l', c', rfl⟩ := slice_row hv2
        exact ⟨a, l, c, a', l', c', rfl, rfl, row_up (row_kept1 hv1 fun g hg => h2.block g (hv1.lt g hg).2) (Nat.le_trans HBC.out.size D0.size), row_up hv2 (Nat.le_trans HBC.out.size k1.size), k2⟩
    case rest =>
      obtain ⟨a, l, c, a', l', c', rfl, rfl, hv1, hv2, kx⟩ := hcut
      have HV1 := toHid hv1
      have HV2 := toHid hv2
      have HBX := toHid (below2 HBC.out kx)
      have HLL := toHid (HL.out H0.out)
      clear x0 x1 x2 x3 x4 x5 D0 hv1 hv2 kx
      go_wp2_with fail
      refine (without_any A B a l c a' l' c' _ (prs_row HV1.out HLL.out.1) (prs_row HV2.out HLL.out.2)).mono ?_
      rintro e u3 ⟨v3, rfl, hv3, k3⟩
      obtain ⟨p1, p2, p3, rfl⟩ := slice_row hv3
      have HV3 := toHid hv3
      have HK3 := toHid k3
      clear hv3 k3
      go_wp2_with fail
      refine (without_any B A a' l' c' a l c _ ((prs_row HV2.out HLL.out.2).below HK3.out) ((prs_row HV1.out HLL.out.1).below HK3.out)).mono ?_
      rintro e u4 ⟨v4, rfl, hv4, k4⟩
      obtain ⟨q1, q2, q3, rfl⟩ := slice_row hv4
      have HV4 := toHid hv4
      have HK4 := toHid k4
      clear hv4 k4
      go_wp2_with fail
      have e0 := H0.out
      subst e0
      exact bodyPost_ret (v := .tuple #[.slice p1 p2 p3, .slice q1 q2 q3, .int .i64 0]) (by simp [results, Tryz.results20, go_sem]) rfl ⟨_, _, _, _, _, _, rfl, fun h => absurd rfl h, fun _ => ⟨row_up (row_kept1 HV3.out fun g hg => HK4.out.block g (HV3.out.lt g hg).2) HBX.out.size, row_up HV4.out (Nat.le_trans HBX.out.size HK3.out.size)⟩, below2 (below2 HBX.out HK3.out) HK4.out⟩
end Go.Proofs.YtebbjmjgojekdaaGreatDoor
