/-
  What is proved here: what the texts RLessM, RChange2 prove, in one text.
-/
import Derived.Test.YtebbjmjgojekdaaGreatDoorQRAR
import Derived.Test.YtebbjmjgojekdaaGreatDoorQRAO
namespace Go.Proofs.YtebbjmjgojekdaaGreatDoor
open Go.RowKit
set_option linter.unusedVariables false

set_option linter.unusedSimpArgs false

theorem RgB.nodup {w : World} {r it : Nat} {K D : List (Int × Int)} (h : RgB w r it K D) : D.Nodup := by
  obtain ⟨L, clk, seen, h1, h2, h3, h4, h5, h6, h7, h8⟩ := h
  rw [h8.nodup_iff]
  rw [← h5] at h6
  exact List.Sublist.nodup (List.Sublist.map _ List.filter_sublist) h6

theorem less_snoc (D J : List (Int × Int)) (p : Int × Int) : lessP (D ++ [p]) J = if p ∈ J then lessP D J else lessP D J ++ [p] := by
  unfold lessP
  rw [List.filter_append]
  by_cases hp : p ∈ J
  · rw [if_pos hp]
    simp [hp]
  · rw [if_neg hp]
    simp [hp]

theorem less_put {D J : List (Int × Int)} {p : Int × Int} (hn : (D ++ [p]).Nodup) (hp : ¬ p ∈ J) : putSet (lessP D J) p = lessP (D ++ [p]) J := by
  rw [less_snoc, if_neg hp]
  unfold putSet
  rw [if_neg]
  intro h
  have hd : p ∈ D := (List.mem_filter.1 h).1
  rw [List.nodup_append] at hn
  exact hn.2.2 p hd p (List.mem_singleton.2 rfl) rfl

set_option maxHeartbeats 4000000 in
set_option maxRecDepth 100000 in
theorem lessM_any (w : World) (r s : Nat) (K J : List (Int × Int)) (hr : MapB w r K) (hs : MapB w s J) (hl : K.length ≤ 1000000) :
    Calls Tryz.prog 21 #[.map (some r), .map (some s)] w fun e w' => ∃ v, e = .returned v ∧ w'.ownsRow w.heap.size 33 2 v (lessP K J).length (pcells (sortP (lessP K J))) ∧ Below w.heap.size w w' := by
  have hmm : ∀ X : World, (Instr.makeMap 35 none).run Tryz.prog X = .ok (.map (some X.heap.size)) (X.alloc (.map #[] 0)) := fun X => rfl
  have h1 : MapB (w.alloc (.map #[] 0)) r K := hr.of (Below.heap_alloc _ _ _ hr.lt)
  obtain ⟨o, hrg, hr0⟩ := run_range_b h1
  have ez : (w.alloc (.map #[] 0)).heap.size = w.heap.size + 1 := by simp
  rw [ez] at hrg hr0
  have HB0 : Hid (Below w.heap.size w ((w.alloc (.map #[] 0)).alloc o)) := ((Below.refl _ _).alloc (Nat.le_refl _) _).alloc (by simp) _
  have HX0 : Hid (MapB ((w.alloc (.map #[] 0)).alloc o) w.heap.size []) := mapB_new ((Below.heap_alloc _ _ _ (by simp)).trans (alloc_new w _))
  have HS0 : Hid (MapB ((w.alloc (.map #[] 0)).alloc o) s J) := hs.of ((Below.heap_alloc _ _ _ (by have := hs.lt; simp; omega)).trans (Below.heap_alloc _ _ _ hs.lt))
  have HR0 := toHid hr0
  have HRL : Hid (r < w.heap.size ∧ s < w.heap.size) := ⟨hr.lt, hs.lt⟩
  clear hr hs h1 hr0 ez
  go_enter Tryz.func21, Tryz.ntmps21
  go_wp2_with fail
  clear hrg hmm
  go_loopg [6] K.length (fun g s6 wr => ∃ (D : List (Int × Int)), K.length - D.length ≤ g ∧ RgB wr r (w.heap.size + 1) K D ∧ MapB wr s J ∧ MapB wr w.heap.size (lessP D J) ∧ Below w.heap.size w wr)
  case atStart => exact ⟨[], Nat.sub_le _ _, HR0.out, HS0.out, HX0.out, HB0.out⟩
  case round =>
    clear HR0 HX0 HB0 HS0
    obtain ⟨D, hg, hrg, hsj, hmd, hbw⟩ := hrel
    have HRG := toHid hrg
    have HSJ := toHid hsj
    have HMD := toHid hmd
    have HBW := toHid hbw
    clear hrg hsj hmd hbw
    rcases run_next_b HRG.out with ⟨hnx, hpm⟩ | ⟨⟨p1, p2⟩, w1, hnx, hrg1, hoth, hsz1, hbe1, hen⟩
    · have HPM := toHid hpm
      have hdl : (lessP D J).length ≤ 1000000 := by
        refine Nat.le_trans (List.length_filter_le _ _) ?_
        rw [hpm.length_eq]
        exact hl
      have HPA := toHid (pairsM_any wr w.heap.size (lessP D J) HMD.out hdl)
      have HZ := toHid HBW.out.size
      clear hpm hdl
      go_wp2_with fail
      refine HPA.out.mono ?_
      rintro e w2 ⟨v, rfl, hv, k2⟩
      obtain ⟨a2, l2, c2, rfl⟩ := slice_row hv
      have HV := toHid hv
      have HB2 := toHid (HBW.out.trans (k2.mono HZ.out))
      clear hv k2 hnx
      go_wp2_with fail
      go_ret
      refine ⟨_, rfl, ?_, HB2.out⟩
      have hpf : (lessP D J).Perm (lessP K J) := HPM.out.filter _
      have h4 := HV.out
      rw [sortP_perm hpf, hpf.length_eq] at h4
      exact row_up h4 HZ.out
    · have hlen := hrg1.len
      rw [List.length_append, List.length_singleton] at hlen
      have hrs := HRL.out
      have hsj1 : MapB w1 s J := HSJ.out.of (hoth _ (by omega))
      have hmd1 : MapB w1 w.heap.size (lessP D J) := HMD.out.of (hoth _ (by omega))
      have hbw1 : Below w.heap.size w w1 := HBW.out.trans (hbe1 _ (by omega))
      have HND := toHid hrg1.nodup
      have HRG1 := toHid hrg1
      have HSJ1 := toHid hsj1
      have HMD1 := toHid hmd1
      have HBW1 := toHid hbw1
      clear hrg1 hoth hsz1 hbe1 hsj1 hmd1 hbw1 HRG HSJ HMD HBW hrs
      go_upto_region 5 with fail
      clear hnx hen
      have HPX := toHid (alloc_new w1 (.cells #[.int .i64 p1, .int .i64 p2] 33))
      have HRG2 : Hid (RgB (w1.alloc (.cells #[.int .i64 p1, .int .i64 p2] 33)) r (w.heap.size + 1) K (D ++ [(p1, p2)])) := HRG1.out.of (Below.heap_alloc _ _ _ HRG1.out.lt.1) (Below.heap_alloc _ _ _ HRG1.out.lt.2)
      have HSJ2 : Hid (MapB (w1.alloc (.cells #[.int .i64 p1, .int .i64 p2] 33)) s J) := HSJ1.out.of (Below.heap_alloc _ _ _ HSJ1.out.lt)
      have HMD2 : Hid (MapB (w1.alloc (.cells #[.int .i64 p1, .int .i64 p2] 33)) w.heap.size (lessP D J)) := HMD1.out.of (Below.heap_alloc _ _ _ HMD1.out.lt)
      have HBW2 := toHid (HBW1.out.alloc HBW1.out.size (.cells #[.int .i64 p1, .int .i64 p2] 33))
      generalize w1.alloc (.cells #[.int .i64 p1, .int .i64 p2] 33) = Wp at HPX HRG2 HSJ2 HMD2 HBW2 ⊢
      have hpl : w1.heap.size < Wp.heap.size := blk_lt HPX.out
      generalize w1.heap.size = pb at HPX hpl ⊢
      have y0 := cell_of HPX.out 0
      have y1 := cell_of HPX.out 1
      simp at y0 y1
      have ask : (Instr.lookup 35 (.map (some s)) (.agg #[.int .i64 p1, .int .i64 p2]) false).run Tryz.prog Wp = .ok (.bool (decide ((p1, p2) ∈ J))) Wp := run_lookup_b HSJ2.out (p1, p2)
      by_cases hin : (p1, p2) ∈ J
      · rw [decide_eq_true hin] at ask
        go_wp2_with fail
        go_roundg (K.length - (D.length + 1))
        case measure => omega
        case rel =>
          refine ⟨D ++ [(p1, p2)], ?_, HRG2.out, HSJ2.out, ?_, HBW2.out⟩
          · rw [List.length_append, List.length_singleton]
            exact Nat.le_refl _
          · rw [less_snoc, if_pos hin]
            exact HMD2.out
      · rw [decide_eq_false hin] at ask
        obtain ⟨o2, hup, hm2⟩ := run_update_b HMD2.out (p1, p2)
        have hrs := HRL.out
        have hmf : MapB (putB Wp w.heap.size o2) w.heap.size (lessP (D ++ [(p1, p2)]) J) := by
          rw [← less_put HND.out hin]
          exact hm2 _ (putB_here HMD2.out.lt o2)
        have hrf : RgB (putB Wp w.heap.size o2) r (w.heap.size + 1) K (D ++ [(p1, p2)]) := HRG2.out.of (putB_other _ _ _ _ (by omega)) (putB_other _ _ _ _ (by omega))
        have hsf : MapB (putB Wp w.heap.size o2) s J := HSJ2.out.of (putB_other _ _ _ _ (by omega))
        have hbf : Below w.heap.size w (putB Wp w.heap.size o2) := HBW2.out.trans (putB_bel _ _ _ _ (Nat.le_refl _))
        have HMF := toHid hmf
        have HRF := toHid hrf
        have HSF := toHid hsf
        have HBF := toHid hbf
        clear hmf hrf hsf hbf hm2 hrs
        go_wp2_with fail
        go_roundg (K.length - (D.length + 1))
        case measure => omega
        case rel =>
          refine ⟨D ++ [(p1, p2)], ?_, HRF.out, HSF.out, HMF.out, HBF.out⟩
          rw [List.length_append, List.length_singleton]
          exact Nat.le_refl _

set_option linter.unusedSimpArgs false

set_option maxHeartbeats 4000000 in
set_option maxRecDepth 100000 in
theorem change_full {w : World} {N : List Nd} {E : List Ed} {na : Option Addr} {nl : Nat} {ea : Option Addr} {el : Nat} (h : GrOk w N E na nl ea el) (nx : Int) {M : List Nd} {F : List Ed} {ma : Option Addr} {ml : Nat} {fa : Option Addr} {fl : Nat} (h' : GrOk w M F ma ml fa fl) (mx : Int) (nc ec mc fc : Nat) (kind : ByteArray) (W : World) (k : Below w.heap.size w W) (er : Int) (her : er = if gE N E nx = 0 then gE M F mx else gE N E nx) :
    Calls Tryz.prog 20 #[.agg #[.slice na nl nc, .slice ea el ec, .int .i64 nx], .agg #[.slice ma ml mc, .slice fa fl fc, .int .i64 mx], .string kind] W fun e w' => ∃ a l c a' l' c', e = .returned (.tuple #[.slice a l c, .slice a' l' c', .int .i64 er]) ∧ (¬ er = 0 → l = 0 ∧ l' = 0) ∧ (er = 0 → w'.ownsRow W.heap.size 33 2 (.slice a l c) (lessP (allF N E kind) (allF M F kind)).length (pcells (lessP (allF N E kind) (allF M F kind))) ∧ w'.ownsRow W.heap.size 33 2 (.slice a' l' c') (lessP (allF M F kind) (allF N E kind)).length (pcells (lessP (allF M F kind) (allF N E kind)))) ∧ Below W.heap.size W w' := by
  have HC1 : Hid (∀ X, Below W.heap.size W X → Calls Tryz.prog 25 #[.agg #[.slice na nl nc, .slice ea el ec, .int .i64 nx]] X fun e w' => e = .returned (.int .i64 (gE N E nx)) ∧ Below X.heap.size X w') := fun X kx => check_ok h nc ec nx X (below2 k kx)
  have HC2 : Hid (∀ X, Below W.heap.size W X → Calls Tryz.prog 25 #[.agg #[.slice ma ml mc, .slice fa fl fc, .int .i64 mx]] X fun e w' => e = .returned (.int .i64 (gE M F mx)) ∧ Below X.heap.size X w') := fun X kx => check_ok h' mc fc mx X (below2 k kx)
  have HP1 : Hid (er = 0 → ∀ X, Below W.heap.size W X → Calls Tryz.prog 26 #[.agg #[.slice na nl nc, .slice ea el ec, .int .i64 nx], .string kind] X fun e w' => ∃ v, e = .returned v ∧ w'.ownsRow X.heap.size 33 2 v (allF N E kind).length (pcells (allF N E kind)) ∧ Below X.heap.size X w') := fun e0 X kx => pairs_ok h (by
    by_cases h0 : gE N E nx = 0
    · exact h0
    · rw [if_neg h0] at her; exact absurd (her.symm.trans e0) h0) nc ec kind X (below2 k kx)
  have HP2 : Hid (er = 0 → ∀ X, Below W.heap.size W X → Calls Tryz.prog 26 #[.agg #[.slice ma ml mc, .slice fa fl fc, .int .i64 mx], .string kind] X fun e w' => ∃ v, e = .returned v ∧ w'.ownsRow X.heap.size 33 2 v (allF M F kind).length (pcells (allF M F kind)) ∧ Below X.heap.size X w') := fun e0 X kx => pairs_ok h' (by
    by_cases h0 : gE N E nx = 0
    · rw [if_pos h0] at her; exact her.symm.trans e0
    · rw [if_neg h0] at her; exact absurd (her.symm.trans e0) h0) mc fc kind X (below2 k kx)
  have HL : Hid (er = 0 → (allF N E kind).length ≤ 1000000 ∧ (allF M F kind).length ≤ 1000000) := fun e0 => by
    have g1 : gE N E nx = 0 := by
      by_cases h0 : gE N E nx = 0
      · exact h0
      · rw [if_neg h0] at her; exact absurd (her.symm.trans e0) h0
    have g2 : gE M F mx = 0 := by rw [if_pos g1] at her; exact her.symm.trans e0
    have r1 := gE_ok g1
    have r2 := gE_ok g2
    have a1 := r1.fewN
    have a2 := r1.fewE
    have a3 := r2.fewN
    have a4 := r2.fewE
    exact ⟨all_len N E kind (by omega) (by omega), all_len M F kind (by omega) (by omega)⟩
  have HER := toHid her
  obtain ⟨A, hA⟩ : ∃ A, A = allF N E kind := ⟨_, rfl⟩
  obtain ⟨B, hB⟩ : ∃ B, B = allF M F kind := ⟨_, rfl⟩
  rw [← hA] at HP1 HL ⊢
  rw [← hB] at HP2 HL ⊢
  clear h h' k her hA hB
  generalize gE N E nx = e1 at HC1 HER
  generalize gE M F mx = e2 at HC2 HER
  have hb0 : Below W.heap.size W ((W.alloc (.cells #[.slice na nl nc, .slice ea el ec, .int .i64 nx] 25)).alloc (.cells #[.slice ma ml mc, .slice fa fl fc, .int .i64 mx] 25)) := ((Below.refl _ _).alloc (Nat.le_refl _) _).alloc (by simp) _
  have HB := toHid hb0
  have HG1 : Hid (((W.alloc (.cells #[.slice na nl nc, .slice ea el ec, .int .i64 nx] 25)).alloc (.cells #[.slice ma ml mc, .slice fa fl fc, .int .i64 mx] 25)).heap[W.heap.size]? = some (.cells #[.slice na nl nc, .slice ea el ec, .int .i64 nx] 25 (0, 0))) := (Below.heap_alloc _ _ _ (by simp)).trans (alloc_new W _)
  have HG2 := toHid (alloc_two W (.cells #[.slice na nl nc, .slice ea el ec, .int .i64 nx] 25) (.cells #[.slice ma ml mc, .slice fa fl fc, .int .i64 mx] 25))
  clear hb0
  go_enter Tryz.func20, Tryz.ntmps20
  go_upto_region 1 with fail
  generalize (W.alloc (.cells #[.slice na nl nc, .slice ea el ec, .int .i64 nx] 25)).alloc (.cells #[.slice ma ml mc, .slice fa fl fc, .int .i64 mx] 25) = X at HB HG1 HG2 ⊢
  have HS : Hid (∀ W' : World, Below X.heap.size X W' → (W'.cell? ⟨W.heap.size, 0, none⟩ = some (.slice na nl nc) ∧ W'.cell? ⟨W.heap.size, 1, none⟩ = some (.slice ea el ec) ∧ W'.cell? ⟨W.heap.size, 2, none⟩ = some (.int .i64 nx) ∧ W'.cell? ⟨W.heap.size + 1, 0, none⟩ = some (.slice ma ml mc) ∧ W'.cell? ⟨W.heap.size + 1, 1, none⟩ = some (.slice fa fl fc) ∧ W'.cell? ⟨W.heap.size + 1, 2, none⟩ = some (.int .i64 mx))) := by
    intro W' k
    have q1 := (k.block _ (blk_lt HG1.out)).trans HG1.out
    have q2 := (k.block _ (blk_lt HG2.out)).trans HG2.out
    exact ⟨cell_of q1 0, cell_of q1 1, cell_of q1 2, cell_of q2 0, cell_of q2 1, cell_of q2 2⟩
  have D0 : Below X.heap.size X X.drew := (Below.refl _ _).drew
  obtain ⟨x0, x1, x2, x3, x4, x5⟩ := HS.out X (Below.refl _ _)
  have hl1 : W.heap.size < X.heap.size := blk_lt HG1.out
  have hl2 : W.heap.size + 1 < X.heap.size := blk_lt HG2.out
  go_cut [8] (fun s8 wx => s8 = .int .i64 er ∧ Below X.heap.size X wx)
  case first =>
    go_region_held3 (fun W' => (W'.cell? ⟨W.heap.size, 0, none⟩ = some (.slice na nl nc) ∧ W'.cell? ⟨W.heap.size, 1, none⟩ = some (.slice ea el ec) ∧ W'.cell? ⟨W.heap.size, 2, none⟩ = some (.int .i64 nx) ∧ W'.cell? ⟨W.heap.size + 1, 0, none⟩ = some (.slice ma ml mc) ∧ W'.cell? ⟨W.heap.size + 1, 1, none⟩ = some (.slice fa fl fc) ∧ W'.cell? ⟨W.heap.size + 1, 2, none⟩ = some (.int .i64 mx)))
      (first
        | with_reducible exact HS.out _ k3
        | with_reducible exact HS.out _ k2
        | with_reducible exact HS.out _ k1
        | with_reducible exact HS.out _ D0
        | exact ⟨x0, x1, x2, x3, x4, x5⟩
        | go_keep)
      (first
        | (go_at_call 40; go_fit (or_two e1 e2 er HER.out u2.heap.size (u2.alloc (.cells #[.int .i64 e1, .int .i64 e2] 27)) (cell_of (alloc_new u2 _) 0) (cell_of (alloc_new u2 _) 1)); rintro e u4 ⟨rfl, rfl⟩)
        | (go_at_call 25; go_fit (HC2.out _ (below2 HB.out k1)); rintro e u2 ⟨rfl, h2⟩; have k2 : Below X.heap.size X u2 := below2 k1 h2; have k3 : Below X.heap.size X (u2.alloc (.cells #[.int .i64 e1, .int .i64 e2] 27)) := k2.alloc k2.size _)
        | (go_at_call 25; go_fit (HC1.out _ (below2 HB.out D0)); rintro e u1 ⟨rfl, h1⟩; have k1 : Below X.heap.size X u1 := D0.trans h1))
    all_goals
      go_wp2_with fail
      go_meet
      exact ⟨rfl, k3⟩
  case rest =>
    obtain ⟨rfl, kc⟩ := hcut
    have HKC := toHid kc
    have HBC := toHid (below2 HB.out kc)
    clear x0 x1 x2 x3 x4 x5 D0 kc HC1 HC2
    by_cases her : er = 0
    case neg =>
      have hz : (er != 0) = true := by simp [her]
      go_wp2_with fail
      exact bodyPost_ret (v := .tuple #[.slice none 0 0, .slice none 0 0, .int .i64 er]) (by simp [results, Tryz.results20, go_sem]) rfl ⟨_, _, _, _, _, _, rfl, fun _ => ⟨rfl, rfl⟩, fun h => absurd h her, HBC.out⟩
    have hz : (er != 0) = false := by simp [her]
    have H0 := toHid her
    clear her
    go_upto_region 4 with fail
    have HS2 : Hid (∀ W' : World, Below wc.heap.size wc W' → (W'.cell? ⟨W.heap.size, 0, none⟩ = some (.slice na nl nc) ∧ W'.cell? ⟨W.heap.size, 1, none⟩ = some (.slice ea el ec) ∧ W'.cell? ⟨W.heap.size, 2, none⟩ = some (.int .i64 nx) ∧ W'.cell? ⟨W.heap.size + 1, 0, none⟩ = some (.slice ma ml mc) ∧ W'.cell? ⟨W.heap.size + 1, 1, none⟩ = some (.slice fa fl fc) ∧ W'.cell? ⟨W.heap.size + 1, 2, none⟩ = some (.int .i64 mx))) := fun W' k => HS.out W' (below2 HKC.out k)
    have D0 : Below wc.heap.size wc wc.drew := (Below.refl _ _).drew
    obtain ⟨x0, x1, x2, x3, x4, x5⟩ := HS2.out wc (Below.refl _ _)
    go_cut [9, 10] (fun s9 s10 wx => ∃ a l c a' l' c', s9 = .slice a l c ∧ s10 = .slice a' l' c' ∧ wx.ownsRow W.heap.size 33 2 (.slice a l c) A.length (pcells A) ∧ wx.ownsRow W.heap.size 33 2 (.slice a' l' c') B.length (pcells B) ∧ Below wc.heap.size wc wx)
    case first =>
      go_region_held3 (fun W' => (W'.cell? ⟨W.heap.size, 0, none⟩ = some (.slice na nl nc) ∧ W'.cell? ⟨W.heap.size, 1, none⟩ = some (.slice ea el ec) ∧ W'.cell? ⟨W.heap.size, 2, none⟩ = some (.int .i64 nx) ∧ W'.cell? ⟨W.heap.size + 1, 0, none⟩ = some (.slice ma ml mc) ∧ W'.cell? ⟨W.heap.size + 1, 1, none⟩ = some (.slice fa fl fc) ∧ W'.cell? ⟨W.heap.size + 1, 2, none⟩ = some (.int .i64 mx)))
        (first
          | with_reducible exact HS2.out _ k2
          | with_reducible exact HS2.out _ k1
          | with_reducible exact HS2.out _ D0
          | exact ⟨x0, x1, x2, x3, x4, x5⟩
          | go_keep)
        (first
          | (go_at_call 26; go_fit (HP2.out H0.out _ (below2 HBC.out k1)); rintro e u2 ⟨v2, rfl, hv2, h2⟩; have k2 : Below wc.heap.size wc u2 := below2 k1 h2)
          | (go_at_call 26; go_fit (HP1.out H0.out _ (below2 HBC.out D0)); rintro e u1 ⟨v1, rfl, hv1, h1⟩; have k1 : Below wc.heap.size wc u1 := D0.trans h1))
      all_goals
        go_wp2_with fail
        go_meet
        obtain ⟨a, l, c, rfl⟩ := slice_row hv1
        obtain ⟨a', l', c', rfl⟩ := slice_row hv2
        exact ⟨a, l, c, a', l', c', rfl, rfl, row_up (row_kept1 hv1 fun g hg => h2.block g (hv1.lt g hg).2) (Nat.le_trans HBC.out.size D0.size), row_up hv2 (Nat.le_trans HBC.out.size k1.size), k2⟩
    case rest =>
      obtain ⟨a, l, c, a', l', c', rfl, rfl, hv1, hv2, kx⟩ := hcut
      have HV1 := toHid hv1
      have HV2 := toHid hv2
      have HBX := toHid (below2 HBC.out kx)
      have HLL := toHid (HL.out H0.out)
      clear x0 x1 x2 x3 x4 x5 D0 hv1 hv2 kx
      go_wp2_with fail
      refine (without_any A B a l c a' l' c' _ (prs_row HV1.out HLL.out.1) (prs_row HV2.out HLL.out.2)).mono ?_
      rintro e u3 ⟨v3, rfl, hv3, k3⟩
      obtain ⟨p1, p2, p3, rfl⟩ := slice_row hv3
      have HV3 := toHid hv3
      have HK3 := toHid k3
      clear hv3 k3
      go_wp2_with fail
      refine (without_any B A a' l' c' a l c _ ((prs_row HV2.out HLL.out.2).below HK3.out) ((prs_row HV1.out HLL.out.1).below HK3.out)).mono ?_
      rintro e u4 ⟨v4, rfl, hv4, k4⟩
      obtain ⟨q1, q2, q3, rfl⟩ := slice_row hv4
      have HV4 := toHid hv4
      have HK4 := toHid k4
      clear hv4 k4
      go_wp2_with fail
      have e0 := H0.out
      subst e0
      exact bodyPost_ret (v := .tuple #[.slice p1 p2 p3, .slice q1 q2 q3, .int .i64 0]) (by simp [results, Tryz.results20, go_sem]) rfl ⟨_, _, _, _, _, _, rfl, fun h => absurd rfl h, fun _ => ⟨row_up (row_kept1 HV3.out fun g hg => HK4.out.block g (HV3.out.lt g hg).2) HBX.out.size, row_up HV4.out (Nat.le_trans HBX.out.size HK3.out.size)⟩, below2 (below2 HBX.out HK3.out) HK4.out⟩
end Go.Proofs.YtebbjmjgojekdaaGreatDoor
