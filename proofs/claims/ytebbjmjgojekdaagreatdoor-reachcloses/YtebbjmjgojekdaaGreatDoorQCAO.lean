/-
  What is proved here: what the texts RPath, RChange, REq, RLine prove, in one text.
-/
import Derived.Test.YtebbjmjgojekdaaGreatDoorQCAI
import Derived.Test.YtebbjmjgojekdaaGreatDoorQCAJ
import Derived.Test.YtebbjmjgojekdaaGreatDoorQCAN
import Derived.Deep.CutBlock
import Derived.Deep.QuietTactic
import Derived.BigQuiet
import Derived.Shelf.SlicesE.Kit
import Derived.Test.YtebbjmjgojekdaaGreatDoorQCAM
namespace Go.Proofs.YtebbjmjgojekdaaGreatDoor
open Go.RowKit
set_option linter.unusedVariables false

set_option linter.unusedSimpArgs false

set_option maxHeartbeats 4000000 in
set_option maxRecDepth 100000 in
theorem path_good {w : World} {N : List Nd} {E : List Ed} {na : Option Addr} {nl : Nat} {ea : Option Addr} {el : Nat} (h : GrOk w N E na nl ea el) {next : Int} (hg : gE N E next = 0) (nc ec : Nat) (kind : ByteArray) (i tgt : Int) (c : Ed) (C : List Ed) (h0 : lastF (walkF (wayF E kind) (E.length + 2) (st0 i)) tgt = some (edV c)) (hC : Chain (lastF (walkF (wayF E kind) (E.length + 2) (st0 i))) i (c :: C)) (hCl : C.length ≤ 1000) (W : World) (k : Below w.heap.size w W) :
    Calls Tryz.prog 13 #[.agg #[.slice na nl nc, .slice ea el ec, .int .i64 next], .string kind, .int .i64 i, .int .i64 tgt] W fun e w' => ∃ v, e = .returned (.tuple #[v, .int .i64 0]) ∧ w'.ownsRow W.heap.size 3 1 v (c :: C).length (intsV ((c :: C).map (·.id)).reverse) ∧ Below W.heap.size W w' := by
  have hE := h.2.1.below k
  have hel := (few_of h hg).2
  have hb0 : Below W.heap.size W (W.alloc (.cells #[.slice na nl nc, .slice ea el ec, .int .i64 next] 25)) := (Below.refl _ _).alloc (Nat.le_refl _) _
  have HC : Hid (∀ X, Below W.heap.size W X → Calls Tryz.prog 25 #[.agg #[.slice na nl nc, .slice ea el ec, .int .i64 next]] X fun e w' => e = .returned (.int .i64 0) ∧ Below X.heap.size X w') := fun X kx => by
    have := check_ok h nc ec next X (below2 k kx)
    rw [hg] at this
    exact this
  have HLV : Hid (∀ X, Below W.heap.size W X → Calls Tryz.prog 34 #[.slice ea el ec, .string kind] X fun e w' => e = .returned (.map (some X.heap.size)) ∧ (∃ f, OwnWays w' X.heap.size X.heap.size (wayF E kind) f) ∧ Below X.heap.size X w') := fun X kx => leaving_any E ea el ec kind X (hE.below kx) hel
  have HEL : Hid (E.length ≤ 1000) := by show _ ≤ _; rw [← hE.1]; exact hel
  have HTY : Hid (∀ x ∈ E, x.typ.size ≤ 9223372036854775807) := fun x hx => by
    obtain ⟨j, hj⟩ := List.getElem?_of_mem hx
    obtain ⟨h1, h2, h3⟩ := hE
    obtain ⟨b, off, _, _, hc⟩ := h3 (by have := (List.getElem?_eq_some_iff.1 hj).1; omega)
    exact (hc j x hj).1
  have HCH := toHid hC
  have HH0 := toHid h0
  have HB := toHid hb0
  have HG := toHid (alloc_new W (.cells #[.slice na nl nc, .slice ea el ec, .int .i64 next] 25))
  clear h hg k hb0 hE hel hC h0
  have hmm : ∀ X : World, (Instr.makeMap 79 none).run Tryz.prog X = .ok (.map (some X.heap.size)) (X.alloc (.map #[] 0)) := fun X => rfl
  go_enter Tryz.func13, Tryz.ntmps13
  go_wp2_with fail
  refine (HC.out _ HB.out).mono ?_
  rintro e w1 ⟨rfl, k1⟩
  have HB1 := toHid (below2 HB.out k1)
  have HG1 := toHid ((k1.block W.heap.size (by simp)).trans HG.out)
  have hgl : W.heap.size < w1.heap.size := blk_lt HG1.out
  clear k1
  go_upto_region 5 with fail
  have HB2 : Hid (Below W.heap.size W ((w1.alloc (.map #[] 0)).alloc (.cells #[.map (some w1.heap.size)] 79))) := (HB1.out.alloc HB1.out.size _).alloc (by have := HB1.out.size; simp; omega) _
  have HX1 : Hid (((w1.alloc (.map #[] 0)).alloc (.cells #[.map (some w1.heap.size)] 79)).heap[w1.heap.size]? = some (.map #[] 0)) := (Below.heap_alloc _ _ _ (by simp)).trans (alloc_new w1 _)
  have HX2 := toHid (alloc_two w1 (.map #[] 0) (.cells #[.map (some w1.heap.size)] 79))
  have HXZ : Hid (((w1.alloc (.map #[] 0)).alloc (.cells #[.map (some w1.heap.size)] 79)).heap.size = w1.heap.size + 2) := by show _ = _; simp
  have HXG : Hid (((w1.alloc (.map #[] 0)).alloc (.cells #[.map (some w1.heap.size)] 79)).heap[W.heap.size]? = some (.cells #[.slice na nl nc, .slice ea el ec, .int .i64 next] 25 (0, 0))) := (Below.heap_alloc _ _ _ (by simp; omega)).trans ((Below.heap_alloc _ _ _ hgl).trans HG1.out)
  generalize (w1.alloc (.map #[] 0)).alloc (.cells #[.map (some w1.heap.size)] 79) = X at HB2 HX1 HX2 HXZ HXG ⊢
  have g1 := cell_of HXG.out 1
  simp at g1
  have hgx : W.heap.size < X.heap.size := blk_lt HXG.out
  go_wp2_with fail
  refine (HLV.out X HB2.out).mono ?_
  rintro e w2 ⟨rfl, ⟨f, how⟩, k2⟩
  have HOW := toHid how
  have HK2 := toHid k2
  have HB3 := toHid (below2 HB2.out k2)
  have hL1 : w2.heap[w1.heap.size + 1]? = some (.cells #[.map (some w1.heap.size)] 79 (0, 0)) := (k2.block _ (by have := HXZ.out; omega)).trans HX2.out
  have hL2 : MapI w2 w1.heap.size (lastF []) := mapI_new (clk := 0) ((k2.block _ (by have := HXZ.out; omega)).trans HX1.out)
  have HWK := toHid (walk_path E (wayF E kind) (fun j x hx => way_mem hx) (fun j => List.length_filter_le _ _) HEL.out HTY.out w2 X.heap.size X.heap.size f how (vis_l (w1.heap.size + 1) w1.heap.size) (w1.heap.size + 1)
    (fun Y O out x hI hx hl => path1_any (w1.heap.size + 1) w1.heap.size (by omega) Y O out x hI)
    (fun k => k = w1.heap.size + 1 ∨ k = w1.heap.size) ⟨hL1, hL2, fun k => Iff.rfl⟩
    (fun h => by have := HXZ.out; omega)
    (fun j g hg h => by
      have hr := ((how.row j).lt g hg).1
      have := HXZ.out
      omega) i)
  clear how k2 hL1 hL2 g1
  go_wp2_with fail
  refine HWK.out.mono ?_
  rintro e w3 ⟨rfl, O', ⟨p1, p2, p3⟩, p4, p5⟩
  have HB4 : Hid (Below W.heap.size W w3) := HB3.out.trans ⟨p5.os, p5.tape, p5.output, p5.size, fun k hk => p5.block k (Nat.lt_of_lt_of_le hk HB3.out.size) (by have := hgl; omega)⟩
  have HP1 := toHid p1
  have HP2 := toHid p2
  clear p3 p4 p5 HWK
  have y0 := cell_of p1 0
  simp at y0
  have l1 := run_lookup_int (P := Tryz.prog) (w := w3) Tryz.underlying79 Tryz.underlying3 p2 tgt (zero_edge _) true
  rw [HH0.out] at l1
  simp only [if_true, Option.getD_some, Option.isSome_some] at l1
  clear p1 p2
  go_upto_region 9 with fail
  have HB5 := toHid (HB4.out.alloc HB4.out.size (.cells #[.int .i64 c.id, .int .i64 c.frm, .int .i64 c.dst, .string c.typ, .slice c.pa c.pl c.pc] 47))
  have HP3 : Hid ((w3.alloc (.cells #[.int .i64 c.id, .int .i64 c.frm, .int .i64 c.dst, .string c.typ, .slice c.pa c.pl c.pc] 47)).heap[w1.heap.size + 1]? = some (.cells #[.map (some w1.heap.size)] 79 (0, 0))) := (Below.heap_alloc _ _ _ (blk_lt HP1.out)).trans HP1.out
  have HP4 : Hid (MapI (w3.alloc (.cells #[.int .i64 c.id, .int .i64 c.frm, .int .i64 c.dst, .string c.typ, .slice c.pa c.pl c.pc] 47)) w1.heap.size (lastF (walkF (wayF E kind) (E.length + 2) (st0 i)))) := HP2.out.of (Below.heap_alloc _ _ _ HP2.out.lt)
  generalize w3.alloc (.cells #[.int .i64 c.id, .int .i64 c.frm, .int .i64 c.dst, .string c.typ, .slice c.pa c.pl c.pc] 47) = Z at HB5 HP3 HP4 ⊢
  clear y0 l1
  have y0 := cell_of HP3.out 0
  simp at y0
  have hyz : w1.heap.size + 1 < Z.heap.size := blk_lt HP3.out
  go_wp2_with fail
  refine (trail_any _ w1.heap.size i tgt c C Z HP4.out HH0.out HCH.out hCl).mono ?_
  rintro e w5 ⟨v, rfl, hv, k5⟩
  have HV := toHid (row_up hv HB5.out.size)
  have HB6 := toHid (below2 HB5.out k5)
  clear hv k5
  go_wp2_with fail
  exact bodyPost_ret (v := .tuple #[v, .int .i64 0]) (by simp [results, Tryz.results13, go_sem]) rfl ⟨v, rfl, HV.out, HB6.out⟩

set_option linter.unusedSimpArgs false

theorem prs_row {w : World} {B : Nat} {a : Option Addr} {l c : Nat} {L : List (Int × Int)} (h : w.ownsRow B 33 2 (.slice a l c) L.length (pcells L)) (hl : L.length ≤ 1000000) : PrsAt w L a l := by
  obtain ⟨h1, _, h2⟩ := row_len h
  refine ⟨h1, by omega, fun h0 => ?_⟩
  obtain ⟨g, ha, _, _, hg, hc⟩ := row_at h (by omega)
  refine ⟨g, 0, ha, hg, fun i p hi => ?_⟩
  have hlt := (List.getElem?_eq_some_iff.1 hi).1
  have f0 := hc (i * 2) _ (pcells_get L (i * 2) (by omega))
  have f1 := hc (i * 2 + 1) _ (pcells_get L (i * 2 + 1) (by omega))
  have e0 : i * 2 / 2 = i := by omega
  have e1 : (i * 2 + 1) / 2 = i := by omega
  have e2 : i * 2 % 2 = 0 := by omega
  have e3 : (i * 2 + 1) % 2 = 1 := by omega
  have e4 : L.toArray[i]! = p := by
    rw [getElem!_pos _ i (by simpa using hlt)]
    have := List.getElem?_eq_getElem hlt
    rw [hi] at this
    injection this with this
    simp [← this]
  rw [e0, e2, e4] at f0
  rw [e1, e3, e4] at f1
  exact ⟨f0, by rw [Nat.add_assoc]; exact f1⟩

theorem all_len (N : List Nd) (E : List Ed) (kind : ByteArray) (h1 : N.length ≤ 100) (h2 : E.length ≤ 1000) : (allF N E kind).length ≤ 1000000 := by
  unfold allF
  rw [len_sortP]
  have a1 := raws_len E kind (N.map (·.id))
  rw [List.length_map] at a1
  have a2 := Nat.mul_le_mul h1 h2
  omega

theorem slice_row {w : World} {B n : Nat} {v : Value} {xs : List Value} (h : w.ownsRow B 33 2 v n xs) : ∃ a l c, v = .slice a l c := by
  rcases h.2 with ⟨e, _⟩ | ⟨g, cap, cur, e, _⟩
  · exact ⟨_, _, _, e⟩
  · exact ⟨_, _, _, e⟩

set_option maxHeartbeats 4000000 in
set_option maxRecDepth 100000 in
theorem change_any {w : World} {N : List Nd} {E : List Ed} {na : Option Addr} {nl : Nat} {ea : Option Addr} {el : Nat} (h : GrOk w N E na nl ea el) (nx : Int) {M : List Nd} {F : List Ed} {ma : Option Addr} {ml : Nat} {fa : Option Addr} {fl : Nat} (h' : GrOk w M F ma ml fa fl) (mx : Int) (nc ec mc fc : Nat) (kind : ByteArray) (W : World) (k : Below w.heap.size w W) (er : Int) (her : er = if gE N E nx = 0 then gE M F mx else gE N E nx) :
    Calls Tryz.prog 20 #[.agg #[.slice na nl nc, .slice ea el ec, .int .i64 nx], .agg #[.slice ma ml mc, .slice fa fl fc, .int .i64 mx], .string kind] W fun e w' => ∃ a l c a' l' c', e = .returned (.tuple #[.slice a l c, .slice a' l' c', .int .i64 er]) ∧ (er = 0 → w'.ownsRow W.heap.size 33 2 (.slice a l c) (lessP (allF N E kind) (allF M F kind)).length (pcells (lessP (allF N E kind) (allF M F kind))) ∧ w'.ownsRow W.heap.size 33 2 (.slice a' l' c') (lessP (allF M F kind) (allF N E kind)).length (pcells (lessP (allF M F kind) (allF N E kind)))) ∧ Below W.heap.size W w' := by
  have HC1 : Hid (∀ X, Below W.heap.size W X → Calls Tryz.prog 25 #[.agg #[.slice na nl nc, .slice ea el ec, .int .i64 nx]] X fun e w' => e = .returned (.int .i64 (gE N E nx)) ∧ Below X.heap.size X w') := fun X kx => check_ok h nc ec nx X (below2 k kx)
  have HC2 : Hid (∀ X, Below W.heap.size W X → Calls Tryz.prog 25 #[.agg #[.slice ma ml mc, .slice fa fl fc, .int .i64 mx]] X fun e w' => e = .returned (.int .i64 (gE M F mx)) ∧ Below X.heap.size X w') := fun X kx => check_ok h' mc fc mx X (below2 k kx)
  have HP1 : Hid (er = 0 → ∀ X, Below W.heap.size W X → Calls Tryz.prog 26 #[.agg #[.slice na nl nc, .slice ea el ec, .int .i64 nx], .string kind] X fun e w' => ∃ v, e = .returned v ∧ w'.ownsRow X.heap.size 33 2 v (allF N E kind).length (pcells (allF N E kind)) ∧ Below X.heap.size X w') := fun e0 X kx => pairs_ok h (by
    by_cases h0 : gE N E nx = 0
    · exact h0
    · rw [if_neg h0] at her; exact absurd (her.symm.trans e0) h0) nc ec kind X (below2 k kx)
  have HP2 : Hid (er = 0 → ∀ X, Below W.heap.size W X → Calls Tryz.prog 26 #[.agg #[.slice ma ml mc, .slice fa fl fc, .int .i64 mx], .string kind] X fun e w' => ∃ v, e = .returned v ∧ w'.ownsRow X.heap.size 33 2 v (allF M F kind).length (pcells (allF M F kind)) ∧ Below X.heap.size X w') := fun e0 X kx => pairs_ok h' (by
    by_cases h0 : gE N E nx = 0
    · rw [if_pos h0] at her; exact her.symm.trans e0
    · rw [if_neg h0] at her; exact absurd (her.symm.trans e0) h0) mc fc kind X (below2 k kx)
  have HL : Hid (er = 0 → (allF N E kind).length ≤ 1000000 ∧ (allF M F kind).length ≤ 1000000) := fun e0 => by
    have g1 : gE N E nx = 0 := by
      by_cases h0 : gE N E nx = 0
      · exact h0
      · rw [if_neg h0] at her; exact absurd (her.symm.trans e0) h0
    have g2 : gE M F mx = 0 := by rw [if_pos g1] at her; exact her.symm.trans e0
    have r1 := gE_ok g1
    have r2 := gE_ok g2
    have a1 := r1.fewN
    have a2 := r1.fewE
    have a3 := r2.fewN
    have a4 := r2.fewE
    exact ⟨all_len N E kind (by omega) (by omega), all_len M F kind (by omega) (by omega)⟩
  have HER := toHid her
  obtain ⟨A, hA⟩ : ∃ A, A = allF N E kind := ⟨_, rfl⟩
  obtain ⟨B, hB⟩ : ∃ B, B = allF M F kind := ⟨_, rfl⟩
  rw [← hA] at HP1 HL ⊢
  rw [← hB] at HP2 HL ⊢
  clear h h' k her hA hB
  generalize gE N E nx = e1 at HC1 HER
  generalize gE M F mx = e2 at HC2 HER
  have hb0 : Below W.heap.size W ((W.alloc (.cells #[.slice na nl nc, .slice ea el ec, .int .i64 nx] 25)).alloc (.cells #[.slice ma ml mc, .slice fa fl fc, .int .i64 mx] 25)) := ((Below.refl _ _).alloc (Nat.le_refl _) _).alloc (by simp) _
  have HB := toHid hb0
  have HG1 : Hid (((W.alloc (.cells #[.slice na nl nc, .slice ea el ec, .int .i64 nx] 25)).alloc (.cells #[.slice ma ml mc, .slice fa fl fc, .int .i64 mx] 25)).heap[W.heap.size]? = some (.cells #[.slice na nl nc, .slice ea el ec, .int .i64 nx] 25 (0, 0))) := (Below.heap_alloc _ _ _ (by simp)).trans (alloc_new W _)
  have HG2 := toHid (alloc_two W (.cells #[.slice na nl nc, .slice ea el ec, .int .i64 nx] 25) (.cells #[.slice ma ml mc, .slice fa fl fc, .int .i64 mx] 25))
  clear hb0
  go_enter Tryz.func20, Tryz.ntmps20
  go_upto_region 1 with fail
  generalize (W.alloc (.cells #[.slice na nl nc, .slice ea el ec, .int .i64 nx] 25)).alloc (.cells #[.slice ma ml mc, .slice fa fl fc, .int .i64 mx] 25) = X at HB HG1 HG2 ⊢
  have HS : Hid (∀ W' : World, Below X.heap.size X W' → (W'.cell? ⟨W.heap.size, 0, none⟩ = some (.slice na nl nc) ∧ W'.cell? ⟨W.heap.size, 1, none⟩ = some (.slice ea el ec) ∧ W'.cell? ⟨W.heap.size, 2, none⟩ = some (.int .i64 nx) ∧ W'.cell? ⟨W.heap.size + 1, 0, none⟩ = some (.slice ma ml mc) ∧ W'.cell? ⟨W.heap.size + 1, 1, none⟩ = some (.slice fa fl fc) ∧ W'.cell? ⟨W.heap.size + 1, 2, none⟩ = some (.int .i64 mx))) := by
    intro W' k
    have q1 := (k.block _ (blk_lt HG1.out)).trans HG1.out
    have q2 := (k.block _ (blk_lt HG2.out)).trans HG2.out
    exact ⟨cell_of q1 0, cell_of q1 1, cell_of q1 2, cell_of q2 0, cell_of q2 1, cell_of q2 2⟩
  have D0 : Below X.heap.size X X.drew := (Below.refl _ _).drew
  obtain ⟨x0, x1, x2, x3, x4, x5⟩ := HS.out X (Below.refl _ _)
  have hl1 : W.heap.size < X.heap.size := blk_lt HG1.out
  have hl2 : W.heap.size + 1 < X.heap.size := blk_lt HG2.out
  go_cut [8] (fun s8 wx => s8 = .int .i64 er ∧ Below X.heap.size X wx)
  case first =>
    go_region_held3 (fun W' => (W'.cell? ⟨W.heap.size, 0, none⟩ = some (.slice na nl nc) ∧ W'.cell? ⟨W.heap.size, 1, none⟩ = some (.slice ea el ec) ∧ W'.cell? ⟨W.heap.size, 2, none⟩ = some (.int .i64 nx) ∧ W'.cell? ⟨W.heap.size + 1, 0, none⟩ = some (.slice ma ml mc) ∧ W'.cell? ⟨W.heap.size + 1, 1, none⟩ = some (.slice fa fl fc) ∧ W'.cell? ⟨W.heap.size + 1, 2, none⟩ = some (.int .i64 mx)))
      (first
        | with_reducible exact HS.out _ k3
        | with_reducible exact HS.out _ k2
        | with_reducible exact HS.out _ k1
        | with_reducible exact HS.out _ D0
        | exact ⟨x0, x1, x2, x3, x4, x5⟩
        | go_keep)
      (first
        | (go_at_call 40; go_fit (or_two e1 e2 er HER.out u2.heap.size (u2.alloc (.cells #[.int .i64 e1, .int .i64 e2] 27)) (cell_of (alloc_new u2 _) 0) (cell_of (alloc_new u2 _) 1)); rintro e u4 ⟨rfl, rfl⟩)
        | (go_at_call 25; go_fit (HC2.out _ (below2 HB.out k1)); rintro e u2 ⟨rfl, h2⟩; have k2 : Below X.heap.size X u2 := below2 k1 h2; have k3 : Below X.heap.size X (u2.alloc (.cells #[.int .i64 e1, .int .i64 e2] 27)) := k2.alloc k2.size _)
        | (go_at_call 25; go_fit (HC1.out _ (below2 HB.out D0)); rintro e u1 ⟨rfl, h1⟩; have k1 : Below X.heap.size X u1 := D0.trans h1))
    all_goals
      go_wp2_with fail
      go_meet
      exact ⟨rfl, k3⟩
  case rest =>
    obtain ⟨rfl, kc⟩ := hcut
    have HKC := toHid kc
    have HBC := toHid (below2 HB.out kc)
    clear x0 x1 x2 x3 x4 x5 D0 kc HC1 HC2
    by_cases her : er = 0
    case neg =>
      have hz : (er != 0) = true := by simp [her]
      go_wp2_with fail
      exact bodyPost_ret (v := .tuple #[.slice none 0 0, .slice none 0 0, .int .i64 er]) (by simp [results, Tryz.results20, go_sem]) rfl ⟨_, _, _, _, _, _, rfl, fun h => absurd h her, HBC.out⟩
    have hz : (er != 0) = false := by simp [her]
    have H0 := toHid her
    clear her
    go_upto_region 4 with fail
    have HS2 : Hid (∀ W' : World, Below wc.heap.size wc W' → (W'.cell? ⟨W.heap.size, 0, none⟩ = some (.slice na nl nc) ∧ W'.cell? ⟨W.heap.size, 1, none⟩ = some (.slice ea el ec) ∧ W'.cell? ⟨W.heap.size, 2, none⟩ = some (.int .i64 nx) ∧ W'.cell? ⟨W.heap.size + 1, 0, none⟩ = some (.slice ma ml mc) ∧ W'.cell? ⟨W.heap.size + 1, 1, none⟩ = some (.slice fa fl fc) ∧ W'.cell? ⟨W.heap.size + 1, 2, none⟩ = some (.int .i64 mx))) := fun W' k => HS.out W' (below2 HKC.out k)
    have D0 : Below wc.heap.size wc wc.drew := (Below.refl _ _).drew
    obtain ⟨x0, x1, x2, x3, x4, x5⟩ := HS2.out wc (Below.refl _ _)
    go_cut [9, 10] (fun s9 s10 wx => ∃ a l c a' l' c', s9 = .slice a l c ∧ s10 = .slice a' l' c' ∧ wx.ownsRow W.heap.size 33 2 (.slice a l c) A.length (pcells A) ∧ wx.ownsRow W.heap.size 33 2 (.slice a' l' c') B.length (pcells B) ∧ Below wc.heap.size wc wx)
    case first =>
      go_region_held3 (fun W' => (W'.cell? ⟨W.heap.size, 0, none⟩ = some (.slice na nl nc) ∧ W'.cell? ⟨W.heap.size, 1, none⟩ = some (.slice ea el ec) ∧ W'.cell? ⟨W.heap.size, 2, none⟩ = some (.int .i64 nx) ∧ W'.cell? ⟨W.heap.size + 1, 0, none⟩ = some (.slice ma ml mc) ∧ W'.cell? ⟨W.heap.size + 1, 1, none⟩ = some (.slice fa fl fc) ∧ W'.cell? ⟨W.heap.size + 1, 2, none⟩ = some (.int .i64 mx)))
        (first
          | with_reducible exact HS2.out _ k2
          | with_reducible exact HS2.out _ k1
          | with_reducible exact HS2.out _ D0
          | exact ⟨x0, x1, x2, x3, x4, x5⟩
          | go_keep)
        (first
          | (go_at_call 26; go_fit (HP2.out H0.out _ (below2 HBC.out k1)); rintro e u2 ⟨v2, rfl, hv2, h2⟩; have k2 : Below wc.heap.size wc u2 := below2 k1 h2)
          | (go_at_call 26; go_fit (HP1.out H0.out _ (below2 HBC.out D0)); rintro e u1 ⟨v1, rfl, hv1, h1⟩; have k1 : Below wc.heap.size wc u1 := D0.trans h1))
      all_goals
        go_wp2_with fail
        go_meet
        obtain ⟨a, l, c, rfl⟩ := slice_row hv1
        obtain ⟨a', l', c', rfl⟩ := slice_row hv2
        exact ⟨a, l, c, a', l', c', rfl, rfl, row_up (row_kept1 hv1 fun g hg => h2.block g (hv1.lt g hg).2) (Nat.le_trans HBC.out.size D0.size), row_up hv2 (Nat.le_trans HBC.out.size k1.size), k2⟩
    case rest =>
      obtain ⟨a, l, c, a', l', c', rfl, rfl, hv1, hv2, kx⟩ := hcut
      have HV1 := toHid hv1
      have HV2 := toHid hv2
      have HBX := toHid (below2 HBC.out kx)
      have HLL := toHid (HL.out H0.out)
      clear x0 x1 x2 x3 x4 x5 D0 hv1 hv2 kx
      go_wp2_with fail
      refine (without_any A B a l c a' l' c' _ (prs_row HV1.out HLL.out.1) (prs_row HV2.out HLL.out.2)).mono ?_
      rintro e u3 ⟨v3, rfl, hv3, k3⟩
      obtain ⟨p1, p2, p3, rfl⟩ := slice_row hv3
      have HV3 := toHid hv3
      have HK3 := toHid k3
      clear hv3 k3
      go_wp2_with fail
      refine (without_any B A a' l' c' a l c _ ((prs_row HV2.out HLL.out.2).below HK3.out) ((prs_row HV1.out HLL.out.1).below HK3.out)).mono ?_
      rintro e u4 ⟨v4, rfl, hv4, k4⟩
      obtain ⟨q1, q2, q3, rfl⟩ := slice_row hv4
      have HV4 := toHid hv4
      have HK4 := toHid k4
      clear hv4 k4
      go_wp2_with fail
      have e0 := H0.out
      subst e0
      exact bodyPost_ret (v := .tuple #[.slice p1 p2 p3, .slice q1 q2 q3, .int .i64 0]) (by simp [results, Tryz.results20, go_sem]) rfl ⟨_, _, _, _, _, _, rfl, fun _ => ⟨row_up (row_kept1 HV3.out fun g hg => HK4.out.block g (HV3.out.lt g hg).2) HBX.out.size, row_up HV4.out (Nat.le_trans HBX.out.size HK3.out.size)⟩, below2 (below2 HBX.out HK3.out) HK4.out⟩

set_option linter.unusedSimpArgs false

set_option maxHeartbeats 4000000 in
set_option maxRecDepth 100000 in
theorem equalP_same (L : List (Int × Int)) (a : Option Addr) (l c : Nat) (a' : Option Addr) (l' c' : Nat) (w : World) (h : PrsAt w L a l) (h' : PrsAt w L a' l') :
    Calls Tryz.prog 10 #[.slice a l c, .slice a' l' c'] w fun e w' => e = .returned (.bool true) ∧ Below w.heap.size w w' := by
  obtain ⟨hl, hmx, hat⟩ := h
  obtain ⟨hl', hmx', hat'⟩ := h'
  have hll : l' = l := by omega
  subst hll
  have HL := toHid hl
  have HAT := toHid hat
  have HAT' := toHid hat'
  clear hl hl' hat hat'
  go_enter Tryz.func10, Tryz.ntmps10
  go_wp2_with fail
  go_loopg [13] l' (fun g s13 wr => ∃ i : Nat, i ≤ l' ∧ l' - i ≤ g ∧ s13 = .int .i64 i ∧ Below w.heap.size w wr)
  case atStart => exact ⟨0, Nat.zero_le _, by omega, rfl, Below.refl _ _⟩
  case round =>
    obtain ⟨i, hi, hg, rfl, hbw⟩ := hrel
    by_cases hlt : i < l'
    · obtain ⟨b, off, ha, hb, hc⟩ := HAT.out (by omega)
      obtain ⟨b', off', ha', hb', hc'⟩ := HAT'.out (by omega)
      subst ha ha'
      obtain ⟨x, hx, hd⟩ := drop_get (L := L) (i := i) (by have := HL.out; omega)
      have d0 := (hbw.cell (p := ⟨b, off + i * 2, none⟩) hb).trans (hc i x hx).1
      have d1 := (hbw.cell (p := ⟨b, off + i * 2 + 1, none⟩) hb).trans (hc i x hx).2
      have d2 := (hbw.cell (p := ⟨b', off' + i * 2, none⟩) hb').trans (hc' i x hx).1
      have d3 := (hbw.cell (p := ⟨b', off' + i * 2 + 1, none⟩) hb').trans (hc' i x hx).2
      clear hc hc' hd hx
      have heq : ∀ X : World, (Op.equalIn 10000 33 (.agg #[.int .i64 x.1, .int .i64 x.2]) (.agg #[.int .i64 x.1, .int .i64 x.2])).run Tryz.prog X = .ok true X := fun X => by
        have := equal_p x x X
        simp only [decide_true] at this
        exact this
      have hgd := fun (op : BinOp) (o1 o2 : Operand) (X : World) => GuardAt.agg (P := Tryz.prog) (T := 33) (fun p : Int × Int => #[.int .i64 p.1, .int .i64 p.2]) (by kernel_rfl) op o1 o2 x x X
      go_wp2_with fail
      go_quiet (fail)
      go_wp2_with fail
      go_roundg (l' - (i + 1))
      case measure => omega
      case rel => exact ⟨i + 1, by omega, by omega, by go_num, hbw.trans ((below_drewN _ _).mono hbw.size)⟩
    · go_wp2_with fail
      go_ret
      exact ⟨rfl, hbw⟩

set_option linter.unusedSimpArgs false

def nds3 (lb : Nat) : List Nd := [⟨1, [], none, 0, 0, [], none, 0, 0⟩, ⟨2, [], none, 0, 0, [], none, 0, 0⟩, ⟨3, [⟨#[65]⟩], some ⟨lb, 0, none⟩, 1, 1, [], none, 0, 0⟩]
def eds3 : List Ed := [⟨4, 1, 2, ⟨#[75]⟩, [], none, 0, 0⟩, ⟨5, 2, 3, ⟨#[75]⟩, [], none, 0, 0⟩]

theorem bk_new {w : World} {p : Nat} {o : Obj} (h : p = w.heap.size) : (w.alloc o).heap[p]? = some o := by
  subst h
  exact alloc_new w o

theorem bk_al {w : World} {p : Nat} {o o' : Obj} (h : w.heap[p]? = some o) : (w.alloc o').heap[p]? = some o := (Below.heap_alloc _ _ _ (blk_lt h)).trans h

theorem gr3 {w : World} {lb nb eb : Nat} (h1 : w.heap[lb]? = some (.cells #[.string ⟨#[65]⟩] 9 (0, 0))) (h2 : w.heap[nb]? = some (.cells #[.int .i64 1, .slice none 0 0, .slice none 0 0, .int .i64 2, .slice none 0 0, .slice none 0 0, .int .i64 3, .slice (some ⟨lb, 0, none⟩) 1 1, .slice none 0 0] 72 (0, 0))) (h3 : w.heap[eb]? = some (.cells #[.int .i64 4, .int .i64 1, .int .i64 2, .string ⟨#[75]⟩, .slice none 0 0, .int .i64 5, .int .i64 2, .int .i64 3, .string ⟨#[75]⟩, .slice none 0 0] 47 (0, 0))) : GrOk w (nds3 lb) eds3 (some ⟨nb, 0, none⟩) 3 (some ⟨eb, 0, none⟩) 2 := by
  refine ⟨⟨rfl, by omega, fun _ => ⟨nb, 0, rfl, blk_lt h2, fun i s hs => ?_⟩⟩, ⟨rfl, by omega, fun _ => ⟨eb, 0, rfl, blk_lt h3, fun i s hs => ?_⟩⟩, fun x hx => ?_, fun x hx => ?_⟩
  · match i, hs with
    | 0, hs =>
      simp [nds3] at hs
      subst hs
      exact ⟨cell_of h2 0, cell_of h2 1, cell_of h2 2⟩
    | 1, hs =>
      simp [nds3] at hs
      subst hs
      exact ⟨cell_of h2 3, cell_of h2 4, cell_of h2 5⟩
    | 2, hs =>
      simp [nds3] at hs
      subst hs
      exact ⟨cell_of h2 6, cell_of h2 7, cell_of h2 8⟩
    | i + 3, hs => simp [nds3] at hs
  · match i, hs with
    | 0, hs =>
      simp [eds3] at hs
      subst hs
      exact ⟨by decide, cell_of h3 0, cell_of h3 1, cell_of h3 2, cell_of h3 3, cell_of h3 4⟩
    | 1, hs =>
      simp [eds3] at hs
      subst hs
      exact ⟨by decide, cell_of h3 5, cell_of h3 6, cell_of h3 7, cell_of h3 8, cell_of h3 9⟩
    | i + 2, hs => simp [eds3] at hs
  · simp [nds3] at hx
    rcases hx with rfl | rfl | rfl
    · exact ⟨strs_none _ _, props_none _ _, fun p hp => by cases hp⟩
    · exact ⟨strs_none _ _, props_none _ _, fun p hp => by cases hp⟩
    · refine ⟨⟨rfl, by show (1 : Nat) ≤ _; omega, fun _ => ⟨lb, 0, rfl, blk_lt h1, fun i s hs => ?_⟩⟩, props_none _ _, fun p hp => by cases hp⟩
      cases i with
      | zero =>
        simp at hs
        subst hs
        exact ⟨by decide, cell_of h1 0⟩
      | succ i => simp at hs
  · simp [eds3] at hx
    rcases hx with rfl | rfl
    · exact ⟨props_none _ _, fun p hp => by cases hp⟩
    · exact ⟨props_none _ _, fun p hp => by cases hp⟩

theorem gE_3 (lb : Nat) : gE (nds3 lb) eds3 6 = 0 := by
  have a1 := labs_K
  have a3 : labsE [] = 0 := by simp [labsE, labE]
  have a4 : prsE [] = 0 := by simp [prsE, prE]
  have a5 : nm ⟨#[75]⟩ = true := by decide
  have n1 : ndE 0 (nds3 lb) = 0 := by simp [ndE, ndOne, nds3, a1, a3, a4]
  have e1 : edE (nds3 lb) 0 eds3 = 0 := by simp [edE, edOne, eds3, hasN, nds3, a4, a5]
  have l1 : lastI 0 ((nds3 lb).map Nd.id) = 3 := rfl
  have l2 : lastI 0 (eds3.map Ed.id) = 5 := rfl
  rw [gE, n1, e1, l1, l2]
  simp [nds3, eds3]

set_option maxHeartbeats 4000000 in
set_option maxRecDepth 100000 in
theorem line3_any (w : World) : Calls Tryz.prog 30 #[] w fun e w' => (∃ lb nb eb, e = .returned (.agg #[.slice (some ⟨nb, 0, none⟩) 3 3, .slice (some ⟨eb, 0, none⟩) 2 2, .int .i64 6]) ∧ GrOk w' (nds3 lb) eds3 (some ⟨nb, 0, none⟩) 3 (some ⟨eb, 0, none⟩) 2) ∧ Below w.heap.size w w' := by
  go_enter Tryz.func30, Tryz.ntmps30
  go_wp2_with fail
  have hbb : Below w.heap.size w ((((w.alloc (.cells #[.slice (some ⟨w.heap.size + 1 + 1, 0, none⟩) 3 3, .slice (some ⟨w.heap.size + 1 + 1 + 1, 0, none⟩) 2 2, .int .i64 6] 25)).alloc (.cells #[.string ⟨#[65]⟩] 9)).alloc (.cells #[.int .i64 1, .slice none 0 0, .slice none 0 0, .int .i64 2, .slice none 0 0, .slice none 0 0, .int .i64 3, .slice (some ⟨w.heap.size + 1, 0, none⟩) 1 1, .slice none 0 0] 72)).alloc (.cells #[.int .i64 4, .int .i64 1, .int .i64 2, .string ⟨#[75]⟩, .slice none 0 0, .int .i64 5, .int .i64 2, .int .i64 3, .string ⟨#[75]⟩, .slice none 0 0] 47)) := ((((Below.refl _ _).alloc (Nat.le_refl _) _).alloc (by simp) _).alloc (by simp; omega) _).alloc (by simp; omega) _
  have g0 : ((((w.alloc (.cells #[.slice (some ⟨w.heap.size + 1 + 1, 0, none⟩) 3 3, .slice (some ⟨w.heap.size + 1 + 1 + 1, 0, none⟩) 2 2, .int .i64 6] 25)).alloc (.cells #[.string ⟨#[65]⟩] 9)).alloc (.cells #[.int .i64 1, .slice none 0 0, .slice none 0 0, .int .i64 2, .slice none 0 0, .slice none 0 0, .int .i64 3, .slice (some ⟨w.heap.size + 1, 0, none⟩) 1 1, .slice none 0 0] 72)).alloc (.cells #[.int .i64 4, .int .i64 1, .int .i64 2, .string ⟨#[75]⟩, .slice none 0 0, .int .i64 5, .int .i64 2, .int .i64 3, .string ⟨#[75]⟩, .slice none 0 0] 47)).heap[w.heap.size]? = some (.cells #[.slice (some ⟨w.heap.size + 1 + 1, 0, none⟩) 3 3, .slice (some ⟨w.heap.size + 1 + 1 + 1, 0, none⟩) 2 2, .int .i64 6] 25 (0, 0)) := bk_al (bk_al (bk_al (bk_new rfl)))
  have g1 : ((((w.alloc (.cells #[.slice (some ⟨w.heap.size + 1 + 1, 0, none⟩) 3 3, .slice (some ⟨w.heap.size + 1 + 1 + 1, 0, none⟩) 2 2, .int .i64 6] 25)).alloc (.cells #[.string ⟨#[65]⟩] 9)).alloc (.cells #[.int .i64 1, .slice none 0 0, .slice none 0 0, .int .i64 2, .slice none 0 0, .slice none 0 0, .int .i64 3, .slice (some ⟨w.heap.size + 1, 0, none⟩) 1 1, .slice none 0 0] 72)).alloc (.cells #[.int .i64 4, .int .i64 1, .int .i64 2, .string ⟨#[75]⟩, .slice none 0 0, .int .i64 5, .int .i64 2, .int .i64 3, .string ⟨#[75]⟩, .slice none 0 0] 47)).heap[w.heap.size + 1]? = some (.cells #[.string ⟨#[65]⟩] 9 (0, 0)) := bk_al (bk_al (bk_new (by simp)))
  have g2 : ((((w.alloc (.cells #[.slice (some ⟨w.heap.size + 1 + 1, 0, none⟩) 3 3, .slice (some ⟨w.heap.size + 1 + 1 + 1, 0, none⟩) 2 2, .int .i64 6] 25)).alloc (.cells #[.string ⟨#[65]⟩] 9)).alloc (.cells #[.int .i64 1, .slice none 0 0, .slice none 0 0, .int .i64 2, .slice none 0 0, .slice none 0 0, .int .i64 3, .slice (some ⟨w.heap.size + 1, 0, none⟩) 1 1, .slice none 0 0] 72)).alloc (.cells #[.int .i64 4, .int .i64 1, .int .i64 2, .string ⟨#[75]⟩, .slice none 0 0, .int .i64 5, .int .i64 2, .int .i64 3, .string ⟨#[75]⟩, .slice none 0 0] 47)).heap[w.heap.size + 1 + 1]? = some (.cells #[.int .i64 1, .slice none 0 0, .slice none 0 0, .int .i64 2, .slice none 0 0, .slice none 0 0, .int .i64 3, .slice (some ⟨w.heap.size + 1, 0, none⟩) 1 1, .slice none 0 0] 72 (0, 0)) := bk_al (bk_new (by simp))
  have g3 : ((((w.alloc (.cells #[.slice (some ⟨w.heap.size + 1 + 1, 0, none⟩) 3 3, .slice (some ⟨w.heap.size + 1 + 1 + 1, 0, none⟩) 2 2, .int .i64 6] 25)).alloc (.cells #[.string ⟨#[65]⟩] 9)).alloc (.cells #[.int .i64 1, .slice none 0 0, .slice none 0 0, .int .i64 2, .slice none 0 0, .slice none 0 0, .int .i64 3, .slice (some ⟨w.heap.size + 1, 0, none⟩) 1 1, .slice none 0 0] 72)).alloc (.cells #[.int .i64 4, .int .i64 1, .int .i64 2, .string ⟨#[75]⟩, .slice none 0 0, .int .i64 5, .int .i64 2, .int .i64 3, .string ⟨#[75]⟩, .slice none 0 0] 47)).heap[w.heap.size + 1 + 1 + 1]? = some (.cells #[.int .i64 4, .int .i64 1, .int .i64 2, .string ⟨#[75]⟩, .slice none 0 0, .int .i64 5, .int .i64 2, .int .i64 3, .string ⟨#[75]⟩, .slice none 0 0] 47 (0, 0)) := bk_new (by simp)
  generalize ((((w.alloc (.cells #[.slice (some ⟨w.heap.size + 1 + 1, 0, none⟩) 3 3, .slice (some ⟨w.heap.size + 1 + 1 + 1, 0, none⟩) 2 2, .int .i64 6] 25)).alloc (.cells #[.string ⟨#[65]⟩] 9)).alloc (.cells #[.int .i64 1, .slice none 0 0, .slice none 0 0, .int .i64 2, .slice none 0 0, .slice none 0 0, .int .i64 3, .slice (some ⟨w.heap.size + 1, 0, none⟩) 1 1, .slice none 0 0] 72)).alloc (.cells #[.int .i64 4, .int .i64 1, .int .i64 2, .string ⟨#[75]⟩, .slice none 0 0, .int .i64 5, .int .i64 2, .int .i64 3, .string ⟨#[75]⟩, .slice none 0 0] 47)) = Y at hbb g0 g1 g2 g3 ⊢
  have t0 := cell_of g0 0
  have t1 := cell_of g0 1
  have t2 := cell_of g0 2
  simp at t0 t1 t2
  exact bodyPost_ret (v := .agg #[.slice (some ⟨w.heap.size + 1 + 1, 0, none⟩) 3 3, .slice (some ⟨w.heap.size + 1 + 1 + 1, 0, none⟩) 2 2, .int .i64 6]) (by simp [results, Tryz.results30, go_sem, t0, t1, t2]) rfl ⟨⟨w.heap.size + 1, _, _, rfl, gr3 g1 g2 g3⟩, hbb⟩

def way3 (i : Int) : List Ed := eds3.filter fun x => decide (x.frm = i)

theorem way3_of {kind : ByteArray} (h : ∀ x ∈ eds3, goesB kind x = true) : wayF eds3 kind = way3 := by
  funext i
  unfold wayF way3
  apply List.filter_congr
  intro x hx
  rw [h x hx]
  simp

theorem goes3 : ∀ x ∈ eds3, goesB ⟨#[75]⟩ x = true := fun x hx => by
  simp [eds3] at hx
  rcases hx with rfl | rfl
  · simp [goesB]
  · simp [goesB]

theorem goes0 : ∀ x ∈ eds3, goesB ⟨#[]⟩ x = true := fun x hx => by
  unfold goesB
  rw [ByteArray.toList_eq]
  rfl

theorem raw3 (lb : Nat) : rawsF ((nds3 lb).map (·.id)) eds3 ⟨#[75]⟩ = [(1, 2), (1, 3), (2, 3)] := by
  unfold rawsF rawF
  rw [way3_of goes3]
  rfl

theorem all3 (lb : Nat) : allF (nds3 lb) eds3 ⟨#[75]⟩ = [(1, 2), (1, 3), (2, 3)] := by
  unfold allF sortP
  rw [raw3]
  apply List.mergeSort_of_pairwise
  simp [ord_lt]

theorem walk3 : walkF (wayF eds3 ⟨#[]⟩) (eds3.length + 2) (st0 1) = eds3 := by
  rw [way3_of goes0]
  rfl

theorem last3 : lastF eds3 3 = some (edV ⟨5, 2, 3, ⟨#[75]⟩, [], none, 0, 0⟩) := rfl
theorem chain3 : Chain (lastF eds3) 1 [⟨5, 2, 3, ⟨#[75]⟩, [], none, 0, 0⟩, ⟨4, 1, 2, ⟨#[75]⟩, [], none, 0, 0⟩] := ⟨by decide, rfl, rfl⟩
end Go.Proofs.YtebbjmjgojekdaaGreatDoor
