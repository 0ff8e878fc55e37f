/-
  What is proved here: what the texts RReached, RNone, RMapB, RReachP prove, in one text.
-/
import Derived.Test.YtebbjmjgojekdaaGreatDoorQCAO
import Derived.Test.YtebbjmjgojekdaaGreatDoorQCAL
import Derived.Test.YtebbjmjgojekdaaGreatDoorQCAJ
namespace Go.Proofs.YtebbjmjgojekdaaGreatDoor
open Go.RowKit
set_option linter.unusedVariables false

set_option linter.unusedSimpArgs false

theorem prs_blk {w : World} {b : Nat} (h : w.heap[b]? = some (.cells #[.int .i64 1, .int .i64 2, .int .i64 1, .int .i64 3, .int .i64 2, .int .i64 3] 33 (0, 0))) : PrsAt w [(1, 2), (1, 3), (2, 3)] (some ⟨b, 0, none⟩) 3 := by
  refine ⟨rfl, by omega, fun _ => ⟨b, 0, rfl, blk_lt h, fun i p hp => ?_⟩⟩
  match i, hp with
  | 0, hp =>
    simp at hp
    subst hp
    exact ⟨cell_of h 0, cell_of h 1⟩
  | 1, hp =>
    simp at hp
    subst hp
    exact ⟨cell_of h 2, cell_of h 3⟩
  | 2, hp =>
    simp at hp
    subst hp
    exact ⟨cell_of h 4, cell_of h 5⟩
  | i + 3, hp => simp at hp

theorem ints_row {w : World} {B : Nat} {a : Option Addr} {l c : Nat} {L : List Int} (h : w.ownsRow B 3 1 (.slice a l c) L.length (intsV L)) : IntsAt w L a l := by
  obtain ⟨h1, _, h2⟩ := row_len h
  refine ⟨h1, by omega, fun h0 => ?_⟩
  obtain ⟨g, ha, _, _, hg, hc⟩ := row_at h (by omega)
  refine ⟨g, 0, ha, hg, fun i x hx => ?_⟩
  exact hc i _ (by simp [intsV, hx])

theorem ints_blk2 {w : World} {b : Nat} (h : w.heap[b]? = some (.cells #[.int .i64 4, .int .i64 5] 3 (0, 0))) : IntsAt w [4, 5] (some ⟨b, 0, none⟩) 2 := by
  refine ⟨rfl, by omega, fun _ => ⟨b, 0, rfl, blk_lt h, fun i x hx => ?_⟩⟩
  match i, hx with
  | 0, hx => simp at hx; subst hx; exact cell_of h 0
  | 1, hx => simp at hx; subst hx; exact cell_of h 1
  | i + 2, hx => simp at hx

theorem slice_int {w : World} {B n : Nat} {v : Value} {xs : List Value} (h : w.ownsRow B 3 1 v n xs) : ∃ a l c, v = .slice a l c := by
  rcases h.2 with ⟨e, _⟩ | ⟨g, cap, cur, e, _⟩
  · exact ⟨_, _, _, e⟩
  · exact ⟨_, _, _, e⟩

set_option maxHeartbeats 4000000 in
set_option maxRecDepth 100000 in
theorem reached_true (w : World) : Calls Tryz.prog 9 #[] w fun e w' => e = .returned (.bool true) ∧ Below w.heap.size w w' := by
  go_enter Tryz.func9, Tryz.ntmps9
  go_wp2_with fail
  refine (line3_any _).mono ?_
  rintro e w1 ⟨⟨lb, nb, eb, rfl, hgr⟩, k1⟩
  have HA := toHid (all_good hgr (gE_3 lb) 3 2 ⟨#[75]⟩ w1 (Below.refl _ _))
  have HK1 := toHid k1
  clear hgr k1
  go_wp2_with fail
  refine HA.out.mono ?_
  rintro e w2 ⟨v2, rfl, hv2, k2⟩
  rw [all3] at hv2
  obtain ⟨a2, l2, c2, rfl⟩ := slice_row hv2
  have HP2 := toHid (prs_row (L := [(1, 2), (1, 3), (2, 3)]) hv2 (by decide))
  have HK2 := toHid (below2 HK1.out k2)
  clear hv2 k2 HA
  go_wp2_with fail
  refine (line3_any _).mono ?_
  rintro e w3 ⟨⟨lb', nb', eb', rfl, hgr⟩, k3⟩
  have HPT := toHid (path_good hgr (gE_3 lb') 3 2 ⟨#[]⟩ 1 3 ⟨5, 2, 3, ⟨#[75]⟩, [], none, 0, 0⟩ [⟨4, 1, 2, ⟨#[75]⟩, [], none, 0, 0⟩] (by rw [walk3]; exact last3) (by rw [walk3]; exact chain3) (by decide) w3 (Below.refl _ _))
  have HP3 := toHid (HP2.out.below k3)
  have HK3 := toHid (below2 HK2.out k3)
  clear hgr k3 HP2
  go_wp2_with fail
  refine HPT.out.mono ?_
  rintro e w4 ⟨v4, rfl, hv4, k4⟩
  obtain ⟨a4, l4, c4, rfl⟩ := slice_int hv4
  have HI4 : Hid (IntsAt w4 [4, 5] a4 l4) := ints_row (L := [4, 5]) hv4
  have HP4 := toHid (HP3.out.below k4)
  have HK4 := toHid (below2 HK3.out k4)
  clear hv4 k4 HP3 HPT
  have HBX : Hid (Below w4.heap.size w4 (w4.alloc (.cells #[.int .i64 1, .int .i64 2, .int .i64 1, .int .i64 3, .int .i64 2, .int .i64 3] 33))) := (Below.refl _ _).alloc (Nat.le_refl _) _
  have HBL := toHid (alloc_new w4 (.cells #[.int .i64 1, .int .i64 2, .int .i64 1, .int .i64 3, .int .i64 2, .int .i64 3] 33))
  have HEQ := toHid (equalP_same [(1, 2), (1, 3), (2, 3)] a2 l2 c2 (some ⟨w4.heap.size, 0, none⟩) 3 3 _ (HP4.out.below HBX.out) (prs_blk HBL.out))
  go_wp2_with fail
  refine HEQ.out.mono ?_
  rintro e w5 ⟨rfl, k5⟩
  have HK5 := toHid (below2 (below2 HK4.out HBX.out) k5)
  have HI5 := toHid (HI4.out.below (below2 HBX.out k5))
  clear k5 HEQ
  have HBY : Hid (Below w5.heap.size w5 (w5.alloc (.cells #[.int .i64 4, .int .i64 5] 3))) := (Below.refl _ _).alloc (Nat.le_refl _) _
  have HBM := toHid (alloc_new w5 (.cells #[.int .i64 4, .int .i64 5] 3))
  have HE2 := toHid (equal_ints [4, 5] [4, 5] a4 l4 c4 (some ⟨w5.heap.size, 0, none⟩) 2 2 _ (HI5.out.below HBY.out) (ints_blk2 HBM.out))
  go_wp2_with fail
  refine HE2.out.mono ?_
  rintro e w6 ⟨rfl, k6⟩
  have HK6 := toHid (below2 (below2 HK5.out HBY.out) k6)
  go_wp2_with fail
  go_ret
  exact ⟨rfl, HK6.out⟩

set_option linter.unusedSimpArgs false

set_option maxHeartbeats 4000000 in
set_option maxRecDepth 100000 in
theorem path_none {w : World} {N : List Nd} {E : List Ed} {na : Option Addr} {nl : Nat} {ea : Option Addr} {el : Nat} (h : GrOk w N E na nl ea el) {next : Int} (hg : gE N E next = 0) (nc ec : Nat) (kind : ByteArray) (i tgt : Int) (h0 : lastF (walkF (wayF E kind) (E.length + 2) (st0 i)) tgt = none) (W : World) (k : Below w.heap.size w W) :
    Calls Tryz.prog 13 #[.agg #[.slice na nl nc, .slice ea el ec, .int .i64 next], .string kind, .int .i64 i, .int .i64 tgt] W fun e w' => e = .returned (.tuple #[.slice none 0 0, .int .i64 5]) ∧ Below W.heap.size W w' := by
  have hE := h.2.1.below k
  have hel := (few_of h hg).2
  have hb0 : Below W.heap.size W (W.alloc (.cells #[.slice na nl nc, .slice ea el ec, .int .i64 next] 25)) := (Below.refl _ _).alloc (Nat.le_refl _) _
  have HC : Hid (∀ X, Below W.heap.size W X → Calls Tryz.prog 25 #[.agg #[.slice na nl nc, .slice ea el ec, .int .i64 next]] X fun e w' => e = .returned (.int .i64 0) ∧ Below X.heap.size X w') := fun X kx => by
    have := check_ok h nc ec next X (below2 k kx)
    rw [hg] at this
    exact this
  have HLV : Hid (∀ X, Below W.heap.size W X → Calls Tryz.prog 34 #[.slice ea el ec, .string kind] X fun e w' => e = .returned (.map (some X.heap.size)) ∧ (∃ f, OwnWays w' X.heap.size X.heap.size (wayF E kind) f) ∧ Below X.heap.size X w') := fun X kx => leaving_any E ea el ec kind X (hE.below kx) hel
  have HEL : Hid (E.length ≤ 1000) := by show _ ≤ _; rw [← hE.1]; exact hel
  have HTY : Hid (∀ x ∈ E, x.typ.size ≤ 9223372036854775807) := fun x hx => by
    obtain ⟨j, hj⟩ := List.getElem?_of_mem hx
    obtain ⟨h1, h2, h3⟩ := hE
    obtain ⟨b, off, _, _, hc⟩ := h3 (by have := (List.getElem?_eq_some_iff.1 hj).1; omega)
    exact (hc j x hj).1
  have HH0 := toHid h0
  have HB := toHid hb0
  have HG := toHid (alloc_new W (.cells #[.slice na nl nc, .slice ea el ec, .int .i64 next] 25))
  clear h hg k hb0 hE hel h0
  have hmm : ∀ X : World, (Instr.makeMap 79 none).run Tryz.prog X = .ok (.map (some X.heap.size)) (X.alloc (.map #[] 0)) := fun X => rfl
  go_enter Tryz.func13, Tryz.ntmps13
  go_wp2_with fail
  refine (HC.out _ HB.out).mono ?_
  rintro e w1 ⟨rfl, k1⟩
  have HB1 := toHid (below2 HB.out k1)
  have HG1 := toHid ((k1.block W.heap.size (by simp)).trans HG.out)
  have hgl : W.heap.size < w1.heap.size := blk_lt HG1.out
  clear k1
  go_upto_region 5 with fail
  have HB2 : Hid (Below W.heap.size W ((w1.alloc (.map #[] 0)).alloc (.cells #[.map (some w1.heap.size)] 79))) := (HB1.out.alloc HB1.out.size _).alloc (by have := HB1.out.size; simp; omega) _
  have HX1 : Hid (((w1.alloc (.map #[] 0)).alloc (.cells #[.map (some w1.heap.size)] 79)).heap[w1.heap.size]? = some (.map #[] 0)) := (Below.heap_alloc _ _ _ (by simp)).trans (alloc_new w1 _)
  have HX2 := toHid (alloc_two w1 (.map #[] 0) (.cells #[.map (some w1.heap.size)] 79))
  have HXZ : Hid (((w1.alloc (.map #[] 0)).alloc (.cells #[.map (some w1.heap.size)] 79)).heap.size = w1.heap.size + 2) := by show _ = _; simp
  have HXG : Hid (((w1.alloc (.map #[] 0)).alloc (.cells #[.map (some w1.heap.size)] 79)).heap[W.heap.size]? = some (.cells #[.slice na nl nc, .slice ea el ec, .int .i64 next] 25 (0, 0))) := (Below.heap_alloc _ _ _ (by simp; omega)).trans ((Below.heap_alloc _ _ _ hgl).trans HG1.out)
  generalize (w1.alloc (.map #[] 0)).alloc (.cells #[.map (some w1.heap.size)] 79) = X at HB2 HX1 HX2 HXZ HXG ⊢
  have g1 := cell_of HXG.out 1
  simp at g1
  have hgx : W.heap.size < X.heap.size := blk_lt HXG.out
  go_wp2_with fail
  refine (HLV.out X HB2.out).mono ?_
  rintro e w2 ⟨rfl, ⟨f, how⟩, k2⟩
  have HOW := toHid how
  have HK2 := toHid k2
  have HB3 := toHid (below2 HB2.out k2)
  have hL1 : w2.heap[w1.heap.size + 1]? = some (.cells #[.map (some w1.heap.size)] 79 (0, 0)) := (k2.block _ (by have := HXZ.out; omega)).trans HX2.out
  have hL2 : MapI w2 w1.heap.size (lastF []) := mapI_new (clk := 0) ((k2.block _ (by have := HXZ.out; omega)).trans HX1.out)
  have HWK := toHid (walk_path E (wayF E kind) (fun j x hx => way_mem hx) (fun j => List.length_filter_le _ _) HEL.out HTY.out w2 X.heap.size X.heap.size f how (vis_l (w1.heap.size + 1) w1.heap.size) (w1.heap.size + 1)
    (fun Y O out x hI hx hl => path1_any (w1.heap.size + 1) w1.heap.size (by omega) Y O out x hI)
    (fun k => k = w1.heap.size + 1 ∨ k = w1.heap.size) ⟨hL1, hL2, fun k => Iff.rfl⟩
    (fun h => by have := HXZ.out; omega)
    (fun j g hg h => by
      have hr := ((how.row j).lt g hg).1
      have := HXZ.out
      omega) i)
  clear how k2 hL1 hL2 g1
  go_wp2_with fail
  refine HWK.out.mono ?_
  rintro e w3 ⟨rfl, O', ⟨p1, p2, p3⟩, p4, p5⟩
  have HB4 : Hid (Below W.heap.size W w3) := HB3.out.trans ⟨p5.os, p5.tape, p5.output, p5.size, fun k hk => p5.block k (Nat.lt_of_lt_of_le hk HB3.out.size) (by have := hgl; omega)⟩
  have HP1 := toHid p1
  have HP2 := toHid p2
  clear p3 p4 p5 HWK
  have y0 := cell_of p1 0
  simp at y0
  have l1 := run_lookup_int (P := Tryz.prog) (w := w3) Tryz.underlying79 Tryz.underlying3 p2 tgt (zero_edge _) true
  rw [HH0.out] at l1
  simp only [if_true, Option.getD_none, Option.isSome_none] at l1
  clear p1 p2
  go_wp2_with fail
  exact bodyPost_ret (v := .tuple #[.slice none 0 0, .int .i64 5]) (by simp [results, Tryz.results13, go_sem]) rfl ⟨rfl, HB4.out.alloc HB4.out.size _⟩

set_option maxHeartbeats 4000000 in
set_option maxRecDepth 100000 in
theorem all_bad {w : World} {N : List Nd} {E : List Ed} {na : Option Addr} {nl : Nat} {ea : Option Addr} {el : Nat} (h : GrOk w N E na nl ea el) {next : Int} (hg : ¬ gE N E next = 0) (nc ec : Nat) (kind : ByteArray) (W : World) (k : Below w.heap.size w W) :
    Calls Tryz.prog 7 #[.agg #[.slice na nl nc, .slice ea el ec, .int .i64 next], .string kind] W fun e w' => e = .returned (.tuple #[.slice none 0 0, .int .i64 (gE N E next)]) ∧ Below W.heap.size W w' := by
  have hb0 : Below W.heap.size W (W.alloc (.cells #[.slice na nl nc, .slice ea el ec, .int .i64 next] 25)) := (Below.refl _ _).alloc (Nat.le_refl _) _
  have HC : Hid (∀ X, Below W.heap.size W X → Calls Tryz.prog 25 #[.agg #[.slice na nl nc, .slice ea el ec, .int .i64 next]] X fun e w' => e = .returned (.int .i64 (gE N E next)) ∧ Below X.heap.size X w') := fun X kx => check_ok h nc ec next X (below2 k kx)
  generalize gE N E next = er at HC hg ⊢
  have HB := toHid hb0
  clear h k hb0
  go_enter Tryz.func7, Tryz.ntmps7
  go_wp2_with fail
  refine (HC.out _ HB.out).mono ?_
  rintro e w1 ⟨rfl, k1⟩
  have HB1 := toHid (below2 HB.out k1)
  clear k1
  have he1 : (er == 0) = false := by simpa using hg
  go_wp2_with fail
  exact bodyPost_ret (v := .tuple #[.slice none 0 0, .int .i64 er]) (by simp [results, Tryz.results7, go_sem]) rfl ⟨rfl, HB1.out⟩

set_option maxHeartbeats 4000000 in
set_option maxRecDepth 100000 in
theorem path_bad {w : World} {N : List Nd} {E : List Ed} {na : Option Addr} {nl : Nat} {ea : Option Addr} {el : Nat} (h : GrOk w N E na nl ea el) {next : Int} (hg : ¬ gE N E next = 0) (nc ec : Nat) (kind : ByteArray) (i tgt : Int) (W : World) (k : Below w.heap.size w W) :
    Calls Tryz.prog 13 #[.agg #[.slice na nl nc, .slice ea el ec, .int .i64 next], .string kind, .int .i64 i, .int .i64 tgt] W fun e w' => e = .returned (.tuple #[.slice none 0 0, .int .i64 (gE N E next)]) ∧ Below W.heap.size W w' := by
  have hb0 : Below W.heap.size W (W.alloc (.cells #[.slice na nl nc, .slice ea el ec, .int .i64 next] 25)) := (Below.refl _ _).alloc (Nat.le_refl _) _
  have HC : Hid (∀ X, Below W.heap.size W X → Calls Tryz.prog 25 #[.agg #[.slice na nl nc, .slice ea el ec, .int .i64 next]] X fun e w' => e = .returned (.int .i64 (gE N E next)) ∧ Below X.heap.size X w') := fun X kx => check_ok h nc ec next X (below2 k kx)
  generalize gE N E next = er at HC hg ⊢
  have HB := toHid hb0
  clear h k hb0
  go_enter Tryz.func13, Tryz.ntmps13
  go_wp2_with fail
  refine (HC.out _ HB.out).mono ?_
  rintro e w1 ⟨rfl, k1⟩
  have HB1 := toHid (below2 HB.out k1)
  clear k1
  have he1 : (er == 0) = false := by simpa using hg
  go_wp2_with fail
  exact bodyPost_ret (v := .tuple #[.slice none 0 0, .int .i64 er]) (by simp [results, Tryz.results13, go_sem]) rfl ⟨rfl, HB1.out⟩

open Go.RowKit Go.MapKept
set_option linter.unusedVariables false
set_option linter.unusedSimpArgs false

/-- A pair more. -/
def putSet (K : List (Int × Int)) (p : Int × Int) : List (Int × Int) := if p ∈ K then K else K ++ [p]

/-- The pairs of the block, in the order in which they came. -/
def MapB (w : World) (r : Nat) (K : List (Int × Int)) : Prop := ∃ (L : List PE) (clk : Nat), w.heap[r]? = some (.map (L.map toE).toArray clk) ∧ (∀ t ∈ L, t.2.2 < clk) ∧ (L.map (·.2.2)).Nodup ∧ L.map (·.1) = K ∧ K.Nodup ∧ ∀ t ∈ L, t.2.1 = .bool true

theorem MapB.lt {w : World} {r : Nat} {K : List (Int × Int)} (h : MapB w r K) : r < w.heap.size := by
  obtain ⟨L, clk, h, _⟩ := h
  exact (Array.getElem?_eq_some_iff.1 h).1

theorem MapB.of {w w' : World} {r : Nat} {K : List (Int × Int)} (h : MapB w r K) (e : w'.heap[r]? = w.heap[r]?) : MapB w' r K := by
  obtain ⟨L, clk, h, hh⟩ := h
  exact ⟨L, clk, e.trans h, hh⟩

theorem mapB_new {w : World} {r : Nat} (h : w.heap[r]? = some (.map #[] 0)) : MapB w r [] := ⟨[], 0, h, fun t ht => (by cases ht), List.nodup_nil, rfl, List.nodup_nil, fun t ht => (by cases ht)⟩

theorem pget_set (p : Int × Int) : ∀ (L : List PE), (∀ t ∈ L, t.2.1 = .bool true) → (pget p L).getD (.bool false) = .bool (decide (p ∈ L.map (·.1)))
  | [], _ => by simp [pget]
  | t :: l, h => by
    unfold pget
    by_cases e : p = t.1
    · rw [if_pos e, Option.getD_some, h t (List.mem_cons_self ..)]
      simp [e]
    · rw [if_neg e, pget_set p l fun x hx => h x (List.mem_cons_of_mem _ hx)]
      simp only [List.map_cons, List.mem_cons, e, false_or]

theorem pidx_none (p : Int × Int) : ∀ (L : List PE) (i : Nat), pidx p L i = none ↔ p ∉ L.map (·.1)
  | [], i => by simp [pidx]
  | t :: l, i => by
    unfold pidx
    by_cases e : p = t.1
    · simp [e]
    · rw [if_neg e, pidx_none p l (i + 1)]
      simp only [List.map_cons, List.mem_cons, e, false_or]

theorem zero_boolP (w : World) : (zeroValue 4).run Tryz.prog w = .ok (.bool false) w := by kernel_rfl

theorem run_lookup_b {w : World} {r : Nat} {K : List (Int × Int)} (h : MapB w r K) (p : Int × Int) : (Instr.lookup 35 (.map (some r)) (pkey p) false).run Tryz.prog w = .ok (.bool (decide (p ∈ K))) w := by
  obtain ⟨L, clk, hr, h1, h2, rfl, hn, h3⟩ := h
  have h0 := Go.MapKept.run_getObj_map (P := Tryz.prog) hr
  have hk := run_findKey_p p w L
  have hg := pidx_get p L 0
  have hp := pget_set p L h3
  unfold Instr.lookup
  simp only [Sem.run_bind, run_underlying Tryz.underlying35, Result.andThen, h0, Sem.run_pure, check_p, List.toList_toArray, hk]
  cases hx : pidx p L 0 with
  | none =>
    rw [hx] at hg
    rw [← hg] at hp
    simp only [Sem.run_bind, zero_boolP, Result.andThen, Sem.run_pure]
    rw [← hp]
    rfl
  | some q =>
    rw [hx] at hg
    rw [← hg] at hp
    simp only [Sem.run_pure, Result.andThen]
    rw [← hp]
    rfl

theorem setV_key (L : List PE) (j : Nat) (v : Value) : (setV L j v).map (·.1) = L.map (·.1) := by
  unfold setV
  induction L generalizing j with
  | nil => simp
  | cons t l ih =>
    cases j with
    | zero => simp
    | succ j => simp [ih]

theorem setV_all (L : List PE) (v : Value) (h : ∀ t ∈ L, t.2.1 = v) : ∀ j, setV L j v = L := by
  unfold setV
  induction L with
  | nil => intro j; simp
  | cons t l ih =>
    intro j
    have ht := h t (List.mem_cons_self ..)
    cases j with
    | zero =>
      obtain ⟨a, b, c⟩ := t
      simp at ht
      simp [ht]
    | succ j => simp [ih (fun x hx => h x (List.mem_cons_of_mem _ hx)) j]

theorem both_toE (L : List PE) (j : Nat) (t : PE) (h : L[j]? = some t) (p : Int × Int) (hp : t.1 = p) (v : Value) (hv : t.2.1 = v) : (L.map toE).modify j (fun e => { e with key := pkey p, val := v }) = L.map toE := by
  induction L generalizing j with
  | nil => simp
  | cons x l ih =>
    cases j with
    | zero =>
      simp at h
      subst h
      subst hp
      subst hv
      simp [toE]
    | succ j =>
      have := ih j (by simpa using h)
      simp [this]

theorem run_update_b {w : World} {r : Nat} {K : List (Int × Int)} (h : MapB w r K) (p : Int × Int) : ∃ o, (Instr.mapUpdate 35 (.map (some r)) (pkey p) (.bool true)).run Tryz.prog w = .ok () (putB w r o) ∧ ∀ w' : World, w'.heap[r]? = some o → MapB w' r (putSet K p) := by
  obtain ⟨L, clk, hr, h1, h2, rfl, hn, h3⟩ := h
  have h0 := Go.MapKept.run_getObj_map (P := Tryz.prog) hr
  have hk := run_findKey_p p w L
  by_cases hp : p ∈ L.map (·.1)
  · cases hx : pidx p L 0 with
    | none => exact absurd hp ((pidx_none p L 0).1 hx)
    | some q =>
      obtain ⟨k, v⟩ := q
      obtain ⟨j, t, e1, e2, e3, e4, _⟩ := pidx_spec p (.bool true) L 0 k v hx
      rw [Nat.zero_add] at e1
      subst e1
      have hv : t.2.1 = .bool true := h3 t (List.mem_of_getElem? e2)
      have hm := both_toE L k t e2 p e3 (.bool true) hv
      have h8 := Go.MapKept.run_setObj_map (P := Tryz.prog) (.map (L.map toE).toArray clk) hr
      have hj : (L.map toE).toArray[k]? = some (toE t) := by simp [e2]
      have hkey : (toE t).key = pkey p := by rw [← e3]; rfl
      refine ⟨.map (L.map toE).toArray clk, ?_, fun w' hw' => ⟨L, clk, hw', h1, h2, ?_, ?_, h3⟩⟩
      · unfold Instr.mapUpdate
        simp only [Sem.run_bind, run_underlying Tryz.underlying35, Result.andThen, h0, check_p, List.toList_toArray, hk, hx, hj, Option.map_some, Option.getD_some, hkey, stays_p, List.modify_toArray, hm]
        rw [h8]
        rfl
      · unfold putSet; rw [if_pos hp]
      · unfold putSet; rw [if_pos hp]; exact hn
  · have hx : pidx p L 0 = none := (pidx_none p L 0).2 hp
    have h8 := Go.MapKept.run_setObj_map (P := Tryz.prog) (.map ((L.map toE).toArray.push ⟨pkey p, .bool true, clk⟩) (clk + 1)) hr
    refine ⟨.map ((L.map toE).toArray.push ⟨pkey p, .bool true, clk⟩) (clk + 1), ?_, fun w' hw' => ⟨L ++ [(p, .bool true, clk)], clk + 1, ?_, ?_, ?_, ?_, ?_, ?_⟩⟩
    · unfold Instr.mapUpdate
      simp only [Sem.run_bind, run_underlying Tryz.underlying35, Result.andThen, h0, check_p, List.toList_toArray, hk, hx, h8]
      rfl
    · rw [hw']
      simp [toE]
    · intro t ht
      rcases List.mem_append.1 ht with ht | ht
      · have := h1 t ht; omega
      · rw [List.mem_singleton] at ht; subst ht; exact Nat.lt_succ_self _
    · rw [List.map_append, List.nodup_append]
      refine ⟨h2, by simp, fun a ha b hb => ?_⟩
      obtain ⟨t, ht, rfl⟩ := List.mem_map.1 ha
      simp at hb
      have := h1 t ht
      omega
    · unfold putSet; rw [if_neg hp]; simp
    · unfold putSet; rw [if_neg hp, List.nodup_append]
      refine ⟨hn, by simp, fun a ha b hb => ?_⟩
      rw [List.mem_singleton] at hb
      rintro rfl
      exact hp (hb ▸ ha)
    · intro t ht
      rcases List.mem_append.1 ht with ht | ht
      · exact h3 t ht
      · rw [List.mem_singleton] at ht; subst ht; rfl

set_option linter.unusedSimpArgs false

/-- Reached by one edge or more. -/
inductive Rch (W : Int → List Ed) (i : Int) : Int → Prop
  | one (x : Ed) : x ∈ W i → Rch W i x.dst
  | step (j : Int) (x : Ed) : Rch W i j → x ∈ W j → Rch W i x.dst

/-- What holds of a walk from i. -/
structure WInv (W : Int → List Ed) (i : Int) (P : Int → Prop) (s : WkSt) : Prop where
  told : ∀ d, 0 < s.seen d ↔ d ∈ s.out.map (·.dst)
  sound : ∀ d, 0 < s.seen d → Rch W i d
  opn : ∀ j ∈ s.op, j = i ∨ 0 < s.seen j
  shut : ∀ j, P j → ∀ x ∈ W j, 0 < s.seen x.dst
  all : ∀ d, 0 < s.seen d → P d ∨ d ∈ s.op
  frm : P i ∨ i ∈ s.op

theorem vis_pos (s : WkSt) (x : Ed) (d : Int) : 0 < (visF s x).seen d ↔ 0 < s.seen d ∨ d = x.dst := by
  show 0 < (if d = x.dst then s.seen d + 1 else s.seen d) ↔ _
  by_cases h : d = x.dst
  · simp [h]
  · simp [h]

/-- One edge of a node j that is being gone through. -/
theorem WInv.vis {W : Int → List Ed} {i : Int} {P : Int → Prop} {s : WkSt} (h : WInv W i P s) {x : Ed} (hx : Rch W i x.dst) : WInv W i P (visF s x) := by
  refine ⟨fun d => ?_, fun d hd => ?_, fun j hj => ?_, fun j hj y hy => ?_, fun d hd => ?_, ?_⟩
  · rw [vis_pos]
    by_cases h0 : s.seen x.dst = 0
    · have e : (visF s x).out = s.out ++ [x] := by simp [visF, h0]
      rw [e, List.map_append, List.mem_append, h.told d]
      simp
    · have e : (visF s x).out = s.out := by simp [visF, h0]
      rw [e, ← h.told d]
      constructor
      · rintro (h1 | rfl)
        · exact h1
        · omega
      · exact .inl
  · rcases (vis_pos s x d).1 hd with h1 | rfl
    · exact h.sound d h1
    · exact hx
  · by_cases h0 : s.seen x.dst = 0
    · have e : (visF s x).op = s.op ++ [x.dst] := by simp [visF, h0]
      rw [e] at hj
      rcases List.mem_append.1 hj with hj | hj
      · rcases h.opn j hj with h1 | h1
        · exact .inl h1
        · exact .inr ((vis_pos s x j).2 (.inl h1))
      · simp at hj
        exact .inr ((vis_pos s x j).2 (.inr hj))
    · have e : (visF s x).op = s.op := by simp [visF, h0]
      rw [e] at hj
      rcases h.opn j hj with h1 | h1
      · exact .inl h1
      · exact .inr ((vis_pos s x j).2 (.inl h1))
  · exact (vis_pos s x _).2 (.inl (h.shut j hj y hy))
  · have hsub : ∀ q, q ∈ s.op → q ∈ (visF s x).op := fun q hq => by
      show q ∈ (if s.seen x.dst = 0 then s.op ++ [x.dst] else s.op)
      split
      · exact List.mem_append_left _ hq
      · exact hq
    rcases (vis_pos s x d).1 hd with h1 | rfl
    · rcases h.all d h1 with h2 | h2
      · exact .inl h2
      · exact .inr (hsub d h2)
    · by_cases h0 : s.seen x.dst = 0
      · refine .inr ?_
        show x.dst ∈ (if s.seen x.dst = 0 then s.op ++ [x.dst] else s.op)
        rw [if_pos h0]
        simp
      · rcases h.all x.dst (by omega) with h2 | h2
        · exact .inl h2
        · exact .inr (hsub _ h2)
  · rcases h.frm with h1 | h1
    · exact .inl h1
    · refine .inr ?_
      show i ∈ (if s.seen x.dst = 0 then s.op ++ [x.dst] else s.op)
      split
      · exact List.mem_append_left _ h1
      · exact h1

theorem WInv.fold {W : Int → List Ed} {i : Int} {P : Int → Prop} : ∀ (l : List Ed) {s : WkSt}, WInv W i P s → (∀ x ∈ l, Rch W i x.dst) → WInv W i P (l.foldl visF s) ∧ ∀ x ∈ l, 0 < (l.foldl visF s).seen x.dst
  | [], s, h, _ => ⟨h, fun x hx => by cases hx⟩
  | x :: l, s, h, hl => by
    rw [List.foldl_cons]
    obtain ⟨h1, h2⟩ := WInv.fold l (h.vis (hl x (List.mem_cons_self ..))) (fun y hy => hl y (List.mem_cons_of_mem _ hy))
    refine ⟨h1, fun y hy => ?_⟩
    rcases List.mem_cons.1 hy with rfl | hy
    · have mono : ∀ (m : List Ed) (t : WkSt) (d : Int), 0 < t.seen d → 0 < (m.foldl visF t).seen d := by
        intro m
        induction m with
        | nil => intro t d hd; exact hd
        | cons z m ih => intro t d hd; rw [List.foldl_cons]; exact ih _ d ((vis_pos t z d).2 (.inl hd))
      exact mono l _ _ ((vis_pos s y _).2 (.inr rfl))
    · exact h2 y hy

theorem walk_reach {E : List Ed} {W : Int → List Ed} (hW : ∀ i x, x ∈ W i → x ∈ E) (i : Int) : ∀ (f : Nat) (s : WkSt) (P : Int → Prop), muS E s < f → WInv W i P s → ∀ d, d ∈ (walkF W f s).map (·.dst) ↔ Rch W i d
  | 0, s, P, hf, _ => by omega
  | f + 1, s, P, hf, h => by
    intro d
    cases hop : s.op with
    | nil =>
      rw [walk_nil hop]
      rw [← h.told d]
      constructor
      · exact h.sound d
      · intro hd
        have pi : P i := by
          rcases h.frm with h1 | h1
          · exact h1
          · rw [hop] at h1; cases h1
        induction hd with
        | one x hx => exact h.shut i pi x hx
        | step j x _ hx ih =>
          rcases h.all j ih with h1 | h1
          · exact h.shut j h1 x hx
          · rw [hop] at h1; cases h1
    | cons j r =>
      rw [walk_cons hop]
      have hj : j = i ∨ 0 < s.seen j := h.opn j (by rw [hop]; exact List.mem_cons_self ..)
      have hr : ∀ x ∈ W j, Rch W i x.dst := fun x hx => by
        rcases hj with rfl | hj
        · exact .one x hx
        · exact .step j x (h.sound j hj) hx
      have base : WInv W i P ⟨j :: r, s.seen, s.out⟩ := ⟨h.told, h.sound, fun q hq => h.opn q (by rw [hop]; exact hq), h.shut, fun q hq => by rw [← hop]; exact h.all q hq, by rw [← hop]; exact h.frm⟩
      obtain ⟨g1, g2⟩ := WInv.fold (W j) base hr
      have same : ∀ (l : List Ed) (q : List Int) (t : Int → Nat) (o : List Ed), (l.foldl visF ⟨j :: q, t, o⟩).op = j :: (l.foldl visF ⟨q, t, o⟩).op ∧ (l.foldl visF ⟨j :: q, t, o⟩).seen = (l.foldl visF ⟨q, t, o⟩).seen ∧ (l.foldl visF ⟨j :: q, t, o⟩).out = (l.foldl visF ⟨q, t, o⟩).out := by
        intro l
        induction l with
        | nil => intro q t o; exact ⟨rfl, rfl, rfl⟩
        | cons y l ih =>
          intro q t o
          rw [List.foldl_cons, List.foldl_cons]
          by_cases hy : t y.dst = 0
          · have e1 : visF ⟨j :: q, t, o⟩ y = ⟨j :: (q ++ [y.dst]), fun k => if k = y.dst then t k + 1 else t k, o ++ [y]⟩ := by simp [visF, hy]
            have e2 : visF ⟨q, t, o⟩ y = ⟨q ++ [y.dst], fun k => if k = y.dst then t k + 1 else t k, o ++ [y]⟩ := by simp [visF, hy]
            rw [e1, e2]
            exact ih _ _ _
          · have e1 : visF ⟨j :: q, t, o⟩ y = ⟨j :: q, fun k => if k = y.dst then t k + 1 else t k, o⟩ := by simp [visF, hy]
            have e2 : visF ⟨q, t, o⟩ y = ⟨q, fun k => if k = y.dst then t k + 1 else t k, o⟩ := by simp [visF, hy]
            rw [e1, e2]
            exact ih _ _ _
      obtain ⟨s1, s2, s3⟩ := same (W j) r s.seen s.out
      have next : WInv W i (fun q => P q ∨ q = j) ((W j).foldl visF ⟨r, s.seen, s.out⟩) := by
        refine ⟨fun q => by rw [← s2, ← s3]; exact g1.told q, fun q hq => g1.sound q (by rw [s2]; exact hq), fun q hq => ?_, fun q hq y hy => ?_, fun q hq => ?_, ?_⟩
        · rcases g1.opn q (by rw [s1]; exact List.mem_cons_of_mem _ hq) with h1 | h1
          · exact .inl h1
          · exact .inr (by rw [← s2]; exact h1)
        · rw [← s2]
          rcases hq with hq | rfl
          · exact g1.shut q hq y hy
          · exact g2 y hy
        · rcases g1.all q (by rw [s2]; exact hq) with h1 | h1
          · exact .inl (.inl h1)
          · rw [s1] at h1
            rcases List.mem_cons.1 h1 with rfl | h1
            · exact .inl (.inr rfl)
            · exact .inr h1
        · rcases g1.frm with h1 | h1
          · exact .inl (.inl h1)
          · rw [s1] at h1
            rcases List.mem_cons.1 h1 with h1 | h1
            · exact .inl (.inr h1)
            · exact .inr h1
      refine walk_reach hW i f _ _ ?_ next d
      have m1 := (fold_all (E := E) (W j) ⟨r, s.seen, s.out⟩ (hW j)).1
      have m2 : muS E s = (j :: r).length + unseen E s := by unfold muS; rw [hop]
      have m3 : muS E ⟨r, s.seen, s.out⟩ = r.length + unseen E s := rfl
      rw [List.length_cons] at m2
      omega

/-- The pairs that are told are those of which the one reaches the other. -/
theorem walk_told {E : List Ed} {W : Int → List Ed} (hW : ∀ i x, x ∈ W i → x ∈ E) (i d : Int) : d ∈ (walkF W (E.length + 2) (st0 i)).map (·.dst) ↔ Rch W i d := by
  refine walk_reach hW i (E.length + 2) (st0 i) (fun _ => False) ?_ ⟨fun q => ?_, fun q hq => ?_, fun q hq => ?_, fun q hq => hq.elim, fun q hq => ?_, .inr (List.mem_singleton.2 rfl)⟩ d
  · have := unseen_le E (st0 i)
    show 1 + unseen E (st0 i) < _
    omega
  · show 0 < 0 ↔ q ∈ ([] : List Ed).map (·.dst)
    simp
  · exact absurd hq (Nat.lt_irrefl _)
  · exact .inl (List.mem_singleton.1 hq)
  · exact absurd hq (Nat.lt_irrefl _)
end Go.Proofs.YtebbjmjgojekdaaGreatDoor
