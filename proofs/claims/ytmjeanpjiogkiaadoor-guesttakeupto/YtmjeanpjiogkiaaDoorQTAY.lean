/-
  What is proved here: what the texts FBag1, FSlice, FClone, FGrp, FRef, FBags prove, in one text.
-/
import Derived.Test.YtmjeanpjiogkiaaDoorQTAX
import Derived.Test.YtmjeanpjiogkiaaDoorQTAL
import Derived.Test.YtmjeanpjiogkiaaDoorQTAH
import Derived.Lib.ReflectliteSwap
import Derived.Test.YtmjeanpjiogkiaaDoorShelfV
import Derived.Test.YtmjeanpjiogkiaaDoorQTAI
import Derived.Test.YtmjeanpjiogkiaaDoorQTAM
import Derived.Test.YtmjeanpjiogkiaaDoorQTAR
import Derived.Test.YtmjeanpjiogkiaaDoorQTAP
namespace Go.Proofs.YtmjeanpjiogkiaaDoor
open Go.RowKit
set_option linter.unusedVariables false

set_option linter.unusedSimpArgs false

/-- How many stand ahead. -/
def rank (D0 : List Ct) (x : Ct) : Int := ((D0.filter fun z => decide (ordL z.L x.L < 0)).length : Int)

theorem filter_le {α : Type} {p q : α → Bool} (h : ∀ x, p x = true → q x = true) : ∀ l : List α, (l.filter p).length ≤ (l.filter q).length
  | [] => Nat.le_refl _
  | x :: l => by
    have ih := filter_le h l
    by_cases hp : p x = true
    · rw [List.filter_cons_of_pos hp, List.filter_cons_of_pos (h x hp)]
      simp
      exact ih
    · rw [List.filter_cons_of_neg hp]
      by_cases hq : q x = true
      · rw [List.filter_cons_of_pos hq]
        simp
        omega
      · rw [List.filter_cons_of_neg hq]
        exact ih

theorem filter_lt {α : Type} {p q : α → Bool} (h : ∀ x, p x = true → q x = true) {y : α} (hp : p y = false) (hq : q y = true) : ∀ l : List α, y ∈ l → (l.filter p).length < (l.filter q).length
  | [], hm => by cases hm
  | x :: l, hm => by
    by_cases hx : y = x
    · subst hx
      rw [List.filter_cons_of_neg (by simp [hp]), List.filter_cons_of_pos hq]
      have := filter_le h l
      simp
      omega
    · have hm' : y ∈ l := by
        rcases List.mem_cons.1 hm with e | e
        · exact absurd e hx
        · exact e
      have ih := filter_lt h hp hq l hm'
      by_cases hpx : p x = true
      · rw [List.filter_cons_of_pos hpx, List.filter_cons_of_pos (h x hpx)]
        simp
        exact ih
      · rw [List.filter_cons_of_neg hpx]
        by_cases hqx : q x = true
        · rw [List.filter_cons_of_pos hqx]
          simp
          omega
        · rw [List.filter_cons_of_neg hqx]
          exact ih

theorem rank_lt {D0 : List Ct} {x y : Ct} (hx : x ∈ D0) : rank D0 x < rank D0 y ↔ ordL x.L y.L < 0 := by
  have key : ∀ a b : Ct, ordL a.L b.L ≤ 0 → ∀ z : Ct, decide (ordL z.L a.L < 0) = true → decide (ordL z.L b.L < 0) = true := fun a b hab z hz => by
    have h1 := ordL_TR z.L a.L b.L
    unfold TR at h1
    simp only [decide_eq_true_eq] at *
    omega
  unfold rank
  constructor
  · intro h
    by_cases hn : ordL x.L y.L < 0
    · exact hn
    · have h1 : ordL y.L x.L ≤ 0 := by rw [ordL_neg x.L y.L]; omega
      have := filter_le (key y x h1) D0
      omega
  · intro h
    have := filter_lt (key x y (by omega)) (y := x) (by rw [ordL_self]; rfl) (by simpa using h) D0 hx
    omega

theorem rank_le {D0 : List Ct} {x y : Ct} (hy : y ∈ D0) : rank D0 x ≤ rank D0 y ↔ ordL x.L y.L ≤ 0 := by
  have h := rank_lt (D0 := D0) (x := y) (y := x) hy
  rw [ordL_neg x.L y.L] at h
  constructor
  · intro h1
    by_cases hn : ordL x.L y.L ≤ 0
    · exact hn
    · have := h.2 (by omega)
      omega
  · intro h1
    by_cases hn : rank D0 x ≤ rank D0 y
    · exact hn
    · have := h.1 (by omega)
      omega

/-- The memory while the counts are being sorted. -/
structure StC (D0 : List Ct) (g bl n cap : Nat) (D : List Ct) (W : World) : Prop where
  perm : D.Perm D0
  len : D0.length = n
  box : W.heap[bl]? = some (.cells #[.slice (some ⟨g, 0, none⟩) n cap] 25 (0, 0))
  ne : bl ≠ g
  row : ∃ cur, W.heap[g]? = some (.cells cur 55 (0, 0)) ∧ (n * 2 ≤ cur.size ∧ cur.size = cap * 2) ∧ cur.toList.take (n * 2) = ctRow D
  rows : ∀ x ∈ D0, LieA (fun i => i ≠ g) W x.L x.a x.l ∧ wtL x.L ≤ 1099511627776

theorem StC.cells {D0 : List Ct} {g bl n cap : Nat} {D : List Ct} {W : World} (h : StC D0 g bl n cap D W) {i : Nat} {x : Ct} (hx : D[i]? = some x) :
    W.cell? ⟨g, i * 2, none⟩ = some (.slice x.a x.l x.c) ∧ W.cell? ⟨g, i * 2 + 1, none⟩ = some (.int .i64 x.n) ∧ W.frozen? ⟨g, i * 2, none⟩ = false ∧ W.frozen? ⟨g, i * 2 + 1, none⟩ = false := by
  obtain ⟨cur, hc, hs, ht⟩ := h.row
  have hi := (List.getElem?_eq_some_iff.1 hx).1
  have hl : D.length = n := h.perm.length_eq.trans h.len
  have c := ctRow_at D i x hx
  rw [← ht, List.getElem?_take, List.getElem?_take, if_pos (by omega), if_pos (by omega)] at c
  exact ⟨(cell_of hc _).trans (by rw [← Array.getElem?_toList]; exact c.1), (cell_of hc _).trans (by rw [← Array.getElem?_toList]; exact c.2), free_of hc _, free_of hc _⟩

theorem set_take (cur : Array Value) (o : Nat) (v : Value) (k : Nat) : (cur.setIfInBounds o v).toList.take k = (cur.toList.take k).set o v := by
  rw [Array.toList_setIfInBounds, List.take_set]

theorem StC.set {D0 : List Ct} {g bl n cap : Nat} {W W' : World} {cur : Array Value} {D : List Ct} (hl : D.length = n) (hc : W.heap[g]? = some (.cells cur 55 (0, 0))) (hs : n * 2 ≤ cur.size ∧ cur.size = cap * 2) (ht : cur.toList.take (n * 2) = ctRow D) {i : Nat} (hi : i < n) (y : Ct) :
    ∃ cur', (putL W g (i * 2) [.slice y.a y.l y.c, .int .i64 y.n]).heap[g]? = some (.cells cur' 55 (0, 0)) ∧ (n * 2 ≤ cur'.size ∧ cur'.size = cap * 2) ∧ cur'.toList.take (n * 2) = ctRow (D.set i y) := by
  refine ⟨_, putL_here _ _ _ _ hc, ?_, ?_⟩
  · show n * 2 ≤ ((cur.setIfInBounds _ _).setIfInBounds _ _).size ∧ ((cur.setIfInBounds _ _).setIfInBounds _ _).size = cap * 2
    simp only [Array.size_setIfInBounds]
    exact hs
  · show ((cur.setIfInBounds _ _).setIfInBounds _ _).toList.take _ = _
    rw [set_take, set_take, ht, ctRow_put D i y (by omega)]

theorem setCells_put (b : Nat) : ∀ (vs : List Value) (o : Nat) (w : World), w.setCells b o vs = putL w b o vs
  | [], _, _ => rfl
  | v :: vs, o, w => setCells_put b vs (o + 1) _

theorem bs_info0 : (Tryd.prog.info? 25).map (fun i => i.desc) = some (.slice 55) := by kernel_rfl
theorem bs_info1 : (Tryd.prog.info? 55).map (fun i => (i.size, i.hasPointers, i.bytes)) = some (2, true, 32) := by kernel_rfl

theorem bs_info : ∃ i ie, Tryd.prog.info? 25 = some i ∧ i.desc = .slice 55 ∧ Tryd.prog.info? 55 = some ie ∧ ie.size = 2 ∧ ie.hasPointers = true ∧ ie.bytes = 32 := by
  have h0 := bs_info0
  have h1 := bs_info1
  cases hi : Tryd.prog.info? 25 with
  | none => rw [hi] at h0; cases h0
  | some i =>
    cases hj : Tryd.prog.info? 55 with
    | none => rw [hj] at h1; cases h1
    | some ie =>
      rw [hi] at h0
      rw [hj] at h1
      simp at h0 h1
      exact ⟨i, ie, rfl, h0, rfl, h1.1, h1.2.1, h1.2.2⟩

theorem infoC : ∃ i, Tryd.prog.info? 55 = some i ∧ i.size = 2 := by
  obtain ⟨_, ie, _, _, h1, h2, _⟩ := bs_info
  exact ⟨ie, h1, h2⟩
theorem aggC : ∀ w, (isAgg 55).run Tryd.prog w = .ok true w := fun w => by kernel_rfl
theorem swap_ext : ∃ gS, ∀ args W, (callFunc 64 args).run Tryd.prog W = ((Extern.ReflectliteSwapper.swap gS args).run Tryd.prog W).andThen fun v w' => .ok (.value v) w' := ⟨false, fun args W => run_callFunc_extern Tryd.func64 (by kernel_rfl) (by kernel_rfl) (by kernel_rfl) (e := Extern.ReflectliteSwapper.swap false) (by kernel_rfl) args W⟩

theorem bag_swap {D0 : List Ct} {g bl n cap : Nat} (D : List Ct) (W : World) (i j : Nat) (x y : Ct) (h : StC D0 g bl n cap D W) (hx : D[i]? = some x) (hy : D[j]? = some y) :
    ∃ W', (callFunc 64 #[.int .i64 i, .int .i64 j, .slice (some ⟨g, 0, none⟩) n cap, typeHandle Tryd.prog 55]).run Tryd.prog W = .ok (.value (.tuple #[])) W' ∧ StC D0 g bl n cap (swp D i j) W' ∧ Rg g W W' := by
  obtain ⟨ie, hie, hsz⟩ := infoC
  obtain ⟨gS, hS⟩ := swap_ext
  have hl : D.length = n := h.perm.length_eq.trans h.len
  have hi : i < n := by have := (List.getElem?_eq_some_iff.1 hx).1; omega
  have hj : j < n := by have := (List.getElem?_eq_some_iff.1 hy).1; omega
  obtain ⟨x0, x1, fx0, fx1⟩ := h.cells hx
  obtain ⟨y0, y1, fy0, fy1⟩ := h.cells hy
  have hr := Go.Lib.run_swap_cells (P := Tryd.prog) gS 55 ie hie aggC g 0 n cap i j hi hj [.slice x.a x.l x.c, .int .i64 x.n] [.slice y.a y.l y.c, .int .i64 y.n] hsz.symm hsz.symm (by simp [Value.oneCell']) (by simp [Value.oneCell']) W
    (fun k v hk => by
      rw [hsz, Nat.zero_add]
      match k, hk with
      | 0, hk => simp at hk; subst hk; exact x0
      | 1, hk => simp at hk; subst hk; exact x1
      | k + 2, hk => simp at hk)
    (fun k v hk => by
      rw [hsz, Nat.zero_add]
      match k, hk with
      | 0, hk => simp at hk; subst hk; exact y0
      | 1, hk => simp at hk; subst hk; exact y1
      | k + 2, hk => simp at hk)
    (fun k hk => by
      rw [hsz] at hk
      rw [hsz, Nat.zero_add]
      match k, hk with
      | 0, _ => exact fx0
      | 1, _ => exact fx1)
    (fun k hk => by
      rw [hsz] at hk
      rw [hsz, Nat.zero_add]
      match k, hk with
      | 0, _ => exact fy0
      | 1, _ => exact fy1)
  rw [hsz, Nat.zero_add, Nat.zero_add, setCells_put, setCells_put] at hr
  obtain ⟨cur, hc, hs, ht⟩ := h.row
  obtain ⟨cur1, hc1, hs1, ht1⟩ := StC.set (D0 := D0) (bl := bl) (cap := cap) (W' := W) hl hc hs ht hi y
  obtain ⟨cur2, hc2, hs2, ht2⟩ := StC.set (D0 := D0) (bl := bl) (cap := cap) (W' := W) (by rw [List.length_set]; exact hl) hc1 hs1 ht1 hj x
  have hrg : Rg g W (putL (putL W g (i * 2) [.slice y.a y.l y.c, .int .i64 y.n]) g (j * 2) [.slice x.a x.l x.c, .int .i64 x.n]) :=
    ⟨((putL_bel g _ _ _).os).trans (putL_bel g _ _ _).os, ((putL_bel g _ _ _).tape).trans (putL_bel g _ _ _).tape, ((putL_bel g _ _ _).output).trans (putL_bel g _ _ _).output, by rw [putL_size, putL_size]; exact Nat.le_refl _, fun k hk hn => by rw [putL_other _ _ _ _ _ hn, putL_other _ _ _ _ _ hn]⟩
  refine ⟨_, by rw [hS, hr]; rfl, ⟨?_, h.len, ?_, h.ne, ⟨cur2, hc2, hs2, ?_⟩, fun z hz => ⟨LieA.kept hrg.size (fun k hk hl => ⟨hk, hrg.block k hl hk⟩) _ _ _ (h.rows z hz).1, (h.rows z hz).2⟩⟩, hrg⟩
  · by_cases hij : i = j
    · subst hij
      have : y = x := by rw [hx] at hy; exact (Option.some.inj hy).symm
      subst this
      have e : swp D i i = D := by
        apply List.ext_getElem?
        intro k
        rw [swp_get hx hx]
        by_cases hk : k = i
        · rw [if_pos hk, hk, hx]
        · rw [if_neg hk, if_neg hk]
      rw [e]
      exact h.perm
    · rcases Nat.lt_or_gt_of_ne hij with hlt | hgt
      · exact (swp_perm hx hy hlt).trans h.perm
      · rw [swpF_comm hy hx (by omega)]
        exact (swp_perm hy hx hgt).trans h.perm
  · exact (hrg.block bl (blkF_lt h.box) h.ne).trans h.box
  · rw [ht2, swp_eq hx hy]

set_option maxHeartbeats 4000000 in
set_option maxRecDepth 100000 in
theorem bag_less {D0 : List Ct} {g bl n cap : Nat} (D : List Ct) (W : World) (i j : Nat) (x y : Ct) (h : StC D0 g bl n cap D W) (hx : D[i]? = some x) (hy : D[j]? = some y) (hn : n ≤ 1000000) :
    Calls Tryd.prog 29 #[.int .i64 i, .int .i64 j, .pointer (some ⟨bl, 0, none⟩)] W fun e w' => e = .returned (.bool (decide (rank D0 x < rank D0 y))) ∧ Below W.heap.size W w' := by
  have hl : D.length = n := h.perm.length_eq.trans h.len
  have hi : i < n := by have := (List.getElem?_eq_some_iff.1 hx).1; omega
  have hj : j < n := by have := (List.getElem?_eq_some_iff.1 hy).1; omega
  have hxm : x ∈ D0 := h.perm.mem_iff.1 (List.mem_of_getElem? hx)
  have hym : y ∈ D0 := h.perm.mem_iff.1 (List.mem_of_getElem? hy)
  have e : decide (rank D0 x < rank D0 y) = decide (ordL x.L y.L < 0) := decide_eq_decide.2 (rank_lt hxm)
  rw [e]
  obtain ⟨x0, _, _, _⟩ := h.cells hx
  obtain ⟨y0, _, _, _⟩ := h.cells hy
  have b0 := cell_of h.box 0
  simp at b0
  have hbl := blkF_lt h.box
  have hgl : g < W.heap.size := by obtain ⟨cur, hc, _⟩ := h.row; exact blkF_lt hc
  have D0' : Below W.heap.size W W.drew := (Below.refl _ _).drew
  have HC := toHid (compareRows_ref x.L y.L x.a x.l x.c y.a y.l y.c W.drew (LiesS.below D0' _ _ _ (LieA.lies _ _ _ (h.rows x hxm).1)) (LiesS.below D0' _ _ _ (LieA.lies _ _ _ (h.rows y hym).1)) (h.rows x hxm).2 (h.rows y hym).2)
  have hiI : (i : Int) < (n : Int) := by omega
  have hjI : (j : Int) < (n : Int) := by omega
  generalize ordL x.L y.L = z at HC
  clear h hx hy hxm hym e hl
  go_enter Tryd.func29, Tryd.ntmps29
  go_upto_region 1 with fail
  go_region_held3 (fun W' => W'.cell? ⟨bl, 0, none⟩ = some (.slice (some ⟨g, 0, none⟩) n cap) ∧ W'.cell? ⟨g, i * 2, none⟩ = some (.slice x.a x.l x.c) ∧ W'.cell? ⟨g, j * 2, none⟩ = some (.slice y.a y.l y.c))
    (first
      | exact ⟨b0, x0, y0⟩
      | exact ⟨(k1.cell (p := ⟨bl, 0, none⟩) hbl).trans b0, (k1.cell (p := ⟨g, i * 2, none⟩) hgl).trans x0, (k1.cell (p := ⟨g, j * 2, none⟩) hgl).trans y0⟩
      | go_keep)
    (first
      | (go_at_call 24; go_fit HC.out; rintro e u1 ⟨rfl, h1⟩; have k1 : Below W.heap.size W u1 := D0'.trans h1))
  all_goals
    go_wp2_with fail
    go_ret
    exact ⟨rfl, k1⟩

/-- What the sort asks is met. -/
theorem srt_bag (D0 : List Ct) (g bl n cap : Nat) (hn : n ≤ 1000000) : SrtOk (rank D0) g bl (.slice (some ⟨g, 0, none⟩) n cap) (typeHandle Tryd.prog 55) (StC D0 g bl n cap) where
  grow := fun D W W' h k => ⟨h.perm, h.len, (k.block _ (blkF_lt h.box)).trans h.box, h.ne, by
    obtain ⟨cur, hc, h1⟩ := h.row
    exact ⟨cur, (k.block _ (blkF_lt hc)).trans hc, h1⟩, fun x hx => ⟨LieA.kept k.size (fun i hi hl => ⟨hi, k.block i hl⟩) _ _ _ (h.rows x hx).1, (h.rows x hx).2⟩⟩
  lt := fun D W h => by
    obtain ⟨cur, hc, _⟩ := h.row
    exact blkF_lt hc
  less := fun D W i j x y h hx hy => bag_less D W i j x y h hx hy hn
  swap := fun D W i j x y h hx hy => bag_swap D W i j x y h hx hy

set_option linter.unusedSimpArgs false

theorem bsK {ie : TypeInfo} (a : ie.hasPointers = true) (b : ie.bytes = 32) (n : Nat) (h2 : 2 ≤ n) : Lib.swapperK n ie 25 = 9 := by
  have c : (n == 0) = false := by simp; omega
  have d : (n == 1) = false := by simp; omega
  simp [Lib.swapperK, a, b, c, d]

theorem stab_tiny (W : World) (a : Option Addr) (n c : Nat) (h1 : n ≤ 1) (lb : Array Value) : Calls Tryd.prog 28 #[.iface 25 (.slice a n c), .func (.func 29) #[] lb] W fun e w' => e = .returned (.tuple #[]) ∧ ∃ os, w' = Sort.grow W os := by
  have h2 : n = 0 ∨ n = 1 := by omega
  obtain ⟨i, ie, hi, hd, hie, _, _, _⟩ := bs_info
  rcases h2 with rfl | rfl
  · exact Any.sort_SliceStable_tiny Tryd.stableLay 25 55 i ie hi hd (by kernel_rfl) hie 25 (fun _ => by kernel_rfl) a 0 c (by omega) 56 (by rw [show Lib.swapperK 0 ie 25 = 1 from rfl]; kernel_rfl) (.func 29) #[] lb W
  · exact Any.sort_SliceStable_tiny Tryd.stableLay 25 55 i ie hi hd (by kernel_rfl) hie 25 (fun _ => by kernel_rfl) a 1 c (by omega) 57 (by rw [show Lib.swapperK 1 ie 25 = 2 from rfl]; kernel_rfl) (.func 29) #[] lb W

theorem below_growB (w : World) (os : Array Obj) : Below w.heap.size w (Sort.grow w os) := ⟨rfl, rfl, rfl, by simp, fun k hk => Sort.heap_grow_old _ _ hk⟩

set_option maxRecDepth 100000 in
/-- Two or more counts, sorted. -/
theorem stab_many (D0 : List Ct) (g bl cap : Nat) (W : World) (h2 : 2 ≤ D0.length) (hn : D0.length ≤ 1000000) (h : StC D0 g bl D0.length cap D0 W) :
    Calls Tryd.prog 28 #[.iface 25 (.slice (some ⟨g, 0, none⟩) D0.length cap), lessV bl] W fun e w' => e = .returned (.tuple #[]) ∧ ∃ E, E.Perm D0 ∧ (E.Pairwise fun x y => ordL x.L y.L ≤ 0) ∧ StC D0 g bl D0.length cap E w' ∧ Rg g W w' := by
  obtain ⟨i, ie, hi, hd, hie, _, hpt, hby⟩ := bs_info
  have hk := bsK hpt hby D0.length h2
  refine Any.sort_SliceStable_of_stable Tryd.stableLay 25 55 i ie hi hd (by kernel_rfl) hie 25 (fun _ => by kernel_rfl) (some ⟨g, 0, none⟩) D0.length cap (by omega) 64 (by rw [hk]; kernel_rfl) (.func 29) #[] #[.pointer (some ⟨bl, 0, none⟩)] W _ ?_
  have hB : sliceBound Tryd.prog 55 ie 25 (some ⟨g, 0, none⟩) D0.length cap = #[.slice (some ⟨g, 0, none⟩) D0.length cap, typeHandle Tryd.prog 55] := by
    unfold sliceBound
    rw [hk]
    rfl
  rw [hB]
  obtain ⟨W2, hW2⟩ : ∃ W2, W2 = stableWorld Tryd.prog Tryd.stableLay_ren 25 (some ⟨g, 0, none⟩) D0.length cap W := ⟨_, rfl⟩
  have hb2 : Below W.heap.size W W2 := by
    rw [hW2]
    unfold stableWorld
    exact ((Below.refl _ _).alloc (Nat.le_refl _) _).alloc (by simp) _
  have hs := stableF (srt_bag D0 g bl D0.length cap hn) D0 W2 ((srt_bag D0 g bl D0.length cap hn).grow D0 W W2 h hb2) hn
  rw [← hW2]
  refine Calls.mono (show Calls Tryd.prog 44 _ _ _ from hs) ?_
  rintro e w' ⟨rfl, E, hm, hr, hst, hrg⟩
  refine ⟨rfl, E, hst.perm, ?_, hst, (Rg.of_below hb2).trans hrg⟩
  rw [List.pairwise_iff_getElem]
  intro p q hp hq hpq
  have hl : E.length = D0.length := hm.1
  have := hr p q E[p] E[q] (Nat.zero_le _) hpq (by omega) (List.getElem?_eq_getElem hp) (List.getElem?_eq_getElem hq)
  exact (rank_le (hst.perm.mem_iff.1 (List.getElem_mem hq))).1 this

set_option linter.unusedSimpArgs false

theorem nilC_none (w : World) (l c : Nat) : (binOp .eql 25 (.slice none l c) (.slice none 0 0)).run Tryd.prog w = .ok (.bool true) w := by kernel_rfl
theorem nilC_some (w : World) (ad : Addr) (l c : Nat) : (binOp .eql 25 (.slice (some ad) l c) (.slice none 0 0)).run Tryd.prog w = .ok (.bool false) w := by kernel_rfl

theorem ctRow_one (D : List Ct) : ∀ u ∈ ctRow D, u.oneCell' = true := fun u hu => by
  unfold ctRow at hu
  obtain ⟨x, _, hx⟩ := List.mem_flatMap.1 hu
  simp [Ct.cells] at hx
  rcases hx with rfl | rfl <;> rfl

theorem ctRow_get : ∀ (D : List Ct) (j : Nat) (u : Value), (ctRow D)[j]? = some u → ∃ i x, D[i]? = some x ∧ ((j = i * 2 ∧ u = .slice x.a x.l x.c) ∨ (j = i * 2 + 1 ∧ u = .int .i64 x.n))
  | [], j, u, h => by simp [ctRow] at h
  | y :: D, j, u, h => by
    have e : ctRow (y :: D) = .slice y.a y.l y.c :: .int .i64 y.n :: ctRow D := by simp [ctRow, Ct.cells]
    rw [e] at h
    match j, h with
    | 0, h => simp at h; exact ⟨0, y, rfl, .inl ⟨rfl, h.symm⟩⟩
    | 1, h => simp at h; exact ⟨0, y, rfl, .inr ⟨rfl, h.symm⟩⟩
    | j + 2, h =>
      obtain ⟨i, x, h1, h2⟩ := ctRow_get D j u (by simpa using h)
      refine ⟨i + 1, x, by simpa using h1, ?_⟩
      rcases h2 with ⟨rfl, h2⟩ | ⟨rfl, h2⟩
      · exact .inl ⟨by omega, h2⟩
      · exact .inr ⟨by omega, h2⟩

theorem CtsAt.news {w : World} {D : List Ct} {a : Option Addr} {l : Nat} (h : CtsAt w D a l) : ∀ j u, (ctRow D)[j]? = some u → ∃ ad, a = some ad ∧ w.cell? (ad.add j) = some u := by
  intro j u hu
  obtain ⟨i, x, hx, hc⟩ := ctRow_get D j u hu
  have hi := (List.getElem?_eq_some_iff.1 hx).1
  obtain ⟨b, off, ha, hb, hcc⟩ := h.2.2 (by rw [h.1]; omega)
  refine ⟨_, ha, ?_⟩
  rw [add_none]
  rcases hc with ⟨rfl, rfl⟩ | ⟨rfl, rfl⟩
  · exact (hcc i x hx).1
  · rw [← Nat.add_assoc]
    exact (hcc i x hx).2

set_option maxHeartbeats 4000000 in
set_option maxRecDepth 100000 in
theorem cloneC_any (D : List Ct) (a : Option Addr) (l c : Nat) (w : World) (h : CtsAt w D a l) :
    Calls Tryd.prog 27 #[.slice a l c] w fun e w' => (∃ v, e = .returned v ∧ w'.ownsRow w.heap.size 55 2 v D.length (ctRow D)) ∧ Below w.heap.size w w' := by
  have HN : Hid (∀ W, Below w.heap.size w W → ∀ j u, (ctRow D)[j]? = some u → ∃ ad, a = some ad ∧ W.cell? (ad.add j) = some u) := fun W k => (h.below k).news
  have HL := toHid h.1
  have hl : l ≤ 1000000 := h.2.1
  have HFL : Hid ((ctRow D).length = l * 2) := by rw [HL.out]; exact ctRow_len D
  have HO := toHid (ctRow_one D)
  obtain ⟨i0, hi0, hiz, his, hib⟩ := ct_info
  have HI0 := toHid hi0
  have HIZ := toHid hiz
  have HIS := toHid his
  have HIB := toHid hib
  clear hi0 hiz his hib h
  cases a with
  | none =>
    have hr : ctRow D = [] := by
      cases hc : ctRow D with
      | nil => rfl
      | cons u us =>
        obtain ⟨_, e1, _⟩ := HN.out w (Below.refl _ _) 0 u (by rw [hc]; rfl)
        cases e1
    have h0 : l = 0 := by have := HFL.out; rw [hr] at this; simp at this; omega
    subst h0
    have HNN : Hid (D.length = 0) := HL.out.symm
    have HR := toHid hr
    have hnil : ∀ w, (binOp .eql 25 (.slice none 0 c) (.slice none 0 0)).run Tryd.prog w = .ok (.bool true) w := fun w => nilC_none w 0 c
    clear hr
    go_enter Tryd.func27, Tryd.ntmps27
    go_wp2_with fail
    go_ret
    refine ⟨⟨_, rfl, ?_⟩, Below.refl _ _⟩
    rw [HR.out, HNN.out]
    exact World.ownsRow_nil _ _ _ _
  | some ad =>
    have HB1 : l ≤ maxLen := by unfold maxLen; omega
    have hnil : ∀ w, (binOp .eql 25 (.slice (some ad) l c) (.slice none 0 0)).run Tryd.prog w = .ok (.bool false) w := fun w => nilC_some w ad l c
    go_enter Tryd.func27, Tryd.ntmps27
    go_wp2_with (at_builtin; refine wpList_append_both _ rfl _ _ 25 rfl w.heap.size 55 i0 _ 2 32 Tryd.underlying25 HI0.out HIZ.out HIS.out HIB.out rfl (by omega) (.slice (some ⟨w.heap.size, 0, none⟩) 0 0) 0 [] (by rfl) (World.ownsRow_made _ #[] 0 (Nat.le_refl _) (by decide) rfl) (some ad) l c (ctRow D) (by rfl) HFL.out (HN.out _ ((Below.refl w.heap.size w).alloc (Nat.le_refl _) _)) HO.out (by omega) (by omega) (by simp) ?_)
    intro v' w' h1 h2 h3
    have hb : Below w.heap.size w w' := ((Below.refl w.heap.size w).alloc (Nat.le_refl _) _).grown h2 (by simp) (fun k hk => by
      have : w.heap.size = k := by simpa [Value.ownBlock] using hk
      omega)
    have HBB := toHid hb
    have HOW := toHid h1
    clear hb h1 h2 h3
    go_wp2_with fail
    go_ret
    refine ⟨⟨v', rfl, ?_⟩, HBB.out⟩
    rw [← HL.out]
    exact HOW.out

set_option linter.unusedSimpArgs false

theorem tgCs_snoc (l : List Ct) (c : Ct) : tgCs (l ++ [c]) = tgC (tgCs l) c := by
  unfold tgCs
  rw [List.foldl_append]
  rfl

theorem tg_last : ∀ (n : Nat) (l : List Ct), l.length = n → l = [] ∨ ∃ o p m x, tgCs l = o ++ [p] ∧ l = m ++ [x] ∧ p.L = x.L
  | 0, l, h => .inl (List.length_eq_zero_iff.1 h)
  | n + 1, l, h => by
    rcases list_snoc l with rfl | ⟨m, x, rfl⟩
    · cases h
    · right
      rw [tgCs_snoc]
      rcases tg_last n m (by simpa using h) with rfl | ⟨o, p, m', x', h1, _, _⟩
      · exact ⟨[], x, [], x, rfl, rfl, rfl⟩
      · rw [h1, tgC_snoc]
        by_cases hz : ordL p.L x.L = 0
        · rw [if_pos hz]
          exact ⟨o, _, m, x, rfl, rfl, ordL_eq _ _ hz⟩
        · rw [if_neg hz]
          exact ⟨o ++ [p], x, m, x, rfl, rfl, rfl⟩

/-- A new group begins here. -/
def Bnd (E : List Ct) (i : Nat) : Prop := ∀ x y, 0 < i → E[i - 1]? = some x → E[i]? = some y → ordL x.L y.L ≠ 0

theorem take_snoc {E : List Ct} {i : Nat} {x : Ct} (h : E[i]? = some x) : E.take (i + 1) = E.take i ++ [x] := by
  rw [List.take_add_one, h]
  rfl

theorem grp_start {E : List Ct} {i : Nat} {x : Ct} (hb : Bnd E i) (hx : E[i]? = some x) : tgCs (E.take (i + 1)) = tgCs (E.take i) ++ [x] := by
  rw [take_snoc hx, tgCs_snoc]
  rcases tg_last _ (E.take i) rfl with h | ⟨o, p, m, y, h1, h2, h3⟩
  · rw [h]
    rfl
  · rw [h1, tgC_snoc, if_neg]
    have hi : i < E.length := (List.getElem?_eq_some_iff.1 hx).1
    have hl : (E.take i).length = i := by rw [List.length_take]; omega
    have hml : i = m.length + 1 := by rw [← hl, h2]; simp
    have hy : E[i - 1]? = some y := by
      have h4 : (E.take i)[i - 1]? = some y := by rw [h2, show i - 1 = m.length by omega]; simp
      rw [List.getElem?_take] at h4
      split at h4
      · exact h4
      · cases h4
    rw [h3]
    exact hb y x (by omega) hy hx

theorem grp_next {E O : List Ct} {j : Nat} {p y : Ct} (h : tgCs (E.take j) = O ++ [p]) (hy : E[j]? = some y) (hz : ordL p.L y.L = 0) : tgCs (E.take (j + 1)) = O ++ [{ p with n := p.n + y.n }] := by
  rw [take_snoc hy, tgCs_snoc, h, tgC_snoc, if_pos hz]

theorem absS_tk {E : List Ct} {j : Nat} {y : Ct} (hy : E[j]? = some y) : absS (E.take (j + 1)) = absS (E.take j) + y.n.natAbs := by
  rw [take_snoc hy, absS_append]
  show _ + (_ + 0) = _
  omega

theorem absS_tkle (E : List Ct) (j : Nat) : absS (E.take j) ≤ absS E := by
  have : absS E = absS (E.take j) + absS (E.drop j) := by rw [← absS_append, List.take_append_drop]
  omega

/-- The inner loop: c's number so far. -/
def GI (E : List Ct) (i : Nat) (x : Ct) (j : Nat) (N : Int) : Prop := N.natAbs ≤ absS (E.take j) ∧ ((j = i ∧ N = 0) ∨ (i < j ∧ tgCs (E.take j) = tgCs (E.take i) ++ [{ x with n := N }] ∧ ∃ z, E[j - 1]? = some z ∧ z.L = x.L))

theorem GI.step {E : List Ct} {i j : Nat} {x y : Ct} {N : Int} (h : GI E i x j N) (hb : Bnd E i) (hx : E[i]? = some x) (hy : E[j]? = some y) (hz : ordL y.L x.L = 0) : GI E i x (j + 1) (N + y.n) := by
  have he := ordL_eq _ _ hz
  refine ⟨by rw [absS_tk hy]; have := h.1; omega, .inr ?_⟩
  rcases h.2 with ⟨rfl, rfl⟩ | ⟨h1, h2, _⟩
  · have : y = x := by rw [hx] at hy; exact (Option.some.inj hy).symm
    subst this
    refine ⟨by omega, ?_, y, by simpa using hy, rfl⟩
    rw [grp_start hb hy, Int.zero_add]
  · refine ⟨by omega, ?_, y, by simpa using hy, he⟩
    exact grp_next h2 hy (by show ordL x.L y.L = 0; rw [← he]; exact ordL_self _)

theorem StC.own {D0 : List Ct} {g bl n cap T0 : Nat} {D : List Ct} {W : World} (h : StC D0 g bl n cap D W) (hg : T0 ≤ g) (h1 : n ≤ cap) (h2 : cap ≤ maxLen) : W.ownsRow T0 55 2 (.slice (some ⟨g, 0, none⟩) n cap) n (ctRow D) := by
  obtain ⟨cur, hc, hs, ht⟩ := h.row
  have hl : D.length = n := h.perm.length_eq.trans h.len
  exact ⟨by rw [ctRow_len, hl], .inr ⟨g, cap, cur, rfl, hg, hc, h1, h2, hs.2, ht⟩⟩

/-- The sort of a row of one's own. -/
theorem sort_own (D : List Ct) (T0 bl : Nat) (v : Value) (W : World) (hT : T0 ≤ W.heap.size) (hbl : bl < T0) (hn : D.length ≤ 1000000) (h : W.ownsRow T0 55 2 v D.length (ctRow D)) (hb : W.heap[bl]? = some (.cells #[v] 25 (0, 0))) (hr : ∀ x ∈ D, LieA (fun i => i < T0) W x.L x.a x.l ∧ wtL x.L ≤ 1099511627776) :
    Calls Tryd.prog 28 #[.iface 25 v, lessV bl] W fun e w' => e = .returned (.tuple #[]) ∧ (∃ E, E.Perm D ∧ (E.Pairwise fun x y => ordL x.L y.L ≤ 0) ∧ w'.ownsRow T0 55 2 v D.length (ctRow E)) ∧ Below T0 W w' := by
  have hform : ∃ a l c, v = .slice a l c ∧ l = D.length := by
    rcases h.2 with ⟨h0, h1⟩ | ⟨g', cap', cur, h0, _⟩
    · exact ⟨none, 0, 0, h0, h1.symm⟩
    · exact ⟨_, _, _, h0, rfl⟩
  by_cases h2 : D.length ≤ 1
  · obtain ⟨a, l, c, rfl, hl⟩ := hform
    refine (stab_tiny W a l c (by omega) _).mono ?_
    rintro e w' ⟨rfl, os, rfl⟩
    have kb := below_growB W os
    refine ⟨rfl, ⟨D, List.Perm.refl _, ?_, rowK1 h fun g hg => kb.block g (rowLt h hg).2⟩, kb.mono hT⟩
    rcases D with _ | ⟨x, _ | ⟨y, D⟩⟩
    · exact List.Pairwise.nil
    · exact List.pairwise_singleton _ _
    · simp at h2
  · rcases h.2 with ⟨h0, h1⟩ | ⟨g, cap, cur, h0, h1, h3, h4, h5, h6, h7⟩
    · omega
    · subst h0
      have hst : StC D g bl D.length cap D W := ⟨List.Perm.refl _, rfl, hb, by omega, ⟨cur, h3, ⟨by rw [h6]; omega, h6⟩, h7⟩, fun x hx => ⟨LieA.kept (Nat.le_refl _) (fun i hi _ => ⟨by omega, rfl⟩) _ _ _ (hr x hx).1, (hr x hx).2⟩⟩
      refine (stab_many D g bl cap W (by omega) hn hst).mono ?_
      rintro e w' ⟨rfl, E, hp, hs, hst', hrg⟩
      exact ⟨rfl, ⟨E, hp, hs, hst'.own h1 h4 h5⟩, ⟨hrg.os, hrg.tape, hrg.output, hrg.size, fun k hk => hrg.block k (by omega) (by omega)⟩⟩

set_option linter.unusedSimpArgs false

theorem row_slice {w : World} {B n : Nat} {v : Value} {xs : List Value} (h : w.ownsRow B 55 2 v n xs) : ∃ a c, v = .slice a n c := by
  rcases h.2 with ⟨h0, h1⟩ | ⟨g', cap', cur, h0, _⟩
  · exact ⟨none, 0, by rw [h0, h1]⟩
  · exact ⟨_, _, h0⟩

/-- The count that is being reckoned. -/
abbrev cBox (x : Ct) (N : Int) : Obj := .cells #[.slice x.a x.l x.c, .int .i64 N] 55

set_option maxHeartbeats 16000000 in
set_option maxRecDepth 100000 in
theorem bagOf_ref (D : List Ct) (a : Option Addr) (l c : Nat) (w : World) (h : CtsAt w D a l) (hr : ∀ x ∈ D, LiesS w x.L x.a x.l ∧ wtL x.L ≤ 1099511627776) (habs : absS D ≤ 2305843009213693952) :
    Calls Tryd.prog 14 #[.slice a l c] w fun e w' => (∃ v E, e = .returned v ∧ E.Perm D ∧ (E.Pairwise fun x y => ordL x.L y.L ≤ 0) ∧ w'.ownsRow w.heap.size 55 2 v (nzC (tgCs E)).length (ctRow (nzC (tgCs E)))) ∧ Below w.heap.size w w' := by
  have hn : D.length ≤ 1000000 := by rw [← h.1]; exact h.2.1
  have b0 : Below w.heap.size w (w.alloc (.cells #[.slice a l c] 25)) := (Below.refl _ _).alloc (Nat.le_refl _) _
  have h0 := alloc_new w (.cells #[.slice a l c] 25)
  have z0 : (w.alloc (.cells #[.slice a l c] 25)).heap.size = w.heap.size + 1 := by simp
  have HCL := toHid (cloneC_any D a l c _ (h.below b0))
  have y0 := cell_of h0 0
  simp at y0
  have HB0 := toHid b0
  have H0 := toHid h0
  have HZ0 := toHid z0
  have HR := toHid hr
  have HAB := toHid habs
  clear b0 h0 z0 h hr habs
  go_enter Tryd.func14, Tryd.ntmps14
  go_wp2_with fail
  refine HCL.out.mono ?_
  rintro e w1 ⟨⟨v0, rfl, hown⟩, k1⟩
  obtain ⟨va, vc, rfl⟩ := row_slice hown
  have hb1 := (k1.block _ (blkF_lt H0.out)).trans H0.out
  have r0 := cell_of hb1 0
  have f0 := free_of hb1 0
  simp at r0
  have hl1 : w.heap.size < w1.heap.size := blkF_lt hb1
  have hbx2 := set_oneB hb1 (.slice va D.length vc)
  have hk2 : Below w.heap.size w (w1.setCell ⟨w.heap.size, 0, none⟩ (.slice va D.length vc)) := ((HB0.out.trans (k1.mono HB0.out.size))).setCell (p := ⟨w.heap.size, 0, none⟩) (Nat.le_refl _) (.slice va D.length vc)
  have hown2 : (w1.setCell ⟨w.heap.size, 0, none⟩ (.slice va D.length vc)).ownsRow (w.heap.size + 1) 55 2 (.slice va D.length vc) D.length (ctRow D) := by
    rw [HZ0.out] at hown
    exact rowK1 hown fun g hg => Below.heap_setCell _ _ _ g (by show g ≠ w.heap.size; have := (rowLt hown hg).1; omega)
  have hs2 : (w1.setCell ⟨w.heap.size, 0, none⟩ (.slice va D.length vc)).heap.size = w1.heap.size := by simp
  obtain ⟨W2, hW2⟩ : ∃ z, z = w1.setCell ⟨w.heap.size, 0, none⟩ (.slice va D.length vc) := ⟨_, rfl⟩
  rw [← hW2] at hbx2 hk2 hown2 hs2
  have HSO := toHid (sort_own D (w.heap.size + 1) w.heap.size (.slice va D.length vc) W2 (by rw [hs2]; omega) (by omega) hn hown2 hbx2 fun x hx => ⟨LieA.kept hk2.size (fun i hi _ => ⟨by omega, hk2.block i hi⟩) _ _ _ (LieA.kept (A := fun _ => True) (A' := fun i => i < w.heap.size) (Nat.le_refl _) (fun i _ hi => ⟨hi, rfl⟩) _ _ _ (LiesS.lie _ _ _ (HR.out x hx).1)), (HR.out x hx).2⟩)
  have HBX2 := toHid hbx2
  have HK2 := toHid hk2
  have x0 := cell_of hbx2 0
  simp at x0
  have hl2 := blkF_lt hbx2
  have hXs : w1.setCell ⟨w.heap.size, 0, none⟩ (.slice va D.length vc) = W2 := hW2.symm
  clear hown hown2 hbx2 hk2 hs2 hW2 k1 hb1 y0
  go_wp2_with fail
  refine HSO.out.mono ?_
  rintro e w3 ⟨rfl, ⟨E, hp, hs, hrow⟩, k3⟩
  have HBX3 := toHid ((k3.block _ (by omega)).trans HBX2.out)
  have HK3 := toHid (HK2.out.trans (k3.mono (by omega)))
  have HP := toHid hp
  have HS := toHid hs
  obtain ⟨n, hnn⟩ : ∃ n, n = E.length := ⟨_, rfl⟩
  have hnD : D.length = n := by rw [hnn]; exact hp.length_eq.symm
  rw [hnD] at hrow HBX3
  have HAT := toHid (ctsOwn (R := E) (by rw [← hnn]; exact hrow) (by omega))
  have HNN := toHid hnn
  have hn6 : n ≤ 1000000 := by omega
  have HAE : Hid (absS E ≤ 2305843009213693952) := by
    have : absS E = absS D := absS_perm hp
    show _ ≤ _
    rw [this]
    exact HAB.out
  have HRE : Hid (∀ x ∈ E, LiesS w3 x.L x.a x.l ∧ wtL x.L ≤ 1099511627776) := fun x hx => ⟨LiesS.below HK3.out _ _ _ (HR.out x (HP.out.mem_iff.1 hx)).1, (HR.out x (HP.out.mem_iff.1 hx)).2⟩
  have HO0 : Hid (w3.ownsRow w3.heap.size 55 2 (.slice none 0 0) (nzC (tgCs (E.take 0))).length (ctRow (nzC (tgCs (E.take 0))))) := World.ownsRow_nil _ _ _ _
  have x3 := cell_of HBX3.out 0
  simp at x3
  have hl3 := blkF_lt HBX3.out
  clear hp hs hrow k3 x0 hl2 hXs hl1 r0 f0 hnn hnD HSO HBX2 HK2 HCL HB0 H0 HZ0
  obtain ⟨i0, hi0, hz0, hsz0, hby0⟩ := ct_info
  go_wp2_with fail
  go_loopg [3, 4] n (fun q s3 s4 wr => ∃ (i : Nat) (v2 : Value), i ≤ n ∧ n - i ≤ q ∧ s4 = .int .i64 i ∧ v2 = s3 ∧ Bnd E i ∧ wr.ownsRow w3.heap.size 55 2 v2 (nzC (tgCs (E.take i))).length (ctRow (nzC (tgCs (E.take i)))) ∧ Below w3.heap.size w3 wr)
  case atStart => exact ⟨0, _, Nat.zero_le _, by omega, rfl, rfl, fun x y h => absurd h (Nat.lt_irrefl _), HO0.out, Below.refl _ _⟩
  case round =>
    clear HO0 x3 hl3
    obtain ⟨i, v2, hi, hq, rfl, rfl, hbnd, ho, hk⟩ := hrel
    have HBND := toHid hbnd
    have HO := toHid ho
    have HK := toHid hk
    have hbx := (hk.block _ (blkF_lt HBX3.out)).trans HBX3.out
    have b0 := cell_of hbx 0
    simp at b0
    have hbl := blkF_lt hbx
    clear hbnd ho
    by_cases hlt : i < n
    · have hil : (i : Int) < n := by omega
      obtain ⟨x, hx, _⟩ := drop_get (L := E) (i := i) (by have := HNN.out; omega)
      obtain ⟨g, off, hva, hg, hc⟩ := HAT.out.2.2 (by omega)
      subst hva
      have c0 := (hk.cell (p := ⟨g, off + i * 2, none⟩) hg).trans (hc i x hx).1
      have HX := toHid hx
      have HG := toHid hg
      have HCC := toHid hc
      have hgl : g < wr.heap.size := Nat.lt_of_lt_of_le hg hk.size
      have HN := toHid (alloc_new wr (cBox x 0))
      have HA : Hid (Below wr.heap.size wr (wr.alloc (cBox x 0))) := (Below.refl _ _).alloc (Nat.le_refl _) _
      have HWO : Hid (w3.heap.size ≤ wr.heap.size) := hk.size
      clear hx hc hk hbx hg
      go_wp2_with fail
      obtain ⟨wo, hwo⟩ : ∃ z, z = wr := ⟨_, rfl⟩
      subst hwo
      obtain ⟨W1, hW1⟩ : ∃ z, z = wo.alloc (cBox x 0) := ⟨_, rfl⟩
      have HW1 := toHid hW1
      rw [← hW1] at HN HA ⊢
      clear hW1 b0 hbl c0 hgl
      go_loopg [4] (n - i) (fun q s4 wq => ∃ (j : Nat) (N : Int), i ≤ j ∧ j ≤ n ∧ n - j ≤ q ∧ s4 = .int .i64 j ∧ wq.heap[wo.heap.size]? = some (cBox x N) ∧ GI E i x j N ∧ Rg wo.heap.size W1 wq)
      case atStart => exact ⟨i, 0, Nat.le_refl _, hi, Nat.le_refl _, rfl, HN.out, ⟨Nat.zero_le _, .inl ⟨rfl, rfl⟩⟩, Rg.refl _ _⟩
      case round =>
        clear HN
        obtain ⟨j, N, hij, hj, hq2, rfl, hcb, hgi, hrg⟩ := hrel
        have HGI := toHid hgi
        have hw1 : W1.heap.size = wo.heap.size + 1 := by rw [HW1.out]; simp
        have hold : ∀ k, k < w3.heap.size → wr.heap[k]? = w3.heap[k]? := fun k hk => (hrg.block k (by have := HWO.out; omega) (by have := HWO.out; omega)).trans ((HA.out.block k (by have := HWO.out; omega)).trans (HK.out.block k hk))
        have kw : Below w3.heap.size w3 wr := ⟨hrg.os.trans (HA.out.os.trans HK.out.os), hrg.tape.trans (HA.out.tape.trans HK.out.tape), hrg.output.trans (HA.out.output.trans HK.out.output), Nat.le_trans (Nat.le_trans HK.out.size HA.out.size) hrg.size, hold⟩
        have hbx := (hold _ (blkF_lt HBX3.out)).trans HBX3.out
        have hbl := blkF_lt hbx
        have hcl := blkF_lt hcb
        have hgl : g < wr.heap.size := Nat.lt_of_lt_of_le HG.out kw.size
        have b0 := cell_of hbx 0
        have q0 := cell_of hcb 0
        simp at b0 q0
        have HBX := toHid hbx
        have HCB := toHid hcb
        have HRG := toHid hrg
        have HKW := toHid kw
        obtain ⟨β, hb1, hb2⟩ : ∃ β : Bool, (β = true → j < n ∧ ∃ y, E[j]? = some y ∧ ordL y.L x.L = 0) ∧ (β = false → j = n ∨ ∃ y, E[j]? = some y ∧ ordL y.L x.L ≠ 0) ∧ (∀ y, j < n → E[j]? = some y → β = decide (ordL y.L x.L = 0)) ∧ (¬ j < n → β = false) := by
          by_cases hjn : j < n
          · obtain ⟨y, hy, _⟩ := drop_get (L := E) (i := j) (by have := HNN.out; omega)
            refine ⟨decide (ordL y.L x.L = 0), fun h => ⟨hjn, y, hy, by simpa using h⟩, fun h => .inr ⟨y, hy, by simpa using h⟩, fun y' _ hy' => ?_, fun h => absurd hjn h⟩
            rw [hy] at hy'
            injection hy' with hy'
            rw [hy']
          · exact ⟨false, fun h => (by cases h), fun _ => .inl (by omega), fun y h => absurd h hjn, fun _ => rfl⟩
        have HB1 := toHid hb1
        have HB2 := toHid hb2
        clear hgi hold kw hbx hcb hrg hb1 hb2
        go_upto_region 7 with fail
        go_cut [36] (fun s36 wz => s36 = .bool β ∧ Below wr.heap.size wr wz)
        case first =>
          by_cases hjn : j < n
          · have hjI : (j : Int) < n := by omega
            obtain ⟨y, hy, _⟩ := drop_get (L := E) (i := j) (by have := HNN.out; omega)
            have e0 := (HKW.out.cell (p := ⟨g, off + j * 2, none⟩) HG.out).trans (HCC.out j y hy).1
            have D0' : Below wr.heap.size wr wr.drew := (Below.refl _ _).drew
            have hxm := HRE.out x (List.mem_of_getElem? HX.out)
            have hym := HRE.out y (List.mem_of_getElem? hy)
            have HC := toHid (compareRows_ref y.L x.L y.a y.l y.c x.a x.l x.c wr.drew (LiesS.below (HKW.out.drew) _ _ _ hym.1) (LiesS.below (HKW.out.drew) _ _ _ hxm.1) hym.2 hxm.2)
            have HBB := toHid (HB2.out.2.1 y hjn hy)
            generalize ordL y.L x.L = z at HC HBB
            clear hxm hym hy
            go_region_held3 (fun W' => W'.cell? ⟨w.heap.size, 0, none⟩ = some (.slice (some ⟨g, off, none⟩) n vc) ∧ W'.cell? ⟨g, off + j * 2, none⟩ = some (.slice y.a y.l y.c) ∧ W'.cell? ⟨wo.heap.size, 0, none⟩ = some (.slice x.a x.l x.c))
              (first
                | exact ⟨b0, e0, q0⟩
                | exact ⟨(k1.cell (p := ⟨w.heap.size, 0, none⟩) hbl).trans b0, (k1.cell (p := ⟨g, off + j * 2, none⟩) hgl).trans e0, (k1.cell (p := ⟨wo.heap.size, 0, none⟩) hcl).trans q0⟩
                | go_keep)
              (first
                | (go_at_call 24; go_fit HC.out; rintro e u1 ⟨rfl, h1⟩; have k1 : Below wr.heap.size wr u1 := D0'.trans h1))
            all_goals
              go_wp2_with fail
              go_meet
              exact ⟨by rw [HBB.out]; congr 1, k1⟩
          · have hjI : ¬ (j : Int) < n := by omega
            have HBB := toHid (HB2.out.2.2 hjn)
            go_quiet (fail)
            go_wp2_with fail
            go_meet
            exact ⟨by rw [HBB.out], drewB _ _⟩
        case rest =>
          obtain ⟨rfl, kz⟩ := hcut
          have hcb := (kz.block _ hcl).trans HCB.out
          have hbx := (kz.block _ hbl).trans HBX.out
          have HRG1 := toHid (HRG.out.trans (Rg.of_below kz))
          have HKW1 := toHid (HKW.out.trans (kz.mono HKW.out.size))
          have HKZ := toHid kz
          clear b0 q0 hbl hcl kz
          have b0 := cell_of hbx 0
          have q0 := cell_of hcb 0
          have q1 := cell_of hcb 1
          have fq1 := free_of hcb 1
          simp at b0 q0 q1
          have hbl := blkF_lt hbx
          have hcl := blkF_lt hcb
          have HCB1 := toHid hcb
          clear hbx hcb
          generalize wc = wd at *
          cases hbb : β with
          | true =>
            obtain ⟨hjn, y, hy, hz⟩ := HB1.out hbb
            have e1 := (HKW1.out.cell (p := ⟨g, off + j * 2 + 1, none⟩) HG.out).trans (HCC.out j y hy).2
            have hjI : (j : Int) < n := by omega
            have hgi2 := HGI.out.step HBND.out HX.out hy hz
            have hab : (N + y.n).natAbs ≤ 2305843009213693952 := by
              have h1 := hgi2.1
              have h2 := absS_tkle E (j + 1)
              have h3 := HAE.out
              omega
            have hwm : IntKind.i64.wrap (N + y.n) = N + y.n := by rw [IntKind.wrap_i64]; omega
            have hwm2 : wrap64 (N + y.n) = N + y.n := by unfold wrap64; omega
            have hgl1 : g < wd.heap.size := Nat.lt_of_lt_of_le HG.out HKW1.out.size
            have HG2 := toHid hgi2
            have HCB2 : Hid ((wd.setCell ⟨wo.heap.size, 1, none⟩ (.int .i64 (N + y.n))).heap[wo.heap.size]? = some (cBox x (N + y.n))) := by
              have := set_here HCB1.out 1 (.int .i64 (N + y.n))
              exact this
            have HRG2 : Hid (Rg wo.heap.size W1 (wd.setCell ⟨wo.heap.size, 1, none⟩ (.int .i64 (N + y.n)))) := by
              have k := (Below.refl wo.heap.size wd).setCell (p := ⟨wo.heap.size, 1, none⟩) (Nat.le_refl _) (.int .i64 (N + y.n))
              refine HRG1.out.trans ⟨k.os, k.tape, k.output, k.size, fun i hi hn => Below.heap_setCell _ _ _ i hn⟩
            clear hgi2 hab hy hz
            go_wp2_with fail
            go_region
            all_goals
              go_wp2_with fail
              go_roundg (n - (j + 1))
              case measure => omega
              case rel => exact ⟨j + 1, N + y.n, by omega, by omega, Nat.le_refl _, by go_num, HCB2.out, HG2.out, ⟨HRG2.out.os, HRG2.out.tape, HRG2.out.output, HRG2.out.size, HRG2.out.block⟩⟩
          | false =>
            obtain ⟨hlt2, htg, z, hzj, hzL⟩ : i < j ∧ tgCs (E.take j) = tgCs (E.take i) ++ [{ x with n := N }] ∧ ∃ z, E[j - 1]? = some z ∧ z.L = x.L := by
              rcases HGI.out.2 with ⟨h1, _⟩ | h
              · exfalso
                rcases HB2.out.1 hbb with h | ⟨y, hy, hne⟩
                · omega
                · rw [h1, HX.out] at hy
                  injection hy with hy
                  subst hy
                  exact hne (ordL_self _)
              · exact ⟨h.1, h.2.1, h.2.2⟩
            have hbnd2 : Bnd E j := fun x' y' h0 hx' hy' => by
              rw [hzj] at hx'
              injection hx' with hx'
              subst hx'
              rcases HB2.out.1 hbb with h | ⟨y, hy, hne⟩
              · have h1 := (List.getElem?_eq_some_iff.1 hy').1
                have h2 := HNN.out
                omega
              · rw [hy] at hy'
                injection hy' with hy'
                subst hy'
                rw [hzL, ordL_neg y.L x.L]
                omega
            have HBN2 := toHid hbnd2
            have hw1 : W1.heap.size = wo.heap.size + 1 := by rw [HW1.out]; simp
            have HOD : Hid (wd.ownsRow w3.heap.size 55 2 v2 (nzC (tgCs (E.take i))).length (ctRow (nzC (tgCs (E.take i))))) := rowK1 HO.out fun k hk => (HRG1.out.block k (by have := (rowLt HO.out hk).2; omega) (by have := (rowLt HO.out hk).2; omega)).trans (HA.out.block k (rowLt HO.out hk).2)
            have hml : (nzC (tgCs (E.take i))).length ≤ 1000000 := by
              have h1 : (tgCs (E.take i)).length ≤ E.length := tgCs_len E i
              have h2 : (nzC (tgCs (E.take i))).length ≤ (tgCs (E.take i)).length := List.length_filter_le _ _
              have h3 := HNN.out
              omega
            by_cases hN : N = 0
            · have hN' : (N != 0) = false := by simp [hN]
              have HNZ : Hid (nzC (tgCs (E.take j)) = nzC (tgCs (E.take i))) := by
                show List.filter _ _ = _
                rw [htg, List.filter_append, List.filter_cons_of_neg (by simp [hN]), List.filter_nil, List.append_nil]
              clear htg hzj hzL hbnd2 hN hw1
              go_wp2_with fail
              go_roundg (n - j)
              case measure => omega
              case rel => exact ⟨j, v2, hj, Nat.le_refl _, rfl, rfl, HBN2.out, by rw [HNZ.out]; exact HOD.out, HKW1.out⟩
            · have hN' : (N != 0) = true := by simp [hN]
              have HNZ : Hid (nzC (tgCs (E.take j)) = nzC (tgCs (E.take i)) ++ [{ x with n := N }]) := by
                show List.filter _ _ = _
                rw [htg, List.filter_append, List.filter_cons_of_pos (by simp [hN]), List.filter_nil]
              generalize nzC (tgCs (E.take i)) = F at HOD hml HNZ
              obtain ⟨m, hm⟩ : ∃ m, m = F.length := ⟨_, rfl⟩
              have HM := toHid hm
              have HB2' : Hid (Below wd.heap.size wd (wd.alloc (cBox x N))) := (Below.refl _ _).alloc (Nat.le_refl _) _
              have HN2 := toHid (alloc_new wd (cBox x N))
              have HOA : Hid ((wd.alloc (cBox x N)).ownsRow w3.heap.size 55 2 v2 m (ctRow F)) := hm ▸ rowK1 HOD.out fun k hk => HB2'.out.block k (rowLt HOD.out hk).2
              rw [← hm] at hml
              clear htg hzj hzL hbnd2 hN hm hw1
              go_wp2_with (at_builtin; (refine wpList_append_both _ (by rfl) _ _ _ (by rfl) w3.heap.size 55 i0 _ 2 32 Tryd.underlying26 hi0 hz0 hsz0 hby0 rfl (by omega) v2 m (ctRow F) (by rfl) HOA.out (some ⟨wd.heap.size, 0, none⟩) 1 1 [.slice x.a x.l x.c, .int .i64 N] (by rfl) (by rfl) (fun j u hu => ⟨_, rfl, World.news_of_block (cs := #[.slice x.a x.l x.c, .int .i64 N]) (t := 55) (fr := (0, 0)) HN2.out j u hu⟩) (by simp [Value.oneCell']) (by unfold maxLen; omega) (by omega) (Nat.le_trans HKW1.out.size HB2'.out.size) ?_; intro v' w5 hown5 hgrow hob))
              have HKF : Hid (Below w3.heap.size w3 w5) := (HKW1.out.trans (HB2'.out.mono HKW1.out.size)).grown hgrow (Nat.le_trans HKW1.out.size HB2'.out.size) (fun k hk => (rowLt HOA.out hk).1)
              have HOW : Hid (w5.ownsRow w3.heap.size 55 2 v' (nzC (tgCs (E.take j))).length (ctRow (nzC (tgCs (E.take j))))) := by
                rw [HNZ.out, ctRow_snoc, List.length_append, List.length_singleton, ← HM.out]
                exact hown5
              clear hown5 hgrow hob
              go_wp2_with fail
              go_roundg (n - j)
              case measure => omega
              case rel => exact ⟨j, v', hj, Nat.le_refl _, rfl, rfl, HBN2.out, HOW.out, HKF.out⟩
    · have he : i = n := by omega
      subst he
      have hil : ¬ ((i : Int) < i) := by omega
      have HFIN : Hid (wr.ownsRow w.heap.size 55 2 v2 (nzC (tgCs E)).length (ctRow (nzC (tgCs E)))) := by
        have h1 := HO.out
        rw [List.take_of_length_le (by have := HNN.out; omega)] at h1
        exact ⟨h1.1, h1.2.elim .inl fun ⟨g, cap, cur, e1, e2, e3⟩ => .inr ⟨g, cap, cur, e1, Nat.le_trans HK3.out.size e2, e3⟩⟩
      have HKF := toHid (HK3.out.trans (HK.out.mono HK3.out.size))
      clear hk hbx
      go_wp2_with fail
      go_ret
      exact ⟨⟨v2, rfl, E, HP.out, HS.out, HFIN.out⟩, HKF.out⟩

set_option linter.unusedSimpArgs false

/-- What the reference makes is the bag of what it is handed. -/
theorem ref_bag {D E : List Ct} (hp : E.Perm D) (hs : E.Pairwise fun x y => ordL x.L y.L ≤ 0) : IsBag ((nzC (tgCs E)).map Ct.cn) ∧ ∀ r, cnt ((nzC (tgCs E)).map Ct.cn) r = cnt (D.map Ct.cn) r := by
  have e : (nzC (tgCs E)).map Ct.cn = (tgF (E.map Ct.cn)).filter fun c => !(c.2 == 0) := by
    show ((tgCs E).filter fun c => !(c.n == 0)).map Ct.cn = _
    rw [← tgCs_cn, List.filter_map]
    rfl
  have hs2 : (E.map Ct.cn).Pairwise fun x y => ordL x.1 y.1 ≤ 0 := List.pairwise_map.2 hs
  obtain ⟨h1, h2⟩ := tg_bag hs2
  rw [e]
  exact ⟨h1, fun r => (h2 r).trans (cnt_perm (hp.map Ct.cn) r)⟩

theorem ref_mem {P : Ct → Prop} (hP : ∀ p (n : Int), P p → P { p with n := n }) {D E : List Ct} (hp : E.Perm D) (h : ∀ x ∈ D, P x) : ∀ x ∈ nzC (tgCs E), P x := fun x hx => tgCs_mem hP E (fun y hy => h y (hp.mem_iff.1 hy)) [] (fun y hy => by cases hy) x (List.mem_filter.1 hx).1

theorem ref_len (E : List Ct) : (nzC (tgCs E)).length ≤ E.length := by
  have h1 := tgCs_len E E.length
  rw [List.take_length] at h1
  exact Nat.le_trans (List.length_filter_le _ _) h1
end Go.Proofs.YtmjeanpjiogkiaaDoor
