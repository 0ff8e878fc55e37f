/-
  What is proved here: what the texts FBag1, FSlice, FClone, FGrp prove, in one text.
-/
import Derived.Test.YtbjkpbeijkmoeaaGreatDoorQBAR
import Derived.Test.YtbjkpbeijkmoeaaGreatDoorQBAK
import Derived.Test.YtbjkpbeijkmoeaaGreatDoorQBAH
import Derived.Lib.ReflectliteSwap
import Derived.Test.YtbjkpbeijkmoeaaGreatDoorShelfV
namespace Go.Proofs.YtbjkpbeijkmoeaaGreatDoor
open Go.RowKit
set_option linter.unusedVariables false

set_option linter.unusedSimpArgs false

/-- How many stand ahead. -/
def rank (D0 : List Ct) (x : Ct) : Int := ((D0.filter fun z => decide (ordL z.L x.L < 0)).length : Int)

theorem filter_le {α : Type} {p q : α → Bool} (h : ∀ x, p x = true → q x = true) : ∀ l : List α, (l.filter p).length ≤ (l.filter q).length
  | [] => Nat.le_refl _
  | x :: l => by
    have ih := filter_le h l
    by_cases hp : p x = true
    · rw [List.filter_cons_of_pos hp, List.filter_cons_of_pos (h x hp)]
      simp
      exact ih
    · rw [List.filter_cons_of_neg hp]
      by_cases hq : q x = true
      · rw [List.filter_cons_of_pos hq]
        simp
        omega
      · rw [List.filter_cons_of_neg hq]
        exact ih

theorem filter_lt {α : Type} {p q : α → Bool} (h : ∀ x, p x = true → q x = true) {y : α} (hp : p y = false) (hq : q y = true) : ∀ l : List α, y ∈ l → (l.filter p).length < (l.filter q).length
  | [], hm => by cases hm
  | x :: l, hm => by
    by_cases hx : y = x
    · subst hx
      rw [List.filter_cons_of_neg (by simp [hp]), List.filter_cons_of_pos hq]
      have := filter_le h l
      simp
      omega
    · have hm' : y ∈ l := by
        rcases List.mem_cons.1 hm with e | e
        · exact absurd e hx
        · exact e
      have ih := filter_lt h hp hq l hm'
      by_cases hpx : p x = true
      · rw [List.filter_cons_of_pos hpx, List.filter_cons_of_pos (h x hpx)]
        simp
        exact ih
      · rw [List.filter_cons_of_neg hpx]
        by_cases hqx : q x = true
        · rw [List.filter_cons_of_pos hqx]
          simp
          omega
        · rw [List.filter_cons_of_neg hqx]
          exact ih

theorem rank_lt {D0 : List Ct} {x y : Ct} (hx : x ∈ D0) : rank D0 x < rank D0 y ↔ ordL x.L y.L < 0 := by
  have key : ∀ a b : Ct, ordL a.L b.L ≤ 0 → ∀ z : Ct, decide (ordL z.L a.L < 0) = true → decide (ordL z.L b.L < 0) = true := fun a b hab z hz => by
    have h1 := ordL_TR z.L a.L b.L
    unfold TR at h1
    simp only [decide_eq_true_eq] at *
    omega
  unfold rank
  constructor
  · intro h
    by_cases hn : ordL x.L y.L < 0
    · exact hn
    · have h1 : ordL y.L x.L ≤ 0 := by rw [ordL_neg x.L y.L]; omega
      have := filter_le (key y x h1) D0
      omega
  · intro h
    have := filter_lt (key x y (by omega)) (y := x) (by rw [ordL_self]; rfl) (by simpa using h) D0 hx
    omega

theorem rank_le {D0 : List Ct} {x y : Ct} (hy : y ∈ D0) : rank D0 x ≤ rank D0 y ↔ ordL x.L y.L ≤ 0 := by
  have h := rank_lt (D0 := D0) (x := y) (y := x) hy
  rw [ordL_neg x.L y.L] at h
  constructor
  · intro h1
    by_cases hn : ordL x.L y.L ≤ 0
    · exact hn
    · have := h.2 (by omega)
      omega
  · intro h1
    by_cases hn : rank D0 x ≤ rank D0 y
    · exact hn
    · have := h.1 (by omega)
      omega

/-- The memory while the counts are being sorted. -/
structure StC (D0 : List Ct) (g bl n cap : Nat) (D : List Ct) (W : World) : Prop where
  perm : D.Perm D0
  len : D0.length = n
  box : W.heap[bl]? = some (.cells #[.slice (some ⟨g, 0, none⟩) n cap] 23 (0, 0))
  ne : bl ≠ g
  row : ∃ cur, W.heap[g]? = some (.cells cur 32 (0, 0)) ∧ (n * 2 ≤ cur.size ∧ cur.size = cap * 2) ∧ cur.toList.take (n * 2) = ctRow D
  rows : ∀ x ∈ D0, LieA (fun i => i ≠ g) W x.L x.a x.l ∧ wtL x.L ≤ 1099511627776

theorem StC.cells {D0 : List Ct} {g bl n cap : Nat} {D : List Ct} {W : World} (h : StC D0 g bl n cap D W) {i : Nat} {x : Ct} (hx : D[i]? = some x) :
    W.cell? ⟨g, i * 2, none⟩ = some (.slice x.a x.l x.c) ∧ W.cell? ⟨g, i * 2 + 1, none⟩ = some (.int .i64 x.n) ∧ W.frozen? ⟨g, i * 2, none⟩ = false ∧ W.frozen? ⟨g, i * 2 + 1, none⟩ = false := by
  obtain ⟨cur, hc, hs, ht⟩ := h.row
  have hi := (List.getElem?_eq_some_iff.1 hx).1
  have hl : D.length = n := h.perm.length_eq.trans h.len
  have c := ctRow_at D i x hx
  rw [← ht, List.getElem?_take, List.getElem?_take, if_pos (by omega), if_pos (by omega)] at c
  exact ⟨(cell_of hc _).trans (by rw [← Array.getElem?_toList]; exact c.1), (cell_of hc _).trans (by rw [← Array.getElem?_toList]; exact c.2), free_of hc _, free_of hc _⟩

theorem set_take (cur : Array Value) (o : Nat) (v : Value) (k : Nat) : (cur.setIfInBounds o v).toList.take k = (cur.toList.take k).set o v := by
  rw [Array.toList_setIfInBounds, List.take_set]

theorem StC.set {D0 : List Ct} {g bl n cap : Nat} {W W' : World} {cur : Array Value} {D : List Ct} (hl : D.length = n) (hc : W.heap[g]? = some (.cells cur 32 (0, 0))) (hs : n * 2 ≤ cur.size ∧ cur.size = cap * 2) (ht : cur.toList.take (n * 2) = ctRow D) {i : Nat} (hi : i < n) (y : Ct) :
    ∃ cur', (putL W g (i * 2) [.slice y.a y.l y.c, .int .i64 y.n]).heap[g]? = some (.cells cur' 32 (0, 0)) ∧ (n * 2 ≤ cur'.size ∧ cur'.size = cap * 2) ∧ cur'.toList.take (n * 2) = ctRow (D.set i y) := by
  refine ⟨_, putL_here _ _ _ _ hc, ?_, ?_⟩
  · show n * 2 ≤ ((cur.setIfInBounds _ _).setIfInBounds _ _).size ∧ ((cur.setIfInBounds _ _).setIfInBounds _ _).size = cap * 2
    simp only [Array.size_setIfInBounds]
    exact hs
  · show ((cur.setIfInBounds _ _).setIfInBounds _ _).toList.take _ = _
    rw [set_take, set_take, ht, ctRow_put D i y (by omega)]

theorem setCells_put (b : Nat) : ∀ (vs : List Value) (o : Nat) (w : World), w.setCells b o vs = putL w b o vs
  | [], _, _ => rfl
  | v :: vs, o, w => setCells_put b vs (o + 1) _

theorem bs_info0 : (Tryz.prog.info? 23).map (fun i => i.desc) = some (.slice 32) := by kernel_rfl
theorem bs_info1 : (Tryz.prog.info? 32).map (fun i => (i.size, i.hasPointers, i.bytes)) = some (2, true, 32) := by kernel_rfl

theorem bs_info : ∃ i ie, Tryz.prog.info? 23 = some i ∧ i.desc = .slice 32 ∧ Tryz.prog.info? 32 = some ie ∧ ie.size = 2 ∧ ie.hasPointers = true ∧ ie.bytes = 32 := by
  have h0 := bs_info0
  have h1 := bs_info1
  cases hi : Tryz.prog.info? 23 with
  | none => rw [hi] at h0; cases h0
  | some i =>
    cases hj : Tryz.prog.info? 32 with
    | none => rw [hj] at h1; cases h1
    | some ie =>
      rw [hi] at h0
      rw [hj] at h1
      simp at h0 h1
      exact ⟨i, ie, rfl, h0, rfl, h1.1, h1.2.1, h1.2.2⟩

theorem infoC : ∃ i, Tryz.prog.info? 32 = some i ∧ i.size = 2 := by
  obtain ⟨_, ie, _, _, h1, h2, _⟩ := bs_info
  exact ⟨ie, h1, h2⟩
theorem aggC : ∀ w, (isAgg 32).run Tryz.prog w = .ok true w := fun w => by kernel_rfl
theorem swap_ext : ∃ gS, ∀ args W, (callFunc 95 args).run Tryz.prog W = ((Extern.ReflectliteSwapper.swap gS args).run Tryz.prog W).andThen fun v w' => .ok (.value v) w' := ⟨false, fun args W => run_callFunc_extern Tryz.func95 (by kernel_rfl) (by kernel_rfl) (by kernel_rfl) (e := Extern.ReflectliteSwapper.swap false) (by kernel_rfl) args W⟩

theorem bag_swap {D0 : List Ct} {g bl n cap : Nat} (D : List Ct) (W : World) (i j : Nat) (x y : Ct) (h : StC D0 g bl n cap D W) (hx : D[i]? = some x) (hy : D[j]? = some y) :
    ∃ W', (callFunc 95 #[.int .i64 i, .int .i64 j, .slice (some ⟨g, 0, none⟩) n cap, typeHandle Tryz.prog 32]).run Tryz.prog W = .ok (.value (.tuple #[])) W' ∧ StC D0 g bl n cap (swp D i j) W' ∧ Rg g W W' := by
  obtain ⟨ie, hie, hsz⟩ := infoC
  obtain ⟨gS, hS⟩ := swap_ext
  have hl : D.length = n := h.perm.length_eq.trans h.len
  have hi : i < n := by have := (List.getElem?_eq_some_iff.1 hx).1; omega
  have hj : j < n := by have := (List.getElem?_eq_some_iff.1 hy).1; omega
  obtain ⟨x0, x1, fx0, fx1⟩ := h.cells hx
  obtain ⟨y0, y1, fy0, fy1⟩ := h.cells hy
  have hr := Go.Lib.run_swap_cells (P := Tryz.prog) gS 32 ie hie aggC g 0 n cap i j hi hj [.slice x.a x.l x.c, .int .i64 x.n] [.slice y.a y.l y.c, .int .i64 y.n] hsz.symm hsz.symm (by simp [Value.oneCell']) (by simp [Value.oneCell']) W
    (fun k v hk => by
      rw [hsz, Nat.zero_add]
      match k, hk with
      | 0, hk => simp at hk; subst hk; exact x0
      | 1, hk => simp at hk; subst hk; exact x1
      | k + 2, hk => simp at hk)
    (fun k v hk => by
      rw [hsz, Nat.zero_add]
      match k, hk with
      | 0, hk => simp at hk; subst hk; exact y0
      | 1, hk => simp at hk; subst hk; exact y1
      | k + 2, hk => simp at hk)
    (fun k hk => by
      rw [hsz] at hk
      rw [hsz, Nat.zero_add]
      match k, hk with
      | 0, _ => exact fx0
      | 1, _ => exact fx1)
    (fun k hk => by
      rw [hsz] at hk
      rw [hsz, Nat.zero_add]
      match k, hk with
      | 0, _ => exact fy0
      | 1, _ => exact fy1)
  rw [hsz, Nat.zero_add, Nat.zero_add, setCells_put, setCells_put] at hr
  obtain ⟨cur, hc, hs, ht⟩ := h.row
  obtain ⟨cur1, hc1, hs1, ht1⟩ := StC.set (D0 := D0) (bl := bl) (cap := cap) (W' := W) hl hc hs ht hi y
  obtain ⟨cur2, hc2, hs2, ht2⟩ := StC.set (D0 := D0) (bl := bl) (cap := cap) (W' := W) (by rw [List.length_set]; exact hl) hc1 hs1 ht1 hj x
  have hrg : Rg g W (putL (putL W g (i * 2) [.slice y.a y.l y.c, .int .i64 y.n]) g (j * 2) [.slice x.a x.l x.c, .int .i64 x.n]) :=
    ⟨((putL_bel g _ _ _).os).trans (putL_bel g _ _ _).os, ((putL_bel g _ _ _).tape).trans (putL_bel g _ _ _).tape, ((putL_bel g _ _ _).output).trans (putL_bel g _ _ _).output, by rw [putL_size, putL_size]; exact Nat.le_refl _, fun k hk hn => by rw [putL_other _ _ _ _ _ hn, putL_other _ _ _ _ _ hn]⟩
  refine ⟨_, by rw [hS, hr]; rfl, ⟨?_, h.len, ?_, h.ne, ⟨cur2, hc2, hs2, ?_⟩, fun z hz => ⟨LieA.kept hrg.size (fun k hk hl => ⟨hk, hrg.block k hl hk⟩) _ _ _ (h.rows z hz).1, (h.rows z hz).2⟩⟩, hrg⟩
  · by_cases hij : i = j
    · subst hij
      have : y = x := by rw [hx] at hy; exact (Option.some.inj hy).symm
      subst this
      have e : swp D i i = D := by
        apply List.ext_getElem?
        intro k
        rw [swp_get hx hx]
        by_cases hk : k = i
        · rw [if_pos hk, hk, hx]
        · rw [if_neg hk, if_neg hk]
      rw [e]
      exact h.perm
    · rcases Nat.lt_or_gt_of_ne hij with hlt | hgt
      · exact (swp_perm hx hy hlt).trans h.perm
      · rw [swpF_comm hy hx (by omega)]
        exact (swp_perm hy hx hgt).trans h.perm
  · exact (hrg.block bl (blkF_lt h.box) h.ne).trans h.box
  · rw [ht2, swp_eq hx hy]

set_option maxHeartbeats 4000000 in
set_option maxRecDepth 100000 in
theorem bag_less {D0 : List Ct} {g bl n cap : Nat} (D : List Ct) (W : World) (i j : Nat) (x y : Ct) (h : StC D0 g bl n cap D W) (hx : D[i]? = some x) (hy : D[j]? = some y) (hn : n ≤ 1000000) :
    Calls Tryz.prog 25 #[.int .i64 i, .int .i64 j, .pointer (some ⟨bl, 0, none⟩)] W fun e w' => e = .returned (.bool (decide (rank D0 x < rank D0 y))) ∧ Below W.heap.size W w' := by
  have hl : D.length = n := h.perm.length_eq.trans h.len
  have hi : i < n := by have := (List.getElem?_eq_some_iff.1 hx).1; omega
  have hj : j < n := by have := (List.getElem?_eq_some_iff.1 hy).1; omega
  have hxm : x ∈ D0 := h.perm.mem_iff.1 (List.mem_of_getElem? hx)
  have hym : y ∈ D0 := h.perm.mem_iff.1 (List.mem_of_getElem? hy)
  have e : decide (rank D0 x < rank D0 y) = decide (ordL x.L y.L < 0) := decide_eq_decide.2 (rank_lt hxm)
  rw [e]
  obtain ⟨x0, _, _, _⟩ := h.cells hx
  obtain ⟨y0, _, _, _⟩ := h.cells hy
  have b0 := cell_of h.box 0
  simp at b0
  have hbl := blkF_lt h.box
  have hgl : g < W.heap.size := by obtain ⟨cur, hc, _⟩ := h.row; exact blkF_lt hc
  have D0' : Below W.heap.size W W.drew := (Below.refl _ _).drew
  have HC := toHid (compareRows_ref x.L y.L x.a x.l x.c y.a y.l y.c W.drew (LiesS.below D0' _ _ _ (LieA.lies _ _ _ (h.rows x hxm).1)) (LiesS.below D0' _ _ _ (LieA.lies _ _ _ (h.rows y hym).1)) (h.rows x hxm).2 (h.rows y hym).2)
  have hiI : (i : Int) < (n : Int) := by omega
  have hjI : (j : Int) < (n : Int) := by omega
  generalize ordL x.L y.L = z at HC
  clear h hx hy hxm hym e hl
  go_enter Tryz.func25, Tryz.ntmps25
  go_upto_region 1 with fail
  go_region_held3 (fun W' => W'.cell? ⟨bl, 0, none⟩ = some (.slice (some ⟨g, 0, none⟩) n cap) ∧ W'.cell? ⟨g, i * 2, none⟩ = some (.slice x.a x.l x.c) ∧ W'.cell? ⟨g, j * 2, none⟩ = some (.slice y.a y.l y.c))
    (first
      | exact ⟨b0, x0, y0⟩
      | exact ⟨(k1.cell (p := ⟨bl, 0, none⟩) hbl).trans b0, (k1.cell (p := ⟨g, i * 2, none⟩) hgl).trans x0, (k1.cell (p := ⟨g, j * 2, none⟩) hgl).trans y0⟩
      | go_keep)
    (first
      | (go_at_call 26; go_fit HC.out; rintro e u1 ⟨rfl, h1⟩; have k1 : Below W.heap.size W u1 := D0'.trans h1))
  all_goals
    go_wp2_with fail
    go_ret
    exact ⟨rfl, k1⟩

/-- What the sort asks is met. -/
theorem srt_bag (D0 : List Ct) (g bl n cap : Nat) (hn : n ≤ 1000000) : SrtOk (rank D0) g bl (.slice (some ⟨g, 0, none⟩) n cap) (typeHandle Tryz.prog 32) (StC D0 g bl n cap) where
  grow := fun D W W' h k => ⟨h.perm, h.len, (k.block _ (blkF_lt h.box)).trans h.box, h.ne, by
    obtain ⟨cur, hc, h1⟩ := h.row
    exact ⟨cur, (k.block _ (blkF_lt hc)).trans hc, h1⟩, fun x hx => ⟨LieA.kept k.size (fun i hi hl => ⟨hi, k.block i hl⟩) _ _ _ (h.rows x hx).1, (h.rows x hx).2⟩⟩
  lt := fun D W h => by
    obtain ⟨cur, hc, _⟩ := h.row
    exact blkF_lt hc
  less := fun D W i j x y h hx hy => bag_less D W i j x y h hx hy hn
  swap := fun D W i j x y h hx hy => bag_swap D W i j x y h hx hy

set_option linter.unusedSimpArgs false

theorem bsK {ie : TypeInfo} (a : ie.hasPointers = true) (b : ie.bytes = 32) (n : Nat) (h2 : 2 ≤ n) : Lib.swapperK n ie 25 = 9 := by
  have c : (n == 0) = false := by simp; omega
  have d : (n == 1) = false := by simp; omega
  simp [Lib.swapperK, a, b, c, d]

theorem stab_tiny (W : World) (a : Option Addr) (n c : Nat) (h1 : n ≤ 1) (lb : Array Value) : Calls Tryz.prog 24 #[.iface 23 (.slice a n c), .func (.func 25) #[] lb] W fun e w' => e = .returned (.tuple #[]) ∧ ∃ os, w' = Sort.grow W os := by
  have h2 : n = 0 ∨ n = 1 := by omega
  obtain ⟨i, ie, hi, hd, hie, _, _, _⟩ := bs_info
  rcases h2 with rfl | rfl
  · exact Any.sort_SliceStable_tiny Tryz.stableLay 23 32 i ie hi hd (by kernel_rfl) hie 25 (fun _ => by kernel_rfl) a 0 c (by omega) 87 (by rw [show Lib.swapperK 0 ie 25 = 1 from rfl]; kernel_rfl) (.func 25) #[] lb W
  · exact Any.sort_SliceStable_tiny Tryz.stableLay 23 32 i ie hi hd (by kernel_rfl) hie 25 (fun _ => by kernel_rfl) a 1 c (by omega) 88 (by rw [show Lib.swapperK 1 ie 25 = 2 from rfl]; kernel_rfl) (.func 25) #[] lb W

theorem below_growB (w : World) (os : Array Obj) : Below w.heap.size w (Sort.grow w os) := ⟨rfl, rfl, rfl, by simp, fun k hk => Sort.heap_grow_old _ _ hk⟩

set_option maxRecDepth 100000 in
/-- Two or more counts, sorted. -/
theorem stab_many (D0 : List Ct) (g bl cap : Nat) (W : World) (h2 : 2 ≤ D0.length) (hn : D0.length ≤ 1000000) (h : StC D0 g bl D0.length cap D0 W) :
    Calls Tryz.prog 24 #[.iface 23 (.slice (some ⟨g, 0, none⟩) D0.length cap), lessV bl] W fun e w' => e = .returned (.tuple #[]) ∧ ∃ E, E.Perm D0 ∧ (E.Pairwise fun x y => ordL x.L y.L ≤ 0) ∧ StC D0 g bl D0.length cap E w' ∧ Rg g W w' := by
  obtain ⟨i, ie, hi, hd, hie, _, hpt, hby⟩ := bs_info
  have hk := bsK hpt hby D0.length h2
  refine Any.sort_SliceStable_of_stable Tryz.stableLay 23 32 i ie hi hd (by kernel_rfl) hie 25 (fun _ => by kernel_rfl) (some ⟨g, 0, none⟩) D0.length cap (by omega) 95 (by rw [hk]; kernel_rfl) (.func 25) #[] #[.pointer (some ⟨bl, 0, none⟩)] W _ ?_
  have hB : sliceBound Tryz.prog 32 ie 25 (some ⟨g, 0, none⟩) D0.length cap = #[.slice (some ⟨g, 0, none⟩) D0.length cap, typeHandle Tryz.prog 32] := by
    unfold sliceBound
    rw [hk]
    rfl
  rw [hB]
  obtain ⟨W2, hW2⟩ : ∃ W2, W2 = stableWorld Tryz.prog Tryz.stableLay_ren 23 (some ⟨g, 0, none⟩) D0.length cap W := ⟨_, rfl⟩
  have hb2 : Below W.heap.size W W2 := by
    rw [hW2]
    unfold stableWorld
    exact ((Below.refl _ _).alloc (Nat.le_refl _) _).alloc (by simp) _
  have hs := stableF (srt_bag D0 g bl D0.length cap hn) D0 W2 ((srt_bag D0 g bl D0.length cap hn).grow D0 W W2 h hb2) hn
  rw [← hW2]
  refine Calls.mono (show Calls Tryz.prog 61 _ _ _ from hs) ?_
  rintro e w' ⟨rfl, E, hm, hr, hst, hrg⟩
  refine ⟨rfl, E, hst.perm, ?_, hst, (Rg.of_below hb2).trans hrg⟩
  rw [List.pairwise_iff_getElem]
  intro p q hp hq hpq
  have hl : E.length = D0.length := hm.1
  have := hr p q E[p] E[q] (Nat.zero_le _) hpq (by omega) (List.getElem?_eq_getElem hp) (List.getElem?_eq_getElem hq)
  exact (rank_le (hst.perm.mem_iff.1 (List.getElem_mem hq))).1 this

set_option linter.unusedSimpArgs false

theorem nilC_none (w : World) (l c : Nat) : (binOp .eql 23 (.slice none l c) (.slice none 0 0)).run Tryz.prog w = .ok (.bool true) w := by kernel_rfl
theorem nilC_some (w : World) (ad : Addr) (l c : Nat) : (binOp .eql 23 (.slice (some ad) l c) (.slice none 0 0)).run Tryz.prog w = .ok (.bool false) w := by kernel_rfl

theorem ctRow_one (D : List Ct) : ∀ u ∈ ctRow D, u.oneCell' = true := fun u hu => by
  unfold ctRow at hu
  obtain ⟨x, _, hx⟩ := List.mem_flatMap.1 hu
  simp [Ct.cells] at hx
  rcases hx with rfl | rfl <;> rfl

theorem ctRow_get : ∀ (D : List Ct) (j : Nat) (u : Value), (ctRow D)[j]? = some u → ∃ i x, D[i]? = some x ∧ ((j = i * 2 ∧ u = .slice x.a x.l x.c) ∨ (j = i * 2 + 1 ∧ u = .int .i64 x.n))
  | [], j, u, h => by simp [ctRow] at h
  | y :: D, j, u, h => by
    have e : ctRow (y :: D) = .slice y.a y.l y.c :: .int .i64 y.n :: ctRow D := by simp [ctRow, Ct.cells]
    rw [e] at h
    match j, h with
    | 0, h => simp at h; exact ⟨0, y, rfl, .inl ⟨rfl, h.symm⟩⟩
    | 1, h => simp at h; exact ⟨0, y, rfl, .inr ⟨rfl, h.symm⟩⟩
    | j + 2, h =>
      obtain ⟨i, x, h1, h2⟩ := ctRow_get D j u (by simpa using h)
      refine ⟨i + 1, x, by simpa using h1, ?_⟩
      rcases h2 with ⟨rfl, h2⟩ | ⟨rfl, h2⟩
      · exact .inl ⟨by omega, h2⟩
      · exact .inr ⟨by omega, h2⟩

theorem CtsAt.news {w : World} {D : List Ct} {a : Option Addr} {l : Nat} (h : CtsAt w D a l) : ∀ j u, (ctRow D)[j]? = some u → ∃ ad, a = some ad ∧ w.cell? (ad.add j) = some u := by
  intro j u hu
  obtain ⟨i, x, hx, hc⟩ := ctRow_get D j u hu
  have hi := (List.getElem?_eq_some_iff.1 hx).1
  obtain ⟨b, off, ha, hb, hcc⟩ := h.2.2 (by rw [h.1]; omega)
  refine ⟨_, ha, ?_⟩
  rw [add_none]
  rcases hc with ⟨rfl, rfl⟩ | ⟨rfl, rfl⟩
  · exact (hcc i x hx).1
  · rw [← Nat.add_assoc]
    exact (hcc i x hx).2

set_option maxHeartbeats 4000000 in
set_option maxRecDepth 100000 in
theorem cloneC_any (D : List Ct) (a : Option Addr) (l c : Nat) (w : World) (h : CtsAt w D a l) :
    Calls Tryz.prog 15 #[.slice a l c] w fun e w' => (∃ v, e = .returned v ∧ w'.ownsRow w.heap.size 32 2 v D.length (ctRow D)) ∧ Below w.heap.size w w' := by
  have HN : Hid (∀ W, Below w.heap.size w W → ∀ j u, (ctRow D)[j]? = some u → ∃ ad, a = some ad ∧ W.cell? (ad.add j) = some u) := fun W k => (h.below k).news
  have HL := toHid h.1
  have hl : l ≤ 1000000 := h.2.1
  have HFL : Hid ((ctRow D).length = l * 2) := by rw [HL.out]; exact ctRow_len D
  have HO := toHid (ctRow_one D)
  obtain ⟨i0, hi0, hiz, his, hib⟩ := ct_info
  have HI0 := toHid hi0
  have HIZ := toHid hiz
  have HIS := toHid his
  have HIB := toHid hib
  clear hi0 hiz his hib h
  cases a with
  | none =>
    have hr : ctRow D = [] := by
      cases hc : ctRow D with
      | nil => rfl
      | cons u us =>
        obtain ⟨_, e1, _⟩ := HN.out w (Below.refl _ _) 0 u (by rw [hc]; rfl)
        cases e1
    have h0 : l = 0 := by have := HFL.out; rw [hr] at this; simp at this; omega
    subst h0
    have HNN : Hid (D.length = 0) := HL.out.symm
    have HR := toHid hr
    have hnil : ∀ w, (binOp .eql 23 (.slice none 0 c) (.slice none 0 0)).run Tryz.prog w = .ok (.bool true) w := fun w => nilC_none w 0 c
    clear hr
    go_enter Tryz.func15, Tryz.ntmps15
    go_wp2_with fail
    go_ret
    refine ⟨⟨_, rfl, ?_⟩, Below.refl _ _⟩
    rw [HR.out, HNN.out]
    exact World.ownsRow_nil _ _ _ _
  | some ad =>
    have HB1 : l ≤ maxLen := by unfold maxLen; omega
    have hnil : ∀ w, (binOp .eql 23 (.slice (some ad) l c) (.slice none 0 0)).run Tryz.prog w = .ok (.bool false) w := fun w => nilC_some w ad l c
    go_enter Tryz.func15, Tryz.ntmps15
    go_wp2_with (at_builtin; refine wpList_append_both _ rfl _ _ 23 rfl w.heap.size 32 i0 _ 2 32 Tryz.underlying23 HI0.out HIZ.out HIS.out HIB.out rfl (by omega) (.slice (some ⟨w.heap.size, 0, none⟩) 0 0) 0 [] (by rfl) (World.ownsRow_made _ #[] 0 (Nat.le_refl _) (by decide) rfl) (some ad) l c (ctRow D) (by rfl) HFL.out (HN.out _ ((Below.refl w.heap.size w).alloc (Nat.le_refl _) _)) HO.out (by omega) (by omega) (by simp) ?_)
    intro v' w' h1 h2 h3
    have hb : Below w.heap.size w w' := ((Below.refl w.heap.size w).alloc (Nat.le_refl _) _).grown h2 (by simp) (fun k hk => by
      have : w.heap.size = k := by simpa [Value.ownBlock] using hk
      omega)
    have HBB := toHid hb
    have HOW := toHid h1
    clear hb h1 h2 h3
    go_wp2_with fail
    go_ret
    refine ⟨⟨v', rfl, ?_⟩, HBB.out⟩
    rw [← HL.out]
    exact HOW.out

set_option linter.unusedSimpArgs false

theorem tgCs_snoc (l : List Ct) (c : Ct) : tgCs (l ++ [c]) = tgC (tgCs l) c := by
  unfold tgCs
  rw [List.foldl_append]
  rfl

theorem tg_last : ∀ (n : Nat) (l : List Ct), l.length = n → l = [] ∨ ∃ o p m x, tgCs l = o ++ [p] ∧ l = m ++ [x] ∧ p.L = x.L
  | 0, l, h => .inl (List.length_eq_zero_iff.1 h)
  | n + 1, l, h => by
    rcases list_snoc l with rfl | ⟨m, x, rfl⟩
    · cases h
    · right
      rw [tgCs_snoc]
      rcases tg_last n m (by simpa using h) with rfl | ⟨o, p, m', x', h1, _, _⟩
      · exact ⟨[], x, [], x, rfl, rfl, rfl⟩
      · rw [h1, tgC_snoc]
        by_cases hz : ordL p.L x.L = 0
        · rw [if_pos hz]
          exact ⟨o, _, m, x, rfl, rfl, ordL_eq _ _ hz⟩
        · rw [if_neg hz]
          exact ⟨o ++ [p], x, m, x, rfl, rfl, rfl⟩

/-- A new group begins here. -/
def Bnd (E : List Ct) (i : Nat) : Prop := ∀ x y, 0 < i → E[i - 1]? = some x → E[i]? = some y → ordL x.L y.L ≠ 0

theorem take_snoc {E : List Ct} {i : Nat} {x : Ct} (h : E[i]? = some x) : E.take (i + 1) = E.take i ++ [x] := by
  rw [List.take_add_one, h]
  rfl

theorem grp_start {E : List Ct} {i : Nat} {x : Ct} (hb : Bnd E i) (hx : E[i]? = some x) : tgCs (E.take (i + 1)) = tgCs (E.take i) ++ [x] := by
  rw [take_snoc hx, tgCs_snoc]
  rcases tg_last _ (E.take i) rfl with h | ⟨o, p, m, y, h1, h2, h3⟩
  · rw [h]
    rfl
  · rw [h1, tgC_snoc, if_neg]
    have hi : i < E.length := (List.getElem?_eq_some_iff.1 hx).1
    have hl : (E.take i).length = i := by rw [List.length_take]; omega
    have hml : i = m.length + 1 := by rw [← hl, h2]; simp
    have hy : E[i - 1]? = some y := by
      have h4 : (E.take i)[i - 1]? = some y := by rw [h2, show i - 1 = m.length by omega]; simp
      rw [List.getElem?_take] at h4
      split at h4
      · exact h4
      · cases h4
    rw [h3]
    exact hb y x (by omega) hy hx

theorem grp_next {E O : List Ct} {j : Nat} {p y : Ct} (h : tgCs (E.take j) = O ++ [p]) (hy : E[j]? = some y) (hz : ordL p.L y.L = 0) : tgCs (E.take (j + 1)) = O ++ [{ p with n := p.n + y.n }] := by
  rw [take_snoc hy, tgCs_snoc, h, tgC_snoc, if_pos hz]

theorem absS_tk {E : List Ct} {j : Nat} {y : Ct} (hy : E[j]? = some y) : absS (E.take (j + 1)) = absS (E.take j) + y.n.natAbs := by
  rw [take_snoc hy, absS_append]
  show _ + (_ + 0) = _
  omega

theorem absS_tkle (E : List Ct) (j : Nat) : absS (E.take j) ≤ absS E := by
  have : absS E = absS (E.take j) + absS (E.drop j) := by rw [← absS_append, List.take_append_drop]
  omega

/-- The inner loop: c's number so far. -/
def GI (E : List Ct) (i : Nat) (x : Ct) (j : Nat) (N : Int) : Prop := N.natAbs ≤ absS (E.take j) ∧ ((j = i ∧ N = 0) ∨ (i < j ∧ tgCs (E.take j) = tgCs (E.take i) ++ [{ x with n := N }] ∧ ∃ z, E[j - 1]? = some z ∧ z.L = x.L))

theorem GI.step {E : List Ct} {i j : Nat} {x y : Ct} {N : Int} (h : GI E i x j N) (hb : Bnd E i) (hx : E[i]? = some x) (hy : E[j]? = some y) (hz : ordL y.L x.L = 0) : GI E i x (j + 1) (N + y.n) := by
  have he := ordL_eq _ _ hz
  refine ⟨by rw [absS_tk hy]; have := h.1; omega, .inr ?_⟩
  rcases h.2 with ⟨rfl, rfl⟩ | ⟨h1, h2, _⟩
  · have : y = x := by rw [hx] at hy; exact (Option.some.inj hy).symm
    subst this
    refine ⟨by omega, ?_, y, by simpa using hy, rfl⟩
    rw [grp_start hb hy, Int.zero_add]
  · refine ⟨by omega, ?_, y, by simpa using hy, he⟩
    exact grp_next h2 hy (by show ordL x.L y.L = 0; rw [← he]; exact ordL_self _)

theorem StC.own {D0 : List Ct} {g bl n cap T0 : Nat} {D : List Ct} {W : World} (h : StC D0 g bl n cap D W) (hg : T0 ≤ g) (h1 : n ≤ cap) (h2 : cap ≤ maxLen) : W.ownsRow T0 32 2 (.slice (some ⟨g, 0, none⟩) n cap) n (ctRow D) := by
  obtain ⟨cur, hc, hs, ht⟩ := h.row
  have hl : D.length = n := h.perm.length_eq.trans h.len
  exact ⟨by rw [ctRow_len, hl], .inr ⟨g, cap, cur, rfl, hg, hc, h1, h2, hs.2, ht⟩⟩

/-- The sort of a row of one's own. -/
theorem sort_own (D : List Ct) (T0 bl : Nat) (v : Value) (W : World) (hT : T0 ≤ W.heap.size) (hbl : bl < T0) (hn : D.length ≤ 1000000) (h : W.ownsRow T0 32 2 v D.length (ctRow D)) (hb : W.heap[bl]? = some (.cells #[v] 23 (0, 0))) (hr : ∀ x ∈ D, LieA (fun i => i < T0) W x.L x.a x.l ∧ wtL x.L ≤ 1099511627776) :
    Calls Tryz.prog 24 #[.iface 23 v, lessV bl] W fun e w' => e = .returned (.tuple #[]) ∧ (∃ E, E.Perm D ∧ (E.Pairwise fun x y => ordL x.L y.L ≤ 0) ∧ w'.ownsRow T0 32 2 v D.length (ctRow E)) ∧ Below T0 W w' := by
  have hform : ∃ a l c, v = .slice a l c ∧ l = D.length := by
    rcases h.2 with ⟨h0, h1⟩ | ⟨g', cap', cur, h0, _⟩
    · exact ⟨none, 0, 0, h0, h1.symm⟩
    · exact ⟨_, _, _, h0, rfl⟩
  by_cases h2 : D.length ≤ 1
  · obtain ⟨a, l, c, rfl, hl⟩ := hform
    refine (stab_tiny W a l c (by omega) _).mono ?_
    rintro e w' ⟨rfl, os, rfl⟩
    have kb := below_growB W os
    refine ⟨rfl, ⟨D, List.Perm.refl _, ?_, rowK1 h fun g hg => kb.block g (rowLt h hg).2⟩, kb.mono hT⟩
    rcases D with _ | ⟨x, _ | ⟨y, D⟩⟩
    · exact List.Pairwise.nil
    · exact List.pairwise_singleton _ _
    · simp at h2
  · rcases h.2 with ⟨h0, h1⟩ | ⟨g, cap, cur, h0, h1, h3, h4, h5, h6, h7⟩
    · omega
    · subst h0
      have hst : StC D g bl D.length cap D W := ⟨List.Perm.refl _, rfl, hb, by omega, ⟨cur, h3, ⟨by rw [h6]; omega, h6⟩, h7⟩, fun x hx => ⟨LieA.kept (Nat.le_refl _) (fun i hi _ => ⟨by omega, rfl⟩) _ _ _ (hr x hx).1, (hr x hx).2⟩⟩
      refine (stab_many D g bl cap W (by omega) hn hst).mono ?_
      rintro e w' ⟨rfl, E, hp, hs, hst', hrg⟩
      exact ⟨rfl, ⟨E, hp, hs, hst'.own h1 h4 h5⟩, ⟨hrg.os, hrg.tape, hrg.output, hrg.size, fun k hk => hrg.block k (by omega) (by omega)⟩⟩
end Go.Proofs.YtbjkpbeijkmoeaaGreatDoor
