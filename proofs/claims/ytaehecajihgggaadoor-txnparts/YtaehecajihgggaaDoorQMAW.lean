/-
  What is proved here: what the texts KRun, KErr, KTwo, HSameG, HPure, HChanged prove, in one text.
-/
import Derived.Test.YtaehecajihgggaaDoorQMAV
import Derived.Test.YtaehecajihgggaaDoorQMAS
import Derived.Test.YtaehecajihgggaaDoorHDo
import Derived.Test.YtaehecajihgggaaDoorQMAR
namespace Go.Proofs.YtaehecajihgggaaDoor
open Go.RowKit
set_option linter.unusedVariables false

/-- The work behind the first i operations. -/
def runS (S : WS) (D : List OpD) (i : Nat) : WS := (D.take i).foldl stepS S

/-- What is wrong with the operation at i, if nothing is with those ahead of it. -/
noncomputable def runE (S : WS) (D : List OpD) (i : Nat) : Int :=
  match D[i]? with
  | some d => stepE (runS S D i) d
  | none => 0

theorem runS_zero (S : WS) (D : List OpD) : runS S D 0 = S := by simp [runS]

theorem runS_succ {S : WS} {D : List OpD} {i : Nat} {d : OpD} (h : D[i]? = some d) : runS S D (i + 1) = stepS (runS S D i) d := by
  unfold runS
  rw [List.take_add_one, h]
  simp

theorem runE_at {S : WS} {D : List OpD} {i : Nat} {d : OpD} (h : D[i]? = some d) : runE S D i = stepE (runS S D i) d := by
  unfold runE
  rw [h]

theorem step_made (S : WS) (d : OpD) : (stepS S d).made.length ≤ S.made.length + 1 := by
  unfold stepS
  split
  · simp
  split
  · simp
  split
  · simp
  split
  · simp
  split
  · unfold setS
    split <;> simp
  · simp

theorem fold_made : ∀ (D : List OpD) (S : WS), (D.foldl stepS S).made.length ≤ S.made.length + D.length
  | [], S => by simp
  | d :: D, S => by
    have h1 := fold_made D (stepS S d)
    have h2 := step_made S d
    rw [List.foldl_cons, List.length_cons]
    omega

theorem run_made (S : WS) (D : List OpD) (i : Nat) : (runS S D i).made.length ≤ S.made.length + D.length := by
  have h1 := fold_made (D.take i) S
  have h2 : (D.take i).length ≤ D.length := by rw [List.length_take]; omega
  unfold runS
  omega

theorem run_right (S : WS) (D : List OpD) (hS : Rt S) (hD : ∀ d ∈ D, OpRt d) : ∀ i, i ≤ D.length → (∀ j, j < i → runE S D j = 0) → Rt (runS S D i)
  | 0, _, _ => by rw [runS_zero]; exact hS
  | i + 1, hi, h => by
    have hd : D[i]? = some D[i] := List.getElem?_eq_getElem (by omega)
    have ih := run_right S D hS hD i (by omega) fun j hj => h j (by omega)
    rw [runS_succ hd]
    have h0 := h i (by omega)
    rw [runE_at hd] at h0
    exact step_right _ _ ih (hD _ (List.mem_of_getElem? hd)) h0

theorem apply_all (XN : List AN) (XE : List AE) (next : Int) (na : Option Addr) (nl nc : Nat) (ea : Option Addr) (el ec : Nat) (D : List OpD) (oa : Option Addr) (ol oc : Nat) (w : World)
    (hC : ∀ W, Below w.heap.size w W → Calls Tryd.prog 6 #[.agg #[.slice na nl nc, .slice ea el ec, .int .i64 next]] W fun e w' => e = .returned (.int .i64 0) ∧ Below W.heap.size W w')
    (hN : NsAt w XN na nl) (hE : EsAt w XE ea el) (hR : Rt ⟨XN, XE, next, []⟩) (hops : OpsAt w (D.map OpD.o) oa ol) (hol : ol ≤ 20) (hD : ∀ d ∈ D, OpIn w d ∧ OpRt d) :
    Calls Tryd.prog 5 #[.agg #[.slice na nl nc, .slice ea el ec, .int .i64 next], .slice oa ol oc] w fun e w' => ApplyOwn w.heap.size w' ol (runE ⟨XN, XE, next, []⟩ D) (runS ⟨XN, XE, next, []⟩ D ol) e ∧ Below w.heap.size w w' := by
  have hl : D.length = ol := by have := hops.1; rw [List.length_map] at this; exact this.symm
  have hnl : nl ≤ 1000 := by
    obtain ⟨N, h1, h2⟩ := hN
    have e1 : XN.length ≤ 40 := hR.n40
    rw [h1.1, h2.1]
    omega
  have hel : el ≤ 1000 := by
    obtain ⟨N, h1, h2⟩ := hE
    have e1 : XE.length ≤ 60 := hR.e60
    rw [h1.1, h2.1]
    omega
  refine apply_own XN XE next na nl nc ea el ec (D.map OpD.o) oa ol oc (runE ⟨XN, XE, next, []⟩ D) (fun i => runS ⟨XN, XE, next, []⟩ D i) w hC hN hE hnl hel hR.nok hR.eok hops hol (runS_zero _ _) (fun i => ?_) (fun i o ho hj O b W hW hO kW => ?_)
  · have := run_made ⟨XN, XE, next, []⟩ D i
    have e : (⟨XN, XE, next, []⟩ : WS).made.length = 0 := rfl
    omega
  · obtain ⟨d, hd, rfl⟩ := map_get ho
    have hi := (List.getElem?_eq_some_iff.1 hd).1
    have hm := hD d (List.mem_of_getElem? hd)
    have hr := run_right ⟨XN, XE, next, []⟩ D hR (fun d hd => (hD d hd).2) i (by omega) hj
    have hmd := run_made ⟨XN, XE, next, []⟩ D i
    have e : (⟨XN, XE, next, []⟩ : WS).made.length = 0 := rfl
    have := do_any d O b (runS ⟨XN, XE, next, []⟩ D i) w W hm.1 (hr.fit (by omega)) hW hO kW
    rw [← runS_succ hd, ← runE_at hd] at this
    exact this

/-- The work, other numbers made ahead of its own. -/
def WS.on (m : List Int) (S : WS) : WS := ⟨S.N, S.E, S.next, m ++ S.made⟩

/-- It names nothing that was made. -/
def OpD.free (d : OpD) : Prop := 0 ≤ d.o.id ∧ 0 ≤ d.o.frm ∧ 0 ≤ d.o.dst

theorem at_free {d : OpD} (h : d.free) (m m' : List Int) : d.at m = d.at m' := by
  obtain ⟨h1, h2, h3⟩ := h
  unfold OpD.at meantI
  rw [if_pos h1, if_pos h2, if_pos h3, if_pos h1, if_pos h2, if_pos h3]

theorem stepE_on {d : OpD} (h : d.free) (m : List Int) (S : WS) : stepE (S.on m) d = stepE S d := by
  have e : d.at (S.on m).made = d.at S.made := at_free h _ _
  unfold stepE
  rw [e]
  rfl

theorem stepS_on {d : OpD} (h : d.free) (m : List Int) (S : WS) : stepS (S.on m) d = (stepS S d).on m := by
  have e : d.at (S.on m).made = d.at S.made := at_free h _ _
  unfold stepS
  rw [e]
  split
  · simp [WS.on]
  split
  · simp [WS.on]
  split
  · rfl
  split
  · rfl
  split
  · unfold setS
    show (if _ ∈ S.N.map AN.id then _ else _) = _
    split <;> rfl
  · rfl

theorem fold_on : ∀ (D : List OpD) (h : ∀ d ∈ D, d.free) (m : List Int) (S : WS), D.foldl stepS (S.on m) = (D.foldl stepS S).on m
  | [], _, _, _ => rfl
  | d :: D, h, m, S => by
    rw [List.foldl_cons, List.foldl_cons, stepS_on (h d (List.mem_cons_self ..))]
    exact fold_on D (fun x hx => h x (List.mem_cons_of_mem _ hx)) m _

/-- In two parts as in one. -/
theorem run_parts (S : WS) (D : List OpD) (hD : ∀ d ∈ D, d.free) (k : Nat) (hk : k ≤ D.length) (h0 : ∀ j, j < D.length → runE S D j = 0) :
    (∀ j, j < k → runE S (D.take k) j = 0) ∧ runS S (D.take k) k = runS S D k ∧
    (∀ j, j < D.length - k → runE ⟨(runS S D k).N, (runS S D k).E, (runS S D k).next, []⟩ (D.drop k) j = 0) ∧
    runS S D D.length = (runS ⟨(runS S D k).N, (runS S D k).E, (runS S D k).next, []⟩ (D.drop k) (D.length - k)).on (runS S D k).made := by
  have hS : runS S D k = WS.on (runS S D k).made ⟨(runS S D k).N, (runS S D k).E, (runS S D k).next, []⟩ := by simp [WS.on]
  have hon : ∀ j, runS S D (k + j) = (runS ⟨(runS S D k).N, (runS S D k).E, (runS S D k).next, []⟩ (D.drop k) j).on (runS S D k).made := fun j => by
    have e1 : runS S D (k + j) = ((D.drop k).take j).foldl stepS (runS S D k) := by
      unfold runS
      rw [← List.foldl_append, List.take_add]
    rw [e1]
    conv => lhs; rw [hS]
    rw [fold_on _ (fun d hd => hD d (List.mem_of_mem_drop (List.mem_of_mem_take hd)))]
    rfl
  refine ⟨fun j hj => ?_, ?_, fun j hj => ?_, ?_⟩
  · have hd : D[j]? = some D[j] := List.getElem?_eq_getElem (by omega)
    have hd' : (D.take k)[j]? = some D[j] := by rw [List.getElem?_take, if_pos hj, hd]
    have := h0 j (by omega)
    rw [runE_at hd] at this
    rw [runE_at hd']
    unfold runS at this ⊢
    rw [List.take_take, Nat.min_eq_left (by omega)]
    exact this
  · unfold runS
    rw [List.take_take, Nat.min_self]
  · have hd : D[k + j]? = some D[k + j] := List.getElem?_eq_getElem (by omega)
    have hd' : (D.drop k)[j]? = some D[k + j] := by rw [List.getElem?_drop, hd]
    have := h0 (k + j) (by omega)
    rw [runE_at hd, hon j, stepE_on (hD _ (List.mem_of_getElem? hd))] at this
    rw [runE_at hd']
    exact this
  · have := hon (D.length - k)
    rw [show k + (D.length - k) = D.length from by omega] at this
    exact this

set_option maxHeartbeats 8000000 in
set_option maxRecDepth 100000 in
theorem apply_bad (next : Int) (na : Option Addr) (nl nc : Nat) (ea : Option Addr) (el ec : Nat) (oa : Option Addr) (ol oc : Nat) (c : Int) (w : World) (hc : c ≠ 0)
    (hC : ∀ W, Below w.heap.size w W → Calls Tryd.prog 6 #[.agg #[.slice na nl nc, .slice ea el ec, .int .i64 next]] W fun e w' => e = .returned (.int .i64 c) ∧ Below W.heap.size W w') :
    Calls Tryd.prog 5 #[.agg #[.slice na nl nc, .slice ea el ec, .int .i64 next], .slice oa ol oc] w fun e w' => e = .returned (.tuple #[zeroGr, .slice none 0 0, .int .i64 0, .int .i64 c]) ∧ Below w.heap.size w w' := by
  have HC := toHid hC
  have hc' : (c != 0) = true := by simp [hc]
  clear hC
  have b0 : Below w.heap.size w ((w.alloc (.cells #[.slice na nl nc, .slice ea el ec, .int .i64 next] 25)).alloc (.cells #[.slice none 0 0, .slice none 0 0, .int .i64 0] 25)) := ((Below.refl _ _).alloc (Nat.le_refl _) _).alloc (by simp) _
  have hx := (Below.heap_alloc (w.alloc (.cells #[.slice na nl nc, .slice ea el ec, .int .i64 next] 25)) (.cells #[.slice none 0 0, .slice none 0 0, .int .i64 0] 25) w.heap.size (by simp)).trans (alloc_new w (.cells #[.slice na nl nc, .slice ea el ec, .int .i64 next] 25))
  have hy := alloc_two w (.cells #[.slice na nl nc, .slice ea el ec, .int .i64 next] 25) (.cells #[.slice none 0 0, .slice none 0 0, .int .i64 0] 25)
  have z0 : ((w.alloc (.cells #[.slice na nl nc, .slice ea el ec, .int .i64 next] 25)).alloc (.cells #[.slice none 0 0, .slice none 0 0, .int .i64 0] 25)).heap.size = w.heap.size + 2 := by simp
  have HB := toHid b0
  have HX := toHid hx
  have HY := toHid hy
  have HZ := toHid z0
  clear b0 hx hy z0
  go_enter Tryd.func5, Tryd.ntmps5
  go_wp2_with fail
  refine (HC.out _ HB.out).mono ?_
  generalize (w.alloc (.cells #[.slice na nl nc, .slice ea el ec, .int .i64 next] 25)).alloc (.cells #[.slice none 0 0, .slice none 0 0, .int .i64 0] 25) = W at HB HX HY HZ ⊢
  rintro e w1 ⟨rfl, k1⟩
  have HB1 := toHid (HB.out.trans (k1.mono HB.out.size))
  have HX1 := toHid ((k1.block w.heap.size (by rw [HZ.out]; omega)).trans HX.out)
  have HY1 := toHid ((k1.block (w.heap.size + 1) (by rw [HZ.out]; omega)).trans HY.out)
  have s1 : w.heap.size + 2 ≤ w1.heap.size := by have := k1.size; rw [HZ.out] at this; exact this
  clear k1 HB HX HY HZ HC
  have c0 := cell_of HY1.out 0
  have c1 := cell_of HY1.out 1
  have c2 := cell_of HY1.out 2
  have g0 := free_of HY1.out 0
  have g1 := free_of HY1.out 1
  have g2 := free_of HY1.out 2
  simp at c0 c1 c2
  go_wp2_with fail
  have eP : ∀ X : World, ((X.setCell ⟨w.heap.size + 1, 0, none⟩ (.slice none 0 0)).setCell ⟨w.heap.size + 1, 1, none⟩ (.slice none 0 0)).setCell ⟨w.heap.size + 1, 2, none⟩ (.int .i64 0) = putL X (w.heap.size + 1) 0 [.slice none 0 0, .slice none 0 0, .int .i64 0] := fun _ => rfl
  rw [eP]
  have E := putL_here [.slice none 0 0, .slice none 0 0, .int .i64 0] 0 w1 _ HY1.out
  have hbb : Below w.heap.size w (putL w1 (w.heap.size + 1) 0 [.slice none 0 0, .slice none 0 0, .int .i64 0]) := HB1.out.trans ((putL_bel (w.heap.size + 1) _ _ w1).mono (by omega))
  generalize putL w1 (w.heap.size + 1) 0 [.slice none 0 0, .slice none 0 0, .int .i64 0] = Y at E hbb ⊢
  have t0 := cell_of E 0
  have t1 := cell_of E 1
  have t2 := cell_of E 2
  simp [setL] at t0 t1 t2
  exact bodyPost_ret (v := .tuple #[zeroGr, .slice none 0 0, .int .i64 0, .int .i64 c]) (by simp [results, Tryd.results5, go_sem, t0, t1, t2, zeroGr]) rfl ⟨rfl, hbb⟩

set_option maxHeartbeats 8000000 in
set_option maxRecDepth 100000 in
theorem apply_long (next : Int) (na : Option Addr) (nl nc : Nat) (ea : Option Addr) (el ec : Nat) (oa : Option Addr) (ol oc : Nat) (w : World) (hol : 20 < ol)
    (hC : ∀ W, Below w.heap.size w W → Calls Tryd.prog 6 #[.agg #[.slice na nl nc, .slice ea el ec, .int .i64 next]] W fun e w' => e = .returned (.int .i64 0) ∧ Below W.heap.size W w') :
    Calls Tryd.prog 5 #[.agg #[.slice na nl nc, .slice ea el ec, .int .i64 next], .slice oa ol oc] w fun e w' => e = .returned (.tuple #[zeroGr, .slice none 0 0, .int .i64 0, .int .i64 2]) ∧ Below w.heap.size w w' := by
  have HC := toHid hC
  clear hC
  have b0 : Below w.heap.size w ((w.alloc (.cells #[.slice na nl nc, .slice ea el ec, .int .i64 next] 25)).alloc (.cells #[.slice none 0 0, .slice none 0 0, .int .i64 0] 25)) := ((Below.refl _ _).alloc (Nat.le_refl _) _).alloc (by simp) _
  have hx := (Below.heap_alloc (w.alloc (.cells #[.slice na nl nc, .slice ea el ec, .int .i64 next] 25)) (.cells #[.slice none 0 0, .slice none 0 0, .int .i64 0] 25) w.heap.size (by simp)).trans (alloc_new w (.cells #[.slice na nl nc, .slice ea el ec, .int .i64 next] 25))
  have hy := alloc_two w (.cells #[.slice na nl nc, .slice ea el ec, .int .i64 next] 25) (.cells #[.slice none 0 0, .slice none 0 0, .int .i64 0] 25)
  have z0 : ((w.alloc (.cells #[.slice na nl nc, .slice ea el ec, .int .i64 next] 25)).alloc (.cells #[.slice none 0 0, .slice none 0 0, .int .i64 0] 25)).heap.size = w.heap.size + 2 := by simp
  have HB := toHid b0
  have HX := toHid hx
  have HY := toHid hy
  have HZ := toHid z0
  clear b0 hx hy z0
  have hol' : (20 : Int) < ol := by omega
  go_enter Tryd.func5, Tryd.ntmps5
  go_wp2_with fail
  refine (HC.out _ HB.out).mono ?_
  generalize (w.alloc (.cells #[.slice na nl nc, .slice ea el ec, .int .i64 next] 25)).alloc (.cells #[.slice none 0 0, .slice none 0 0, .int .i64 0] 25) = W at HB HX HY HZ ⊢
  rintro e w1 ⟨rfl, k1⟩
  have HB1 := toHid (HB.out.trans (k1.mono HB.out.size))
  have HX1 := toHid ((k1.block w.heap.size (by rw [HZ.out]; omega)).trans HX.out)
  have HY1 := toHid ((k1.block (w.heap.size + 1) (by rw [HZ.out]; omega)).trans HY.out)
  have s1 : w.heap.size + 2 ≤ w1.heap.size := by have := k1.size; rw [HZ.out] at this; exact this
  clear k1 HB HX HY HZ HC
  have c0 := cell_of HY1.out 0
  have c1 := cell_of HY1.out 1
  have c2 := cell_of HY1.out 2
  have g0 := free_of HY1.out 0
  have g1 := free_of HY1.out 1
  have g2 := free_of HY1.out 2
  simp at c0 c1 c2
  go_wp2_with fail
  have eP : ∀ X : World, ((X.setCell ⟨w.heap.size + 1, 0, none⟩ (.slice none 0 0)).setCell ⟨w.heap.size + 1, 1, none⟩ (.slice none 0 0)).setCell ⟨w.heap.size + 1, 2, none⟩ (.int .i64 0) = putL X (w.heap.size + 1) 0 [.slice none 0 0, .slice none 0 0, .int .i64 0] := fun _ => rfl
  rw [eP]
  have E := putL_here [.slice none 0 0, .slice none 0 0, .int .i64 0] 0 w1 _ HY1.out
  have hbb : Below w.heap.size w (putL w1 (w.heap.size + 1) 0 [.slice none 0 0, .slice none 0 0, .int .i64 0]) := HB1.out.trans ((putL_bel (w.heap.size + 1) _ _ w1).mono (by omega))
  generalize putL w1 (w.heap.size + 1) 0 [.slice none 0 0, .slice none 0 0, .int .i64 0] = Y at E hbb ⊢
  have t0 := cell_of E 0
  have t1 := cell_of E 1
  have t2 := cell_of E 2
  simp [setL] at t0 t1 t2
  exact bodyPost_ret (v := .tuple #[zeroGr, .slice none 0 0, .int .i64 0, .int .i64 2]) (by simp [results, Tryd.results5, go_sem, t0, t1, t2, zeroGr]) rfl ⟨rfl, hbb⟩

theorem OpsAt.later {w w' : World} {L : List Om} {a : Option Addr} {l : Nat} (h : OpsAt w L a l) (k : Below w.heap.size w w') : OpsAt w' L a l := by
  obtain ⟨h1, h2, h3⟩ := h
  refine ⟨h1, h2, fun h0 => ?_⟩
  obtain ⟨b, off, ha, hb, hc⟩ := h3 h0
  refine ⟨b, off, ha, Nat.lt_of_lt_of_le hb k.size, fun i o ho => ?_⟩
  have q : ∀ x, w'.cell? ⟨b, x, none⟩ = w.cell? ⟨b, x, none⟩ := fun x => k.cell (p := ⟨b, x, none⟩) hb
  obtain ⟨c0, c1, c2, c3, c4, c5, c6, c7, c8, c9, c10⟩ := hc i o ho
  exact ⟨(q _).trans c0, (q _).trans c1, (q _).trans c2, (q _).trans c3, (q _).trans c4, (q _).trans c5, (q _).trans c6, (q _).trans c7, (q _).trans c8, (q _).trans c9, (q _).trans c10⟩

theorem OpIn.later {w w' : World} {d : OpD} (h : OpIn w d) (k : Below w.heap.size w w') : OpIn w' d :=
  ⟨h.id, h.frm, h.dst, h.nms, h.vss, fun W q => h.labels W (below2 k q), fun W q => h.props W (below2 k q), fun a b n => ⟨(h.node a b n).1, fun W q => (h.node a b n).2 W (below2 k q)⟩, fun a n f t => ⟨(h.edge a n f t).1, fun W q => (h.edge a n f t).2 W (below2 k q)⟩, fun W q => h.check W (below2 k q), fun a W q => h.fresh a W (below2 k q)⟩

/-- The first ones, and the rest. -/
theorem OpsAt.first {w : World} {D : List OpD} {a : Option Addr} {l k : Nat} (h : OpsAt w (D.map OpD.o) a l) (hk : k ≤ l) : OpsAt w ((D.take k).map OpD.o) a k := by
  obtain ⟨h1, h2, h3⟩ := h
  rw [List.length_map] at h1
  refine ⟨by rw [List.length_map, List.length_take]; omega, by omega, fun h0 => ?_⟩
  obtain ⟨b, off, ha, hb, hc⟩ := h3 (by omega)
  refine ⟨b, off, ha, hb, fun i o ho => hc i o ?_⟩
  rw [List.map_take, List.getElem?_take] at ho
  split at ho
  · exact ho
  · cases ho

theorem OpsAt.rest {w : World} {D : List OpD} {b off l k : Nat} (h : OpsAt w (D.map OpD.o) (some ⟨b, off, none⟩) l) (hk : k ≤ l) : OpsAt w ((D.drop k).map OpD.o) (some ⟨b, off + k * 11, none⟩) (l - k) := by
  obtain ⟨h1, h2, h3⟩ := h
  rw [List.length_map] at h1
  refine ⟨by rw [List.length_map, List.length_drop]; omega, by omega, fun h0 => ?_⟩
  obtain ⟨b', off', ha, hb, hc⟩ := h3 (by omega)
  injection ha with ha
  injection ha with e1 e2 e3
  subst e1 e2
  refine ⟨b, off + k * 11, rfl, hb, fun i o ho => ?_⟩
  rw [List.map_drop, List.getElem?_drop] at ho
  have := hc (k + i) o ho
  rw [show off + (k + i) * 11 = off + k * 11 + i * 11 from by omega] at this
  exact this

/-- Apply has answered a graph. -/
def Done (B : Nat) (w' : World) (S : WS) (e : Ending) : Prop := ∃ na nc ea ec ma mc, e = .returned (.tuple #[.agg #[.slice na S.N.length nc, .slice ea S.E.length ec, .int .i64 S.next], .slice ma S.made.length mc, .int .i64 0, .int .i64 0]) ∧ LiesOwn B w' S na ea ma mc

/-- Apply has answered an error. -/
def Refused (e : Ending) : Prop := ∃ i er, er ≠ 0 ∧ e = .returned (.tuple #[zeroGr, .slice none 0 0, .int .i64 i, .int .i64 er])

theorem apply_done (B : Nat) (S : WS) (na : Option Addr) (nl nc : Nat) (ea : Option Addr) (el ec : Nat) (D : List OpD) (oa : Option Addr) (ol oc : Nat) (w : World) (hB : B ≤ w.heap.size) (hT : Tabs B w) (hS : Rt ⟨S.N, S.E, S.next, []⟩) (hN : NsAt w S.N na nl) (hE : EsAt w S.E ea el) (hops : OpsAt w (D.map OpD.o) oa ol) (hol : ol ≤ 20) (hD : ∀ d ∈ D, OpIn w d ∧ OpRt d) (h0 : ∀ j, j < ol → runE ⟨S.N, S.E, S.next, []⟩ D j = 0) :
    Calls Tryd.prog 5 #[.agg #[.slice na nl nc, .slice ea el ec, .int .i64 S.next], .slice oa ol oc] w fun e w' => Done w.heap.size w' (runS ⟨S.N, S.E, S.next, []⟩ D ol) e ∧ Below w.heap.size w w' := by
  obtain ⟨N, E, hG, hg⟩ := gr_back B hB hT hS hN hE
  refine (apply_all S.N S.E S.next na nl nc ea el ec D oa ol oc w (fun W k => ?_) hN hE hS hops hol hD).mono fun e w' ⟨h, k⟩ => ⟨?_, k⟩
  · have := check_ok hG nc ec S.next W k
    rw [show gE N E S.next = 0 from hg] at this
    exact this
  · rcases h with ⟨i, hi, _, hne, _⟩ | ⟨_, na', nc', ea', ec', ma, mc, he, _, q1, _, q2, q3, q4⟩
    · exact absurd (h0 i hi) hne
    · exact ⟨na', nc', ea', ec', ma, mc, he, q4⟩

theorem apply_two (B : Nat) (N : List Nd) (E : List Ed) (na : Option Addr) (nl nc : Nat) (ea : Option Addr) (el ec : Nat) (nx : Int) (D : List OpD) (oa : Option Addr) (ol oc : Nat) (w : World) (hG : GrOk w N E na nl ea el) (hops : OpsAt w (D.map OpD.o) oa ol) (hD : ∀ d ∈ D, OpIn w d ∧ OpRt d) :
    (∀ W, Below w.heap.size w W → Calls Tryd.prog 5 #[.agg #[.slice na nl nc, .slice ea el ec, .int .i64 nx], .slice oa ol oc] W fun e w' => Refused e ∧ Below W.heap.size W w') ∨
    (ol ≤ 20 ∧ ∃ XN XE, NsAt w XN na nl ∧ EsAt w XE ea el ∧ Rt ⟨XN, XE, nx, []⟩ ∧ ∀ j, j < ol → runE ⟨XN, XE, nx, []⟩ D j = 0) := by
  by_cases hg : gE N E nx = 0
  · have hC : ∀ W, Below w.heap.size w W → Calls Tryd.prog 6 #[.agg #[.slice na nl nc, .slice ea el ec, .int .i64 nx]] W fun e w' => e = .returned (.int .i64 0) ∧ Below W.heap.size W w' := fun W k => by
      have := check_ok hG nc ec nx W k
      rw [hg] at this
      exact this
    by_cases hol : ol ≤ 20
    · obtain ⟨XN, XE, hN, hE, hR⟩ := gr_right hG hg
      by_cases h0 : ∀ j, j < ol → runE ⟨XN, XE, nx, []⟩ D j = 0
      · exact .inr ⟨hol, XN, XE, hN, hE, hR [], h0⟩
      · refine .inl fun W k => (apply_all XN XE nx na nl nc ea el ec D oa ol oc W (fun V q => hC V (below2 k q)) (hN.below k) (hE.below k) (hR []) (hops.later k) hol fun d hd => ⟨(hD d hd).1.later k, (hD d hd).2⟩).mono fun e w' ⟨h, q⟩ => ⟨?_, q⟩
        rcases h with ⟨i, hi, _, hne, he⟩ | ⟨h, _⟩
        · exact ⟨i, _, hne, he⟩
        · exact absurd h h0
    · exact .inl fun W k => (apply_long nx na nl nc ea el ec oa ol oc W (by omega) fun V q => hC V (below2 k q)).mono fun e w' ⟨h, q⟩ => ⟨⟨0, 2, by decide, h⟩, q⟩
  · exact .inl fun W k => (apply_bad nx na nl nc ea el ec oa ol oc _ W hg fun V q => check_ok hG nc ec nx V (below2 k q)).mono fun e w' ⟨h, q⟩ => ⟨⟨0, _, hg, h⟩, q⟩

set_option maxHeartbeats 8000000 in
set_option maxRecDepth 100000 in
theorem sameGraph_ref (XN YN : List AN) (XE YE : List AE) (na : Option Addr) (nl nc : Nat) (ea : Option Addr) (el ec : Nat) (nx : Int) (ma : Option Addr) (ml mc : Nat) (fa : Option Addr) (fl fc : Nat) (mx : Int) (w : World) (h1 : NsAt w XN na nl) (h2 : EsAt w XE ea el) (h3 : NsAt w YN ma ml) (h4 : EsAt w YE fa fl) (o1 : ∀ x ∈ XN, x.ok) (o2 : ∀ x ∈ XE, x.ok) (o3 : ∀ x ∈ YN, x.ok) (o4 : ∀ x ∈ YE, x.ok) :
    Calls Tryd.prog 7 #[.agg #[.slice na nl nc, .slice ea el ec, .int .i64 nx], .agg #[.slice ma ml mc, .slice fa fl fc, .int .i64 mx]] w fun e w' => e = .returned (.bool ((nx == mx) && (eqB sameN XN YN && eqB sameE XE YE))) ∧ Below w.heap.size w w' := by
  obtain ⟨R, hR⟩ : ∃ R, R = ((nx == mx) && (eqB sameN XN YN && eqB sameE XE YE)) := ⟨_, rfl⟩
  rw [← hR]
  obtain ⟨s1, hs1⟩ : ∃ z, z = eqB sameN XN YN := ⟨_, rfl⟩
  obtain ⟨s2, hs2⟩ : ∃ z, z = eqB sameE XE YE := ⟨_, rfl⟩
  have HP1 : Hid (∀ W, Below w.heap.size w W → Calls Tryd.prog 14 #[.slice na nl nc, .slice ma ml mc, .func (.func 15) #[] #[]] W fun e w' => e = .returned (.bool s1) ∧ Below W.heap.size W w') := by
    intro W kW
    rw [hs1]
    exact equalN_any XN YN na nl nc ma ml mc W (h1.below kW) (h3.below kW) (fun p x q y W hx hy hp hq => sameNode_ref p x q y W hp hq (o1 x hx) (o3 y hy))
  have HP2 : Hid (∀ W, Below w.heap.size w W → Calls Tryd.prog 16 #[.slice ea el ec, .slice fa fl fc, .func (.func 17) #[] #[]] W fun e w' => e = .returned (.bool s2) ∧ Below W.heap.size W w') := by
    intro W kW
    rw [hs2]
    exact equalE_any XE YE ea el ec fa fl fc W (h2.below kW) (h4.below kW) (fun p x q y W hx hy hp hq => sameEdge_ref p x q y W hp hq (o2 x hx) (o4 y hy))
  have HR : Hid (R = ((nx == mx) && (s1 && s2))) := by rw [hR, hs1, hs2]; exact toHid rfl
  clear hR hs1 hs2 h1 h2 h3 h4 o1 o2 o3 o4
  have hb0 : Below w.heap.size w ((w.alloc (.cells #[.slice na nl nc, .slice ea el ec, .int .i64 nx] 25)).alloc (.cells #[.slice ma ml mc, .slice fa fl fc, .int .i64 mx] 25)) := ((Below.refl _ _).alloc (Nat.le_refl _) _).alloc (by simp) _
  have HB0 := toHid hb0
  have z0 : ((w.alloc (.cells #[.slice na nl nc, .slice ea el ec, .int .i64 nx] 25)).alloc (.cells #[.slice ma ml mc, .slice fa fl fc, .int .i64 mx] 25)).heap.size = w.heap.size + 2 := by simp
  have hu := (Below.heap_alloc (w.alloc (.cells #[.slice na nl nc, .slice ea el ec, .int .i64 nx] 25)) (.cells #[.slice ma ml mc, .slice fa fl fc, .int .i64 mx] 25) w.heap.size (by simp)).trans (alloc_new w (.cells #[.slice na nl nc, .slice ea el ec, .int .i64 nx] 25))
  have hv := alloc_two w (.cells #[.slice na nl nc, .slice ea el ec, .int .i64 nx] 25) (.cells #[.slice ma ml mc, .slice fa fl fc, .int .i64 mx] 25)
  have HU := toHid hu
  have HV := toHid hv
  have HZ := toHid z0
  clear hb0 z0 hu hv
  cases i0 : (nx == mx) with
  | false =>
    have H3 := toHid (show R = false by rw [HR.out, i0]; rfl)
    clear HR
    go_enter Tryd.func7, Tryd.ntmps7
    go_wp2_with fail
    go_ret
    exact ⟨ret_bool (by rw [H3.out]), HB0.out⟩
  | true =>
    go_enter Tryd.func7, Tryd.ntmps7
    go_wp2_with fail
    refine (HP1.out _ HB0.out).mono ?_
    generalize (w.alloc (.cells #[.slice na nl nc, .slice ea el ec, .int .i64 nx] 25)).alloc (.cells #[.slice ma ml mc, .slice fa fl fc, .int .i64 mx] 25) = W0 at HB0 HU HV HZ ⊢
    rintro e w1 ⟨rfl, k1⟩
    have hb1 := HB0.out.trans (k1.mono HB0.out.size)
    have A1 := toHid ((k1.block w.heap.size (by rw [HZ.out]; omega)).trans HU.out)
    have A2 := toHid ((k1.block (w.heap.size + 1) (by rw [HZ.out]; omega)).trans HV.out)
    have z1 : w.heap.size + 2 ≤ w1.heap.size := by have := k1.size; rw [HZ.out] at this; exact this
    have u1 := cell_of A1.out 1
    have v1 := cell_of A2.out 1
    simp at u1 v1
    clear k1
    cases s1 with
    | false =>
      have H3 := toHid (show R = false by rw [HR.out, i0]; rfl)
      clear HR
      go_wp2_with fail
      go_ret
      exact ⟨ret_bool (by rw [H3.out]), hb1⟩
    | true =>
      go_wp2_with fail
      refine (HP2.out _ hb1).mono ?_
      rintro e w2 ⟨rfl, k2⟩
      have hb2 := hb1.trans (k2.mono hb1.size)
      have H3 := toHid (show R = s2 by rw [HR.out, i0]; rfl)
      clear HR
      go_wp2_with fail
      go_ret
      exact ⟨ret_bool (by rw [H3.out]), hb2⟩

theorem eqB_self {α : Type} (s : α → α → Bool) (h : ∀ x, s x x = true) : ∀ X : List α, eqB s X X = true
  | [] => rfl
  | x :: X => by
    show (s x x && eqB s X X) = true
    rw [h x, eqB_self s h X]
    rfl

theorem sameP_self (x : AP) : sameP x x = true := by
  unfold sameP
  rw [ordT_self]
  simp

theorem sameN_self (x : AN) : sameN x x = true := by
  unfold sameN eqS
  rw [eqB_self _ (fun y => by simp), eqB_self _ sameP_self]
  simp

theorem sameE_self (x : AE) : sameE x x = true := by
  unfold sameE
  rw [eqB_self _ sameP_self]
  simp

theorem lackL_self {α : Type} (s : α → α → Bool) (h : ∀ x, s x x = true) (X : List α) : lackL s X X = [] := by
  unfold lackL
  rw [List.filter_eq_nil_iff]
  intro x hx
  have : X.any (s x) = true := List.any_eq_true.2 ⟨x, hx, h x⟩
  simp [this]

def anK : List AN := [⟨1, [⟨#[65]⟩], [⟨⟨#[110]⟩, .node 2 5 ⟨#[]⟩ []⟩]⟩, ⟨2, [], []⟩]
def aeK : List AE := [⟨3, 1, 2, ⟨#[75]⟩, []⟩]

theorem prK_in (w : World) : PrIn AnyB w prK ⟨⟨#[110]⟩, .node 2 5 ⟨#[]⟩ []⟩ := ⟨rfl, by decide, by decide, Nat.le_refl _, [], rfl, by unfold LieA; rfl⟩

theorem pair_one {α β : Type} {R : α → β → Prop} {p : α} {x : β} (h : R p x) : Pair2 R [p] [x] := Pair2.snoc (P := []) (L := []) Pair2.nil h

theorem KnowsAt.ns {w : World} {lb pb nb eb : Nat} (h : KnowsAt w lb pb nb eb) : NsAt w anK (some ⟨nb, 0, none⟩) 2 := by
  refine ⟨ndsK lb pb, h.nodes, ?_⟩
  exact Pair2.snoc (pair_one ⟨rfl, rfl, h.strs, h.props, pair_one (prK_in w)⟩) ⟨rfl, rfl, strs_none _ _, props_none _ _, Pair2.nil⟩

theorem KnowsAt.es {w : World} {lb pb nb eb : Nat} (h : KnowsAt w lb pb nb eb) : EsAt w aeK (some ⟨eb, 0, none⟩) 1 :=
  ⟨edsK, h.edges, pair_one ⟨rfl, rfl, rfl, rfl, by decide, props_none _ _, Pair2.nil⟩⟩

theorem anK_ok : ∀ x ∈ anK, x.ok := by
  intro x hx
  rcases List.mem_cons.1 hx with rfl | hx
  · refine ⟨by decide, by decide, fun p hp => ?_⟩
    obtain rfl := List.mem_singleton.1 hp
    show wtT _ ≤ _
    decide
  · obtain rfl := List.mem_singleton.1 hx
    exact ⟨by decide, by decide, fun p hp => by cases hp⟩

theorem aeK_ok : ∀ x ∈ aeK, x.ok := by
  intro x hx
  obtain rfl := List.mem_singleton.1 hx
  exact ⟨by decide, fun p hp => by cases hp⟩

/-- What the work is, operation by operation. -/
def SfK : Nat → WS
  | 0 => ⟨anK, aeK, 4, []⟩
  | 1 => ⟨anK ++ [⟨4, [⟨#[66]⟩], []⟩], aeK, 5, [4]⟩
  | _ => ⟨anK ++ [⟨4, [⟨#[66]⟩], []⟩], aeK ++ [⟨5, 1, 4, ⟨#[75]⟩, []⟩], 6, [4, 5]⟩

def opsK (lb : Nat) : List Om := [⟨1, 0, 0, 0, ⟨#[]⟩, 0, 0, ⟨#[]⟩, none, 0, 0, some ⟨lb, 0, none⟩, 1, 1, none, 0, 0⟩, ⟨2, 0, 1, -1, ⟨#[75]⟩, 0, 0, ⟨#[]⟩, none, 0, 0, none, 0, 0, none, 0, 0⟩]

theorem strs_B {w : World} {lb : Nat} (h : w.heap[lb]? = some (.cells #[.string ⟨#[66]⟩] 9 (0, 0))) : StrsAt w [⟨#[66]⟩] (some ⟨lb, 0, none⟩) 1 := by
  refine ⟨rfl, by omega, fun _ => ⟨lb, 0, rfl, lt_of_some h, fun i s hs => ?_⟩⟩
  cases i with
  | zero =>
    simp at hs
    subst hs
    exact ⟨by decide, cell_of h 0⟩
  | succ i => simp at hs

theorem labs_B : labsE [⟨#[66]⟩] = 0 := by
  have h1 : nm ⟨#[66]⟩ = true := by decide
  have h2 : leS ⟨#[66]⟩ ⟨#[]⟩ = false := by rw [leS_lit]; decide
  simp [labsE, labE, h1, h2]

theorem prs_0 : prsE [] = 0 := by simp [prsE, prE]

theorem ops_at {w : World} {lb ob : Nat} (h : w.heap[ob]? = some (.cells #[.int .i64 1, .int .i64 0, .int .i64 0, .int .i64 0, .string ⟨#[]⟩, .int .i64 0, .int .i64 0, .string ⟨#[]⟩, .slice none 0 0, .slice (some ⟨lb, 0, none⟩) 1 1, .slice none 0 0, .int .i64 2, .int .i64 0, .int .i64 1, .int .i64 (-1), .string ⟨#[75]⟩, .int .i64 0, .int .i64 0, .string ⟨#[]⟩, .slice none 0 0, .slice none 0 0, .slice none 0 0] 33 (0, 0))) : OpsAt w (opsK lb) (some ⟨ob, 0, none⟩) 2 := by
  refine ⟨rfl, by omega, fun _ => ⟨ob, 0, rfl, lt_of_some h, fun i o ho => ?_⟩⟩
  match i, ho with
  | 0, ho =>
    simp [opsK] at ho
    subst ho
    exact ⟨cell_of h 0, cell_of h 1, cell_of h 2, cell_of h 3, cell_of h 4, cell_of h 5, cell_of h 6, cell_of h 7, cell_of h 8, cell_of h 9, cell_of h 10⟩
  | 1, ho =>
    simp [opsK] at ho
    subst ho
    exact ⟨cell_of h 11, cell_of h 12, cell_of h 13, cell_of h 14, cell_of h 15, cell_of h 16, cell_of h 17, cell_of h 18, cell_of h 19, cell_of h 20, cell_of h 21⟩
  | i + 2, ho => simp [opsK] at ho

theorem rise_K : Rise ((SfK 1).N.map AN.id) := by
  intro i j x y hij hx hy
  have e : (SfK 1).N.map AN.id = [1, 2, 4] := rfl
  rw [e] at hx hy
  match i, j, hij, hx, hy with
  | 0, 1, _, hx, hy => simp at hx hy; omega
  | 0, 2, _, hx, hy => simp at hx hy; omega
  | 1, 2, _, hx, hy => simp at hx hy; omega
  | i, j + 3, _, hx, hy => simp at hy
  | i + 2, 2, h, hx, hy => omega
  | i + 1, 1, h, hx, hy => omega
  | i, 0, h, hx, hy => omega

theorem step_K (w : World) {lb : Nat} (hl : w.heap[lb]? = some (.cells #[.string ⟨#[66]⟩] 9 (0, 0))) (i : Nat) (o : Om) (ho : (opsK lb)[i]? = some o) (O : Nat → Prop) (b : Nat) (W : World) (hW : WorkIn O W b (SfK i)) (hO : ∀ j, O j → w.heap.size ≤ j) (k : Below w.heap.size w W) :
    Calls Tryd.prog 11 #[.pointer (some ⟨b, 0, none⟩), .agg #[.int .i64 o.k, .int .i64 o.id, .int .i64 o.frm, .int .i64 o.dst, .string o.name, .int .i64 o.vk, .int .i64 o.vn, .string o.vs, .slice o.va o.vl o.vc, .slice o.la o.ll o.lc, .slice o.pa o.pl o.pc]] W fun e w' => ActEnd O W w' b (SfK (i + 1)) 0 e := by
  match i, ho, hW with
  | 0, ho, hW =>
    simp [opsK] at ho
    subst ho
    refine do_of 1 23 (.inl ⟨rfl, rfl⟩) O b (SfK 0) (SfK 1) 0 0 0 ⟨#[]⟩ 0 0 ⟨#[]⟩ none 0 0 (some ⟨lb, 0, none⟩) 1 1 none 0 0 0 W hW (by decide) (by omega) (by omega) (by omega) (fun V kV => ?_)
    have k0 : ∀ U, Below w.heap.size V U → Below w.heap.size w U := fun U kU => (k.trans (kV.mono k.size)).trans kU
    have := addNode_any O b (SfK 0) ⟨1, 0, 0, 0, ⟨#[]⟩, 0, 0, ⟨#[]⟩, none, 0, 0, some ⟨lb, 0, none⟩, 1, 1, none, 0, 0⟩ [⟨#[66]⟩] [] [] 0 0 0 w.heap.size V (hW.below kV) (Nat.le_trans k.size kV.size) hO (by decide) (by decide)
      (fun U kU => by have := labels_of name_any [⟨#[66]⟩] (some ⟨lb, 0, none⟩) 1 1 U ((strs_B hl).below (k0 U kU)); rw [labs_B] at this; exact this)
      (fun U kU => by have := props_E U none 0; rw [prs_0] at this; exact this) rfl
      (fun _ => ⟨⟨by decide, by decide, fun p hp => by cases hp⟩, fun U kU => ⟨rfl, rfl, (strs_B hl).below (k0 U kU), props_none _ _, Pair2.nil⟩⟩)
    have e : addNE (SfK 0) 0 = 0 := by decide
    rw [e] at this
    exact this
  | 1, ho, hW =>
    simp [opsK] at ho
    subst ho
    refine do_of 2 24 (.inr (.inl ⟨rfl, rfl⟩)) O b (SfK 1) (SfK 2) 0 1 (-1) ⟨#[75]⟩ 0 0 ⟨#[]⟩ none 0 0 none 0 0 none 0 0 0 W hW (by decide) (by omega) (by omega) (by omega) (fun V kV => ?_)
    have := addEdge_any O b (SfK 1) ⟨2, 0, 1, 4, ⟨#[75]⟩, 0, 0, ⟨#[]⟩, none, 0, 0, none, 0, 0, none, 0, 0⟩ [] [] 0 w.heap.size V (hW.below kV) (Nat.le_trans k.size kV.size) hO (by decide) (by decide) (by decide) rise_K (by decide)
      (fun U kU => by have := props_E U none 0; rw [prs_0] at this; exact this)
      (fun _ => ⟨⟨by decide, fun p hp => by cases hp⟩, fun U kU => ⟨rfl, rfl, rfl, rfl, by decide, props_none _ _, Pair2.nil⟩⟩)
    have e : addEE (SfK 1) ⟨2, 0, 1, 4, ⟨#[75]⟩, 0, 0, ⟨#[]⟩, none, 0, 0, none, 0, 0, none, 0, 0⟩ 0 = 0 := by decide
    rw [e] at this
    exact this
  | i + 2, ho, hW => simp [opsK] at ho

theorem ints45 (w : World) : IntsAt (w.alloc (.cells #[.int .i64 4, .int .i64 5] 3)) [4, 5] (some ⟨w.heap.size, 0, none⟩) 2 := by
  refine ⟨rfl, by omega, fun _ => ⟨w.heap.size, 0, rfl, by simp, fun i s hs => ?_⟩⟩
  match i, hs with
  | 0, hs =>
    simp at hs
    subst hs
    exact cell_of (alloc_new w _) 0
  | 1, hs =>
    simp at hs
    subst hs
    exact cell_of (alloc_new w _) 1
  | i + 2, hs => simp at hs

theorem apply_K {w : World} {lb pb nb eb lb2 ob : Nat} (h : KnowsAt w lb pb nb eb) (hl : w.heap[lb2]? = some (.cells #[.string ⟨#[66]⟩] 9 (0, 0))) (ho : OpsAt w (opsK lb2) (some ⟨ob, 0, none⟩) 2) :
    Calls Tryd.prog 5 #[.agg #[.slice (some ⟨nb, 0, none⟩) 2 2, .slice (some ⟨eb, 0, none⟩) 1 1, .int .i64 4], .slice (some ⟨ob, 0, none⟩) 2 2] w fun e w' => (∃ na nc eb off ec ma mc, e = .returned (.tuple #[.agg #[.slice na 3 nc, .slice (some ⟨eb, off, none⟩) 2 ec, .int .i64 6], .slice ma 2 mc, .int .i64 0, .int .i64 0]) ∧ eb < w'.heap.size ∧ w'.cell? ⟨eb, off + 5 + 1 + 1, none⟩ = some (.int .i64 4) ∧ IntsAt w' [4, 5] ma 2) ∧ Below w.heap.size w w' := by
  refine (apply_of anK aeK 4 (some ⟨nb, 0, none⟩) 2 2 (some ⟨eb, 0, none⟩) 1 1 (opsK lb2) (some ⟨ob, 0, none⟩) 2 2 (fun _ => 0) SfK w (fun W k => check_K (h.below k)) h.ns h.es (by omega) (by omega) anK_ok aeK_ok ho (by omega) rfl (fun i => ?_) (fun i o hi _ O b W hW hO k => step_K w hl i o hi O b W hW hO k)).mono ?_
  · match i with
    | 0 => decide
    | 1 => decide
    | i + 2 => show ([4, 5] : List Int).length ≤ _; decide
  rintro e w' ⟨hA, k⟩
  refine ⟨?_, k⟩
  rcases hA with ⟨i, _, _, h0, _⟩ | ⟨_, na, nc, ea, ec, ma, mc, rfl, _, _, _, ⟨E, hE, hp⟩, hi⟩
  · exact absurd rfl h0
  · obtain ⟨eb, off, rfl, hb, hc⟩ := hE.2.2 (by decide)
    obtain ⟨x, hx, hxe⟩ := hp.right (i := 1) (x := ⟨5, 1, 4, ⟨#[75]⟩, []⟩) rfl
    have c := (hc 1 x hx).2.2.2.1
    rw [hxe.2.2.1] at c
    exact ⟨na, nc, eb, off, ec, ma, mc, rfl, hb, by simpa using c, hi⟩

theorem equal45 (a : Option Addr) (c b : Nat) (w : World) (h : IntsAt w [4, 5] a 2) (h' : IntsAt w [4, 5] (some ⟨b, 0, none⟩) 2) : Calls Tryd.prog 8 #[.slice a 2 c, .slice (some ⟨b, 0, none⟩) 2 2] w fun e w' => e = .returned (.bool true) ∧ Below w.heap.size w w' :=
  equal_ints [4, 5] [4, 5] a 2 c (some ⟨b, 0, none⟩) 2 2 w h h'

set_option maxHeartbeats 8000000 in
set_option maxRecDepth 100000 in
theorem changed_true (w : World) : Calls Tryd.prog 4 #[] w fun e w' => e = .returned (.bool true) ∧ Below w.heap.size w w' := by
  go_enter Tryd.func4, Tryd.ntmps4
  go_wp2_with fail
  refine (knows_any w).mono ?_
  rintro e w1 ⟨⟨lb, pb, nb, eb, rfl, hk⟩, k1⟩
  have b1 : Below w1.heap.size w1 ((w1.alloc (.cells #[.string ⟨#[66]⟩] 9)).alloc (.cells #[.int .i64 1, .int .i64 0, .int .i64 0, .int .i64 0, .string ⟨#[]⟩, .int .i64 0, .int .i64 0, .string ⟨#[]⟩, .slice none 0 0, .slice (some ⟨w1.heap.size, 0, none⟩) 1 1, .slice none 0 0, .int .i64 2, .int .i64 0, .int .i64 1, .int .i64 (-1), .string ⟨#[75]⟩, .int .i64 0, .int .i64 0, .string ⟨#[]⟩, .slice none 0 0, .slice none 0 0, .slice none 0 0] 33)) := ((Below.refl _ _).alloc (Nat.le_refl _) _).alloc (by simp) _
  have hl := (Below.heap_alloc (w1.alloc (.cells #[.string ⟨#[66]⟩] 9)) (.cells #[.int .i64 1, .int .i64 0, .int .i64 0, .int .i64 0, .string ⟨#[]⟩, .int .i64 0, .int .i64 0, .string ⟨#[]⟩, .slice none 0 0, .slice (some ⟨w1.heap.size, 0, none⟩) 1 1, .slice none 0 0, .int .i64 2, .int .i64 0, .int .i64 1, .int .i64 (-1), .string ⟨#[75]⟩, .int .i64 0, .int .i64 0, .string ⟨#[]⟩, .slice none 0 0, .slice none 0 0, .slice none 0 0] 33) w1.heap.size (by simp)).trans (alloc_new w1 (.cells #[.string ⟨#[66]⟩] 9))
  have ho := ops_at (alloc_two w1 (.cells #[.string ⟨#[66]⟩] 9) (.cells #[.int .i64 1, .int .i64 0, .int .i64 0, .int .i64 0, .string ⟨#[]⟩, .int .i64 0, .int .i64 0, .string ⟨#[]⟩, .slice none 0 0, .slice (some ⟨w1.heap.size, 0, none⟩) 1 1, .slice none 0 0, .int .i64 2, .int .i64 0, .int .i64 1, .int .i64 (-1), .string ⟨#[75]⟩, .int .i64 0, .int .i64 0, .string ⟨#[]⟩, .slice none 0 0, .slice none 0 0, .slice none 0 0] 33))
  have HAP := toHid (apply_K (hk.below b1) hl ho)
  have HB1 := toHid (below3 k1 k1.size b1)
  clear hk k1 b1 hl ho
  go_wp2_with fail
  refine HAP.out.mono ?_
  clear HAP
  generalize ((w1.alloc (.cells #[.string ⟨#[66]⟩] 9)).alloc (.cells #[.int .i64 1, .int .i64 0, .int .i64 0, .int .i64 0, .string ⟨#[]⟩, .int .i64 0, .int .i64 0, .string ⟨#[]⟩, .slice none 0 0, .slice (some ⟨w1.heap.size, 0, none⟩) 1 1, .slice none 0 0, .int .i64 2, .int .i64 0, .int .i64 1, .int .i64 (-1), .string ⟨#[75]⟩, .int .i64 0, .int .i64 0, .string ⟨#[]⟩, .slice none 0 0, .slice none 0 0, .slice none 0 0] 33)) = W1 at HB1 ⊢
  generalize w1.heap.size = m1 at ⊢
  rintro e w3 ⟨⟨na, nc, eb2, off, ec, ma, mc, rfl, heb, hc, hi⟩, k3⟩
  have HB3 := toHid (below3 HB1.out HB1.out.size k3)
  have b4 : Below w3.heap.size w3 ((w3.alloc (.cells #[.slice na 3 nc, .slice (some ⟨eb2, off, none⟩) 2 ec, .int .i64 6] 25)).alloc (.cells #[.int .i64 4, .int .i64 5] 3)) := ((Below.refl _ _).alloc (Nat.le_refl _) _).alloc (by simp) _
  have HE := toHid (equal45 ma mc (w3.heap.size + 1) ((w3.alloc (.cells #[.slice na 3 nc, .slice (some ⟨eb2, off, none⟩) 2 ec, .int .i64 6] 25)).alloc (.cells #[.int .i64 4, .int .i64 5] 3)) (hi.below b4) (by have := ints45 (w3.alloc (.cells #[.slice na 3 nc, .slice (some ⟨eb2, off, none⟩) 2 ec, .int .i64 6] 25)); simpa using this))
  have hg := (Below.heap_alloc (w3.alloc (.cells #[.slice na 3 nc, .slice (some ⟨eb2, off, none⟩) 2 ec, .int .i64 6] 25)) (.cells #[.int .i64 4, .int .i64 5] 3) w3.heap.size (by simp)).trans (alloc_new w3 (.cells #[.slice na 3 nc, .slice (some ⟨eb2, off, none⟩) 2 ec, .int .i64 6] 25))
  have hz : ((w3.alloc (.cells #[.slice na 3 nc, .slice (some ⟨eb2, off, none⟩) 2 ec, .int .i64 6] 25)).alloc (.cells #[.int .i64 4, .int .i64 5] 3)).heap.size = w3.heap.size + 2 := by simp
  have hc4 := (b4.cell (p := ⟨eb2, off + 5 + 1 + 1, none⟩) heb).trans hc
  have HB4 := toHid (below3 HB3.out HB3.out.size b4)
  have HG := toHid hg
  have HZ := toHid hz
  have HC4 := toHid hc4
  clear hi hc k3 b4 hg hz hc4 HB1 HB3
  go_wp2_with fail
  refine HE.out.mono ?_
  clear HE
  generalize ((w3.alloc (.cells #[.slice na 3 nc, .slice (some ⟨eb2, off, none⟩) 2 ec, .int .i64 6] 25)).alloc (.cells #[.int .i64 4, .int .i64 5] 3)) = W3 at HB4 HG HZ HC4 ⊢
  rintro e w4 ⟨rfl, k4⟩
  have h4 := (k4.block w3.heap.size (by rw [HZ.out]; omega)).trans HG.out
  have x1 := cell_of h4 1
  have x2 := cell_of h4 2
  have y4 := (k4.cell (p := ⟨eb2, off + 5 + 1 + 1, none⟩) (by rw [HZ.out]; show eb2 < _; omega)).trans HC4.out
  simp at x1 x2
  have HB5 := toHid (below3 HB4.out HB4.out.size k4)
  clear h4 k4 HG HC4 HB4
  go_wp2_with fail
  go_ret
  exact ⟨rfl, HB5.out⟩
end Go.Proofs.YtaehecajihgggaaDoor
