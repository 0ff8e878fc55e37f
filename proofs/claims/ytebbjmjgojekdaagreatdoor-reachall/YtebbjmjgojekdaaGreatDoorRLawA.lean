/-
  What is proved here: the law ReachAll answers true of any graph that lies in memory, and any text; what was there is as it was.
-/
import Derived.Test.YtebbjmjgojekdaaGreatDoorQRAP
import Derived.Test.YtebbjmjgojekdaaGreatDoorQRAR
namespace Go.Proofs.YtebbjmjgojekdaaGreatDoor
open Go.RowKit
set_option linter.unusedVariables false
set_option linter.unusedSimpArgs false

theorem has_mem {N : List Nd} {i : Int} (h : hasN N i = true) : i ∈ N.map (·.id) := by
  unfold hasN at h
  simpa [eq_comm] using h

theorem right_ids {N : List Nd} {E : List Ed} {next : Int} (hg : gE N E next = 0) : (N.map (·.id)).Nodup ∧ ∀ x ∈ E, x.frm ∈ N.map (·.id) ∧ x.dst ∈ N.map (·.id) := by
  have hR := gE_ok hg
  refine ⟨?_, fun x hx => ⟨has_mem (hR.edges x hx).2.1, has_mem (hR.edges x hx).2.2.1⟩⟩
  refine List.Pairwise.imp (R := fun a b : Int => a < b) (fun {a b} hab => by omega) ?_
  rw [List.pairwise_iff_getElem]
  intro i j hi hj hij
  exact hR.riseN i j _ _ hij (List.getElem?_eq_getElem hi) (List.getElem?_eq_getElem hj)

/-- What is asked of the closed set of a right graph. -/
theorem reached_facts {N : List Nd} {E : List Ed} {next : Int} (hg : gE N E next = 0) (kind : ByteArray) : (reachedF E (N.map (·.id)) kind).length ≤ 1000000 ∧ sortP (reachedF E (N.map (·.id)) kind) = allF N E kind ∧ (allF N E kind).length ≤ 1000000 ∧ (allF N E kind).length = (reachedF E (N.map (·.id)) kind).length := by
  obtain ⟨hn, he⟩ := right_ids hg
  have r := gE_ok hg
  have a1 := r.fewN
  have a2 := r.fewE
  have hl := all_len N E kind (by omega) (by omega)
  have hp := all_perm (N := N) (E := E) kind hn he
  refine ⟨by rw [← hp.length_eq]; exact hl, ?_, hl, hp.length_eq⟩
  exact all_reached kind hn he (List.mergeSort_perm _ _) ((sortP_rises _).imp fun h => by simpa using h)

set_option maxHeartbeats 8000000 in
set_option maxRecDepth 100000 in
theorem law_all (N : List Nd) (E : List Ed) (na : Option Addr) (nl nc : Nat) (ea : Option Addr) (el ec : Nat) (nx : Int) (kind : ByteArray) (w : World) (h : GrOk w N E na nl ea el) :
    Calls Tryz.prog 3 #[.agg #[.slice na nl nc, .slice ea el ec, .int .i64 nx], .string kind] w fun e w' => e = .returned (.bool true) ∧ Below w.heap.size w w' := by
  have hb0 : Below w.heap.size w (w.alloc (.cells #[.slice na nl nc, .slice ea el ec, .int .i64 nx] 25)) := (Below.refl _ _).alloc (Nat.le_refl _) _
  have HB := toHid hb0
  have HG := toHid (alloc_new w (.cells #[.slice na nl nc, .slice ea el ec, .int .i64 nx] 25))
  have HCK : Hid (∀ X, Below w.heap.size w X → Calls Tryz.prog 8 #[.agg #[.slice na nl nc, .slice ea el ec, .int .i64 nx]] X fun e w' => e = .returned (.int .i64 (gE N E nx)) ∧ Below X.heap.size X w') := fun X kx => checkGraph_ok h nc ec nx X kx
  clear hb0
  by_cases hg : gE N E nx = 0
  case neg =>
    have HA : Hid (∀ X, Below w.heap.size w X → Calls Tryz.prog 7 #[.agg #[.slice na nl nc, .slice ea el ec, .int .i64 nx], .string kind] X fun e w' => e = .returned (.tuple #[.slice none 0 0, .int .i64 (gE N E nx)]) ∧ Below X.heap.size X w') := fun X kx => all_bad h hg nc ec kind X kx
    generalize gE N E nx = er at HA HCK hg
    have hz1 : (er != 0) = true := by simp [hg]
    have hz2 : (er == er) = true := by simp
    clear h hg
    go_enter Tryz.func3, Tryz.ntmps3
    go_upto_region 1 with fail
    generalize w.alloc (.cells #[.slice na nl nc, .slice ea el ec, .int .i64 nx] 25) = X at HB HG ⊢
    have x0 := cell_of HG.out 0
    have x1 := cell_of HG.out 1
    have x2 := cell_of HG.out 2
    simp at x0 x1 x2
    have hl0 : w.heap.size < X.heap.size := blk_lt HG.out
    go_wp2_with fail
    refine (HA.out X HB.out).mono ?_
    rintro e w1 ⟨rfl, k1⟩
    have HB1 := toHid (below2 HB.out k1)
    have HG1 := toHid ((k1.block _ hl0).trans HG.out)
    clear x0 x1 x2 k1 hl0
    have x0 := cell_of HG1.out 0
    have x1 := cell_of HG1.out 1
    have x2 := cell_of HG1.out 2
    simp at x0 x1 x2
    have hl1 : w.heap.size < w1.heap.size := blk_lt HG1.out
    go_wp2_with fail
    refine (HCK.out w1 HB1.out).mono ?_
    rintro e w2 ⟨rfl, k2⟩
    have HB2 := toHid (below2 HB1.out k2)
    clear x0 x1 x2 k2 hl1
    go_wp2_with fail
    refine (reached_true _).mono ?_
    rintro e w3 ⟨rfl, k3⟩
    have HB3 := toHid (below2 HB2.out k3)
    clear k3
    go_wp2_with fail
    refine (reached_true _).mono ?_
    rintro e w4 ⟨rfl, k4⟩
    have HB4 := toHid (below2 HB3.out k4)
    clear k4
    go_wp2_with fail
    go_ret
    exact ⟨rfl, HB4.out⟩
  have HA : Hid (∀ X, Below w.heap.size w X → Calls Tryz.prog 7 #[.agg #[.slice na nl nc, .slice ea el ec, .int .i64 nx], .string kind] X fun e w' => ∃ v, e = .returned (.tuple #[v, .int .i64 0]) ∧ w'.ownsRow X.heap.size 33 2 v (allF N E kind).length (pcells (allF N E kind)) ∧ Below X.heap.size X w') := fun X kx => all_good h hg nc ec kind X kx
  have HRM : Hid (∀ X, Below w.heap.size w X → Calls Tryz.prog 12 #[.agg #[.slice na nl nc, .slice ea el ec, .int .i64 nx], .string kind] X fun e w' => e = .returned (.map (some (X.heap.size + 1))) ∧ MapB w' (X.heap.size + 1) (reachedF E (N.map (·.id)) kind) ∧ Below X.heap.size X w') := fun X kx => by
    have hX := h.below kx
    have hf := few_of h hg
    exact reached_any N E na nl nc ea el ec nx kind X hX.1 hX.2.1 hf.2 (by omega)
  rw [hg] at HCK
  have HF := toHid (reached_facts hg kind)
  generalize reachedF E (N.map (·.id)) kind = K at HRM HF
  generalize allF N E kind = A at HA HF
  clear h hg
  go_enter Tryz.func3, Tryz.ntmps3
  go_upto_region 1 with fail
  generalize w.alloc (.cells #[.slice na nl nc, .slice ea el ec, .int .i64 nx] 25) = X at HB HG ⊢
  have x0 := cell_of HG.out 0
  have x1 := cell_of HG.out 1
  have x2 := cell_of HG.out 2
  simp at x0 x1 x2
  have hl0 : w.heap.size < X.heap.size := blk_lt HG.out
  go_wp2_with fail
  refine (HA.out X HB.out).mono ?_
  rintro e w1 ⟨v1, rfl, hv1, k1⟩
  obtain ⟨a1, l1, c1, rfl⟩ := slice_row hv1
  have HP1 := toHid (prs_row hv1 HF.out.2.2.1)
  have HB1 := toHid (below2 HB.out k1)
  have HG1 := toHid ((k1.block _ hl0).trans HG.out)
  clear x0 x1 x2 k1 hl0 hv1
  have x0 := cell_of HG1.out 0
  have x1 := cell_of HG1.out 1
  have x2 := cell_of HG1.out 2
  simp at x0 x1 x2
  have hl1 : w.heap.size < w1.heap.size := blk_lt HG1.out
  go_wp2_with fail
  refine (HCK.out w1 HB1.out).mono ?_
  rintro e w2 ⟨rfl, k2⟩
  have HB2 := toHid (below2 HB1.out k2)
  have HG2 := toHid ((k2.block _ hl1).trans HG1.out)
  have HP2 := toHid (HP1.out.below k2)
  clear x0 x1 x2 k2 hl1
  go_wp2_with fail
  refine (reached_true _).mono ?_
  rintro e w3 ⟨rfl, k3⟩
  have HB3 := toHid (below2 HB2.out k3)
  have HG3 := toHid ((k3.block _ (blk_lt HG2.out)).trans HG2.out)
  have HP3 := toHid (HP2.out.below k3)
  clear k3
  have x0 := cell_of HG3.out 0
  have x1 := cell_of HG3.out 1
  have x2 := cell_of HG3.out 2
  simp at x0 x1 x2
  have hl3 : w.heap.size < w3.heap.size := blk_lt HG3.out
  go_wp2_with fail
  refine (HRM.out w3 HB3.out).mono ?_
  rintro e w4 ⟨rfl, hm4, k4⟩
  have HPM := toHid (pairsM_any w4 _ K hm4 HF.out.1)
  have HB4 := toHid (below2 HB3.out k4)
  have HP4 := toHid (HP3.out.below k4)
  clear x0 x1 x2 k4 hl3 hm4
  go_wp2_with fail
  refine HPM.out.mono ?_
  rintro e w5 ⟨v5, rfl, hv5, k5⟩
  rw [HF.out.2.1, ← HF.out.2.2.2] at hv5
  obtain ⟨a5, l5, c5, rfl⟩ := slice_row hv5
  have HB5 := toHid (below2 HB4.out k5)
  have HEQ := toHid (equalP_same A a1 l1 c1 a5 l5 c5 w5 (HP4.out.below k5) (prs_row hv5 HF.out.2.2.1))
  clear k5 hv5
  go_wp2_with fail
  refine HEQ.out.mono ?_
  rintro e w6 ⟨rfl, k6⟩
  have HB6 := toHid (below2 HB5.out k6)
  clear k6
  go_wp2_with fail
  go_ret
  exact ⟨rfl, HB6.out⟩
end Go.Proofs.YtebbjmjgojekdaaGreatDoor
