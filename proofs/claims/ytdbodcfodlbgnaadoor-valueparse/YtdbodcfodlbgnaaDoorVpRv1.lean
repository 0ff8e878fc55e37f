/-
  What is proved here: espalierref.readValue at a word: null, true, false.
-/
import Derived.Test.YtdbodcfodlbgnaaDoorVpMap
import Derived.Test.YtdbodcfodlbgnaaDoorVpDig
import Derived.Test.YtdbodcfodlbgnaaDoorBgText1
namespace Go.Proofs.YtdbodcfodlbgnaaDoor
open Go.RowKit
set_option linter.unusedVariables false

/-- How many words are left. -/
def left3 (seen : Array Nat) : Nat := (if 0 ∈ seen then 0 else 1) + (if 1 ∈ seen then 0 else 1) + (if 2 ∈ seen then 0 else 1)

theorem left3_push {seen : Array Nat} {i : Nat} (hi : i < 3) (hn : i ∉ seen) : left3 (seen.push i) + 1 = left3 seen := by
  unfold left3
  match i, hi with
  | 0, _ => simp [hn]; omega
  | 1, _ => simp [hn]; omega
  | 2, _ => simp [hn]

/-- What readValue answers. -/
def RvEnd (o : Except Nat (T × Nat)) (w w' : World) (e : Ending) : Prop :=
  match o with
  | .error a => ∃ (k n : Int) (s : ByteArray) (sa : Option Addr) (sl sc : Nat), e = .returned (.tuple #[.agg #[.int .i64 k, .int .i64 n, .string s, .slice sa sl sc], .int .i64 0, .int .i64 a])
  | .ok (t, q) => ∃ x : Got, x.tree = t ∧ e = .returned (.tuple #[.agg #[.int .i64 x.k, .int .i64 x.n, .string x.s, .slice x.a x.l x.c], .int .i64 q, .int .i64 (-1)]) ∧ x.ok (fun i => w.heap.size ≤ i) w'

set_option maxHeartbeats 8000000 in
set_option maxRecDepth 100000 in
theorem rv_words (B p : Nat) (deep : Int) (text : ByteArray) (w : World) (hp : p ≤ text.size) (ht : text.size ≤ 4000) (hB : B ≤ w.heap.size) (hT : Tabs B w) (o : Except Nat (T × Nat)) (hsome : ∃ i, i < 3 ∧ begins text p (wkey i) = true) (hfit : ∀ i, i < 3 → begins text p (wkey i) = true → o = .ok (.node (wkind i) (wnum i) ⟨#[]⟩ [], p + (wkey i).size)) :
    Calls Tryd.prog 15 #[.string text, .int .i64 p, .int .i64 deep] w fun e w' => RvEnd o w w' e ∧ Below w.heap.size w w' := by
  have HSOME := toHid hsome
  have HFIT := toHid hfit
  clear hsome hfit hT
  have hmk : ∀ X : World, (Instr.makeMap 50 none).run Tryd.prog X = .ok (.map (some X.heap.size)) (X.alloc (.map #[] 0)) := fun X => rfl
  have hz0 : (w.alloc (.cells #[.int .i64 0, .int .i64 0, .string ⟨#[]⟩, .slice none 0 0] 24)).heap.size = w.heap.size + 1 := by simp
  have hbx0 : ((w.alloc (.cells #[.int .i64 0, .int .i64 0, .string ⟨#[]⟩, .slice none 0 0] 24)).alloc (.map #[] 0)).heap[w.heap.size]? = some (.cells #[.int .i64 0, .int .i64 0, .string ⟨#[]⟩, .slice none 0 0] 24 (0, 0)) := (Below.heap_alloc _ _ _ (by simp)).trans (alloc_new _ _)
  have hmp0 : ((w.alloc (.cells #[.int .i64 0, .int .i64 0, .string ⟨#[]⟩, .slice none 0 0] 24)).alloc (.map #[] 0)).heap[w.heap.size + 1]? = some (.map (wents 0).toArray 0) := by
    have := alloc_new (w.alloc (.cells #[.int .i64 0, .int .i64 0, .string ⟨#[]⟩, .slice none 0 0] 24)) (.map #[] 0)
    rw [hz0] at this
    exact this
  have hb0 : Below w.heap.size w ((w.alloc (.cells #[.int .i64 0, .int .i64 0, .string ⟨#[]⟩, .slice none 0 0] 24)).alloc (.map #[] 0)) := ((Below.refl _ _).alloc (Nat.le_refl _) _).alloc (by simp) _
  have hrun0 : (Instr.mapUpdate 50 (.map (some (w.heap.size + 1))) (.string ⟨#[110, 117, 108, 108]⟩) (.agg #[.int .i64 0, .int .i64 0, .string ⟨#[]⟩, .slice none 0 0])).run Tryd.prog ((w.alloc (.cells #[.int .i64 0, .int .i64 0, .string ⟨#[]⟩, .slice none 0 0] 24)).alloc (.map #[] 0)) = .ok () (putM ((w.alloc (.cells #[.int .i64 0, .int .i64 0, .string ⟨#[]⟩, .slice none 0 0] 24)).alloc (.map #[] 0)) (w.heap.size + 1) (.map (wents 1).toArray 1)) := run_word (n := 0) (by decide) hmp0
  obtain ⟨V1, hV1⟩ : ∃ z, z = putM ((w.alloc (.cells #[.int .i64 0, .int .i64 0, .string ⟨#[]⟩, .slice none 0 0] 24)).alloc (.map #[] 0)) (w.heap.size + 1) (.map (wents 1).toArray 1) := ⟨_, rfl⟩
  rw [← hV1] at hrun0
  have HB1 : Hid (Below w.heap.size w V1) := by
    show Below _ _ _
    rw [hV1]
    exact hb0.trans (putM_bel _ _ _ _ (by omega))
  have HX1 : Hid (V1.heap[w.heap.size]? = some (.cells #[.int .i64 0, .int .i64 0, .string ⟨#[]⟩, .slice none 0 0] 24 (0, 0))) := by
    show _ = _
    rw [hV1, putM_other _ _ _ _ (by omega)]
    exact hbx0
  have HM1 : Hid (V1.heap[w.heap.size + 1]? = some (.map (wents 1).toArray 1)) := by
    show _ = _
    rw [hV1]
    exact putM_here ((Array.getElem?_eq_some_iff.1 hmp0).1) _
  clear hbx0 hmp0 hb0 hV1 hz0
  have hpt : (p : Int) ≤ (text.size : Int) := by omega
  go_enter Tryd.func15, Tryd.ntmps15
  go_wp2_with fail
  refine (truthR 1 (by decide) _).mono ?_
  rintro e u1 ⟨rfl, k1⟩
  have z1 : w.heap.size + 1 < V1.heap.size := (Array.getElem?_eq_some_iff.1 HM1.out).1
  have hm1 := (k1.block (w.heap.size + 1) z1).trans HM1.out
  have hrun1 : (Instr.mapUpdate 50 (.map (some (w.heap.size + 1))) (.string ⟨#[116, 114, 117, 101]⟩) (.agg #[.int .i64 1, .int .i64 1, .string ⟨#[]⟩, .slice none 0 0])).run Tryd.prog u1 = .ok () (putM u1 (w.heap.size + 1) (.map (wents 2).toArray 2)) := run_word (n := 1) (by decide) hm1
  obtain ⟨V2, hV2⟩ : ∃ z, z = putM u1 (w.heap.size + 1) (.map (wents 2).toArray 2) := ⟨_, rfl⟩
  rw [← hV2] at hrun1
  have HB2 : Hid (Below w.heap.size w V2) := by
    show Below _ _ _
    rw [hV2]
    exact (below2 HB1.out k1).trans (putM_bel _ _ _ _ (by omega))
  have HX2 : Hid (V2.heap[w.heap.size]? = some (.cells #[.int .i64 0, .int .i64 0, .string ⟨#[]⟩, .slice none 0 0] 24 (0, 0))) := by
    show _ = _
    rw [hV2, putM_other _ _ _ _ (by omega)]
    exact (k1.block w.heap.size (by omega)).trans HX1.out
  have HM2 : Hid (V2.heap[w.heap.size + 1]? = some (.map (wents 2).toArray 2)) := by
    show _ = _
    rw [hV2]
    exact putM_here ((Array.getElem?_eq_some_iff.1 hm1).1) _
  clear hm1 hV2 k1 hrun0 HB1 HX1 HM1 z1
  go_wp2_with fail
  refine (truthR 0 (by decide) _).mono ?_
  rintro e u2 ⟨rfl, k2⟩
  have z2 : w.heap.size + 1 < V2.heap.size := (Array.getElem?_eq_some_iff.1 HM2.out).1
  have hm2 := (k2.block (w.heap.size + 1) z2).trans HM2.out
  have hrun2 : (Instr.mapUpdate 50 (.map (some (w.heap.size + 1))) (.string ⟨#[102, 97, 108, 115, 101]⟩) (.agg #[.int .i64 1, .int .i64 0, .string ⟨#[]⟩, .slice none 0 0])).run Tryd.prog u2 = .ok () (putM u2 (w.heap.size + 1) (.map (wents 3).toArray 3)) := run_word (n := 2) (by decide) hm2
  obtain ⟨V3, hV3⟩ : ∃ z, z = putM u2 (w.heap.size + 1) (.map (wents 3).toArray 3) := ⟨_, rfl⟩
  rw [← hV3] at hrun2
  have hb3 : Below w.heap.size w V3 := by
    rw [hV3]
    exact (below2 HB2.out k2).trans (putM_bel _ _ _ _ (by omega))
  have hx3 : V3.heap[w.heap.size]? = some (.cells #[.int .i64 0, .int .i64 0, .string ⟨#[]⟩, .slice none 0 0] 24 (0, 0)) := by
    rw [hV3, putM_other _ _ _ _ (by omega)]
    exact (k2.block w.heap.size (by omega)).trans HX2.out
  have hm3 : V3.heap[w.heap.size + 1]? = some (.map (wents 3).toArray 3) := by
    rw [hV3]
    exact putM_here ((Array.getElem?_eq_some_iff.1 hm2).1) _
  obtain ⟨hrg, hr0⟩ := run_range3 hm3
  have z3 : w.heap.size + 1 < V3.heap.size := (Array.getElem?_eq_some_iff.1 hm3).1
  have hb4 : Below w.heap.size w (V3.alloc (.mapIter (some (w.heap.size + 1)) 3 #[] 3)) := hb3.alloc (by omega) _
  have hx4 : (V3.alloc (.mapIter (some (w.heap.size + 1)) 3 #[] 3)).heap[w.heap.size]? = some (.cells #[.int .i64 0, .int .i64 0, .string ⟨#[]⟩, .slice none 0 0] 24 (0, 0)) := (Below.heap_alloc _ _ _ (by omega)).trans hx3
  obtain ⟨it, hit⟩ : ∃ it, it = V3.heap.size := ⟨_, rfl⟩
  obtain ⟨V4, hV4⟩ : ∃ z, z = V3.alloc (.mapIter (some (w.heap.size + 1)) 3 #[] 3) := ⟨_, rfl⟩
  rw [← hV4] at hrg hr0 hb4 hx4
  rw [← hit] at hrg hr0
  have hitz : w.heap.size + 1 < it := by omega
  have HB4 := toHid hb4
  have HX4 := toHid hx4
  have HR4 := toHid hr0
  clear hm2 hV3 k2 hrun1 HB2 HX2 HM2 z2 hb3 hx3 hm3 z3 hb4 hx4 hr0 hV4 hit
  go_wp2_with fail
  clear hrun2 hrg
  go_loopg [10, 11] 3 (fun g s10 s11 wr => ∃ seen : Array Nat, left3 seen ≤ g ∧ (∀ i ∈ seen, i < 3 ∧ begins text p (wkey i) = false) ∧ Rg3 wr (w.heap.size + 1) it seen ∧ wr.heap[w.heap.size]? = some (.cells #[.int .i64 0, .int .i64 0, .string ⟨#[]⟩, .slice none 0 0] 24 (0, 0)) ∧ Below w.heap.size w wr)
  case atStart => exact ⟨#[], by simp [left3], (fun i hi => by simp at hi), HR4.out, HX4.out, HB4.out⟩
  case round =>
    clear HR4 HX4 HB4
    obtain ⟨seen, hg, hno, hrg, hbx, hbw⟩ := hrel
    have HNO := toHid hno
    have HRG := toHid hrg
    have HBX := toHid hbx
    have HBW := toHid hbw
    have hlts := hrg.lt
    clear hno hrg hbx hbw
    rcases run_next3 HRG.out with ⟨hnx, hall⟩ | ⟨i, w1, hi3, hns, hnx, hrg1, hoth, hsz1, hbe1, hen⟩
    · exfalso
      obtain ⟨i, hi, hb⟩ := HSOME.out
      have := (HNO.out i (hall i hi)).2
      rw [this] at hb
      cases hb
    ·
      unfold wval at hnx hen
      obtain ⟨ki, hki⟩ : ∃ z, z = wkind i := ⟨_, rfl⟩
      obtain ⟨ni, hni⟩ : ∃ z, z = wnum i := ⟨_, rfl⟩
      obtain ⟨ky, hky⟩ : ∃ z, z = wkey i := ⟨_, rfl⟩
      rw [← hki, ← hni, ← hky] at hnx hen
      have HKI := toHid hki
      have HNI := toHid hni
      have HKY := toHid hky
      have hbit : w.heap.size ≤ it := by omega
      have HB1 := toHid (HBW.out.trans (hbe1 w.heap.size hbit))
      have hbx1 := (hoth w.heap.size (by omega)).trans HBX.out
      have HRG1 := toHid hrg1
      have HFR : Hid (∀ o : Obj, Rg3 (w1.alloc o) (w.heap.size + 1) it (seen.push i)) := fun o => hrg1.keep (Below.heap_alloc _ _ _ (by have := hrg1.lt; omega)) (Below.heap_alloc _ _ _ (by have := hrg1.lt; omega))
      have HBX1 := toHid hbx1
      have hw1l : w.heap.size < w1.heap.size := (Array.getElem?_eq_some_iff.1 hbx1).1
      clear hki hni hky hrg1 hoth hbe1 hbx1
      by_cases hbi : begins text p (wkey i) = true
      · have HBI := toHid hbi
        have HHP : Hid (∀ W : World, Calls Tryd.prog 23 #[.string (text.extract p text.size), .string ky] W fun e w' => e = .returned (.bool true) ∧ w' = W) := fun W => by
          have h9 := Tryd.strings_HasPrefix (text.extract p text.size) ky W
          have h8 : Lib.hasPrefix (text.extract p text.size).data.toList ky.data.toList = true := by rw [HKY.out]; exact HBI.out
          rw [h8] at h9
          exact h9
        have HFT := toHid (HFIT.out i hi3 hbi)
        have hkz : ky.size ≤ 5 := by
          rw [HKY.out]
          match i, hi3 with
          | 0, _ => decide
          | 1, _ => decide
          | 2, _ => decide
        clear hbi
        go_wp2_with fail
        refine (HHP.out _).mono ?_
        rintro e u5 ⟨rfl, rfl⟩
        have hx5 := (Below.heap_alloc w1 (.cells #[.int .i64 ki, .int .i64 ni, .string ⟨#[]⟩, .slice none 0 0] 24) _ hw1l).trans HBX1.out
        have hy5 := alloc_new w1 (.cells #[.int .i64 ki, .int .i64 ni, .string ⟨#[]⟩, .slice none 0 0] 24)
        have hb5 := HB1.out.alloc (by omega) (.cells #[.int .i64 ki, .int .i64 ni, .string ⟨#[]⟩, .slice none 0 0] 24)
        rw [hsz1] at hy5
        generalize w1.alloc (.cells #[.int .i64 ki, .int .i64 ni, .string ⟨#[]⟩, .slice none 0 0] 24) = U at hx5 hy5 hb5 ⊢
        have hul : wr.heap.size < U.heap.size := (Array.getElem?_eq_some_iff.1 hy5).1
        have hne : wr.heap.size ≠ w.heap.size := by omega
        have a0 := cell_of hy5 0
        have a1 := cell_of hy5 1
        have a2 := cell_of hy5 2
        have a3 := cell_of hy5 3
        have x0 := cell_of hx5 0
        have x1 := cell_of hx5 1
        have x2 := cell_of hx5 2
        have x3 := cell_of hx5 3
        have y0 := free_of hx5 0
        have y1 := free_of hx5 1
        have y2 := free_of hx5 2
        have y3 := free_of hx5 3
        simp at a0 a1 a2 a3 x0 x1 x2 x3
        have z := put4_here hx5 (.int .i64 ki) (.int .i64 ni) (.string ⟨#[]⟩) (.slice none 0 0)
        have HZB := toHid (hb5.trans (put4_below U w.heap.size (.int .i64 ki) (.int .i64 ni) (.string ⟨#[]⟩) (.slice none 0 0)))
        have HZ := toHid z
        clear hx5 hy5 hb5 z
        go_wp2_with fail
        have eP : (((U.setCell ⟨w.heap.size, 0, none⟩ (.int .i64 ki)).setCell ⟨w.heap.size, 1, none⟩ (.int .i64 ni)).setCell ⟨w.heap.size, 2, none⟩ (.string ⟨#[]⟩)).setCell ⟨w.heap.size, 3, none⟩ (.slice none 0 0) = put4 U w.heap.size (.int .i64 ki) (.int .i64 ni) (.string ⟨#[]⟩) (.slice none 0 0) := rfl
        rw [eP]
        clear eP
        generalize put4 U w.heap.size (.int .i64 ki) (.int .i64 ni) (.string ⟨#[]⟩) (.slice none 0 0) = Z at HZB HZ ⊢
        have t0 := cell_of HZ.out 0
        have t1 := cell_of HZ.out 1
        have t2 := cell_of HZ.out 2
        have t3 := cell_of HZ.out 3
        simp at t0 t1 t2 t3
        refine bodyPost_ret (v := .tuple #[.agg #[.int .i64 ki, .int .i64 ni, .string ⟨#[]⟩, .slice none 0 0], .int .i64 ((p : Int) + (ky.size : Int)), .int .i64 (-1)]) (by simp [results, Tryd.results15, go_sem, t0, t1, t2, t3]) rfl ⟨?_, HZB.out⟩
        rw [HFT.out]
        refine ⟨⟨ki, ni, ⟨#[]⟩, [], none, 0, 0⟩, ?_, ?_, ⟨Nat.zero_le _, Nat.le_refl _, by unfold LieA; rfl⟩⟩
        · show T.node ki ni _ _ = _
          rw [HKI.out, HNI.out]
        · rw [HKY.out, Int.natCast_add]
      · have hbi2 : begins text p (wkey i) = false := by simpa using hbi
        have HBI := toHid hbi2
        clear hbi hbi2
        have HHP : Hid (∀ W : World, Calls Tryd.prog 23 #[.string (text.extract p text.size), .string ky] W fun e w' => e = .returned (.bool false) ∧ w' = W) := fun W => by
          have h9 := Tryd.strings_HasPrefix (text.extract p text.size) ky W
          have h8 : Lib.hasPrefix (text.extract p text.size).data.toList ky.data.toList = false := by rw [HKY.out]; exact HBI.out
          rw [h8] at h9
          exact h9
        go_wp2_with fail
        refine (HHP.out _).mono ?_
        rintro e u5 ⟨rfl, rfl⟩
        have HB5 := toHid (HB1.out.alloc (by omega) (.cells #[.int .i64 ki, .int .i64 ni, .string ⟨#[]⟩, .slice none 0 0] 24))
        have HX5 := toHid ((Below.heap_alloc w1 (.cells #[.int .i64 ki, .int .i64 ni, .string ⟨#[]⟩, .slice none 0 0] 24) _ hw1l).trans HBX1.out)
        go_wp2_with fail
        go_roundg (left3 (seen.push i))
        case measure =>
          have := left3_push hi3 hns
          omega
        case rel => exact ⟨seen.push i, Nat.le_refl _, (fun j hj => by
          rcases Array.mem_push.1 hj with hj | rfl
          · exact HNO.out j hj
          · exact ⟨hi3, HBI.out⟩), HFR.out _, HX5.out, HB5.out⟩

end Go.Proofs.YtdbodcfodlbgnaaDoor
