/-
  What is proved here: espalierref.readValue at a text, at a bracket too many, at an empty list.
-/
import Derived.Test.YtdbodcfodlbgnaaDoorVpRv1
import Derived.Test.YtdbodcfodlbgnaaDoorVpDig
import Derived.Test.YtdbodcfodlbgnaaDoorBgText1
namespace Go.Proofs.YtdbodcfodlbgnaaDoor
open Go.RowKit
set_option linter.unusedVariables false

set_option maxHeartbeats 8000000 in
set_option maxRecDepth 100000 in
theorem rv_text (B p : Nat) (deep : Int) (text : ByteArray) (w : World) (hp : p ≤ text.size) (ht : text.size ≤ 4000) (hB : B ≤ w.heap.size) (hT : Tabs B w) (hnw : ∀ i, i < 3 → begins text p (wkey i) = false) (hp39 : begins text p ⟨#[39]⟩ = true) (S : ByteArray) (Q Bd : Int) (hrt : ∀ W, Below w.heap.size w W → Calls Tryd.prog 24 #[.string text, .int .i64 ((p : Int) + 1)] W fun e w' => e = .returned (.tuple #[.string S, .int .i64 Q, .int .i64 Bd]) ∧ Below W.heap.size W w') :
    Calls Tryd.prog 15 #[.string text, .int .i64 p, .int .i64 deep] w fun e w' => e = .returned (.tuple #[.agg #[.int .i64 3, .int .i64 0, .string S, .slice none 0 0], .int .i64 Q, .int .i64 Bd]) ∧ Below w.heap.size w w' := by
  have HNW := toHid hnw
  have HP39 : Hid (∀ W : World, Calls Tryd.prog 23 #[.string (text.extract p text.size), .string ⟨#[39]⟩] W fun e w' => e = .returned (.bool true) ∧ w' = W) := fun W => by
    have h9 := Tryd.strings_HasPrefix (text.extract p text.size) ⟨#[39]⟩ W
    have h8 : Lib.hasPrefix (text.extract p text.size).data.toList (⟨#[39]⟩ : ByteArray).data.toList = true := hp39
    rw [h8] at h9
    exact h9
  have HRT := toHid hrt
  clear hnw hp39 hrt hT
  have hmk : ∀ X : World, (Instr.makeMap 50 none).run Tryd.prog X = .ok (.map (some X.heap.size)) (X.alloc (.map #[] 0)) := fun X => rfl
  have hz0 : (w.alloc (.cells #[.int .i64 0, .int .i64 0, .string ⟨#[]⟩, .slice none 0 0] 24)).heap.size = w.heap.size + 1 := by simp
  have hbx0 : ((w.alloc (.cells #[.int .i64 0, .int .i64 0, .string ⟨#[]⟩, .slice none 0 0] 24)).alloc (.map #[] 0)).heap[w.heap.size]? = some (.cells #[.int .i64 0, .int .i64 0, .string ⟨#[]⟩, .slice none 0 0] 24 (0, 0)) := (Below.heap_alloc _ _ _ (by simp)).trans (alloc_new _ _)
  have hmp0 : ((w.alloc (.cells #[.int .i64 0, .int .i64 0, .string ⟨#[]⟩, .slice none 0 0] 24)).alloc (.map #[] 0)).heap[w.heap.size + 1]? = some (.map (wents 0).toArray 0) := by
    have := alloc_new (w.alloc (.cells #[.int .i64 0, .int .i64 0, .string ⟨#[]⟩, .slice none 0 0] 24)) (.map #[] 0)
    rw [hz0] at this
    exact this
  have hb0 : Below w.heap.size w ((w.alloc (.cells #[.int .i64 0, .int .i64 0, .string ⟨#[]⟩, .slice none 0 0] 24)).alloc (.map #[] 0)) := ((Below.refl _ _).alloc (Nat.le_refl _) _).alloc (by simp) _
  have hrun0 : (Instr.mapUpdate 50 (.map (some (w.heap.size + 1))) (.string ⟨#[110, 117, 108, 108]⟩) (.agg #[.int .i64 0, .int .i64 0, .string ⟨#[]⟩, .slice none 0 0])).run Tryd.prog ((w.alloc (.cells #[.int .i64 0, .int .i64 0, .string ⟨#[]⟩, .slice none 0 0] 24)).alloc (.map #[] 0)) = .ok () (putM ((w.alloc (.cells #[.int .i64 0, .int .i64 0, .string ⟨#[]⟩, .slice none 0 0] 24)).alloc (.map #[] 0)) (w.heap.size + 1) (.map (wents 1).toArray 1)) := run_word (n := 0) (by decide) hmp0
  obtain ⟨V1, hV1⟩ : ∃ z, z = putM ((w.alloc (.cells #[.int .i64 0, .int .i64 0, .string ⟨#[]⟩, .slice none 0 0] 24)).alloc (.map #[] 0)) (w.heap.size + 1) (.map (wents 1).toArray 1) := ⟨_, rfl⟩
  rw [← hV1] at hrun0
  have HB1 : Hid (Below w.heap.size w V1) := by
    show Below _ _ _
    rw [hV1]
    exact hb0.trans (putM_bel _ _ _ _ (by omega))
  have HX1 : Hid (V1.heap[w.heap.size]? = some (.cells #[.int .i64 0, .int .i64 0, .string ⟨#[]⟩, .slice none 0 0] 24 (0, 0))) := by
    show _ = _
    rw [hV1, putM_other _ _ _ _ (by omega)]
    exact hbx0
  have HM1 : Hid (V1.heap[w.heap.size + 1]? = some (.map (wents 1).toArray 1)) := by
    show _ = _
    rw [hV1]
    exact putM_here ((Array.getElem?_eq_some_iff.1 hmp0).1) _
  clear hbx0 hmp0 hb0 hV1 hz0
  have hpt : (p : Int) ≤ (text.size : Int) := by omega
  go_enter Tryd.func15, Tryd.ntmps15
  go_wp2_with fail
  refine (truthR 1 (by decide) _).mono ?_
  rintro e u1 ⟨rfl, k1⟩
  have z1 : w.heap.size + 1 < V1.heap.size := (Array.getElem?_eq_some_iff.1 HM1.out).1
  have hm1 := (k1.block (w.heap.size + 1) z1).trans HM1.out
  have hrun1 : (Instr.mapUpdate 50 (.map (some (w.heap.size + 1))) (.string ⟨#[116, 114, 117, 101]⟩) (.agg #[.int .i64 1, .int .i64 1, .string ⟨#[]⟩, .slice none 0 0])).run Tryd.prog u1 = .ok () (putM u1 (w.heap.size + 1) (.map (wents 2).toArray 2)) := run_word (n := 1) (by decide) hm1
  obtain ⟨V2, hV2⟩ : ∃ z, z = putM u1 (w.heap.size + 1) (.map (wents 2).toArray 2) := ⟨_, rfl⟩
  rw [← hV2] at hrun1
  have HB2 : Hid (Below w.heap.size w V2) := by
    show Below _ _ _
    rw [hV2]
    exact (below2 HB1.out k1).trans (putM_bel _ _ _ _ (by omega))
  have HX2 : Hid (V2.heap[w.heap.size]? = some (.cells #[.int .i64 0, .int .i64 0, .string ⟨#[]⟩, .slice none 0 0] 24 (0, 0))) := by
    show _ = _
    rw [hV2, putM_other _ _ _ _ (by omega)]
    exact (k1.block w.heap.size (by omega)).trans HX1.out
  have HM2 : Hid (V2.heap[w.heap.size + 1]? = some (.map (wents 2).toArray 2)) := by
    show _ = _
    rw [hV2]
    exact putM_here ((Array.getElem?_eq_some_iff.1 hm1).1) _
  clear hm1 hV2 k1 hrun0 HB1 HX1 HM1 z1
  go_wp2_with fail
  refine (truthR 0 (by decide) _).mono ?_
  rintro e u2 ⟨rfl, k2⟩
  have z2 : w.heap.size + 1 < V2.heap.size := (Array.getElem?_eq_some_iff.1 HM2.out).1
  have hm2 := (k2.block (w.heap.size + 1) z2).trans HM2.out
  have hrun2 : (Instr.mapUpdate 50 (.map (some (w.heap.size + 1))) (.string ⟨#[102, 97, 108, 115, 101]⟩) (.agg #[.int .i64 1, .int .i64 0, .string ⟨#[]⟩, .slice none 0 0])).run Tryd.prog u2 = .ok () (putM u2 (w.heap.size + 1) (.map (wents 3).toArray 3)) := run_word (n := 2) (by decide) hm2
  obtain ⟨V3, hV3⟩ : ∃ z, z = putM u2 (w.heap.size + 1) (.map (wents 3).toArray 3) := ⟨_, rfl⟩
  rw [← hV3] at hrun2
  have hb3 : Below w.heap.size w V3 := by
    rw [hV3]
    exact (below2 HB2.out k2).trans (putM_bel _ _ _ _ (by omega))
  have hx3 : V3.heap[w.heap.size]? = some (.cells #[.int .i64 0, .int .i64 0, .string ⟨#[]⟩, .slice none 0 0] 24 (0, 0)) := by
    rw [hV3, putM_other _ _ _ _ (by omega)]
    exact (k2.block w.heap.size (by omega)).trans HX2.out
  have hm3 : V3.heap[w.heap.size + 1]? = some (.map (wents 3).toArray 3) := by
    rw [hV3]
    exact putM_here ((Array.getElem?_eq_some_iff.1 hm2).1) _
  obtain ⟨hrg, hr0⟩ := run_range3 hm3
  have z3 : w.heap.size + 1 < V3.heap.size := (Array.getElem?_eq_some_iff.1 hm3).1
  have hb4 : Below w.heap.size w (V3.alloc (.mapIter (some (w.heap.size + 1)) 3 #[] 3)) := hb3.alloc (by omega) _
  have hx4 : (V3.alloc (.mapIter (some (w.heap.size + 1)) 3 #[] 3)).heap[w.heap.size]? = some (.cells #[.int .i64 0, .int .i64 0, .string ⟨#[]⟩, .slice none 0 0] 24 (0, 0)) := (Below.heap_alloc _ _ _ (by omega)).trans hx3
  obtain ⟨it, hit⟩ : ∃ it, it = V3.heap.size := ⟨_, rfl⟩
  obtain ⟨V4, hV4⟩ : ∃ z, z = V3.alloc (.mapIter (some (w.heap.size + 1)) 3 #[] 3) := ⟨_, rfl⟩
  rw [← hV4] at hrg hr0 hb4 hx4
  rw [← hit] at hrg hr0
  have hitz : w.heap.size + 1 < it := by omega
  have HB4 := toHid hb4
  have HX4 := toHid hx4
  have HR4 := toHid hr0
  clear hm2 hV3 k2 hrun1 HB2 HX2 HM2 z2 hb3 hx3 hm3 z3 hb4 hx4 hr0 hV4 hit
  go_wp2_with fail
  clear hrun2 hrg
  go_loopg [10, 11] 3 (fun g s10 s11 wr => ∃ seen : Array Nat, left3 seen ≤ g ∧ (∀ i ∈ seen, i < 3 ∧ begins text p (wkey i) = false) ∧ Rg3 wr (w.heap.size + 1) it seen ∧ wr.heap[w.heap.size]? = some (.cells #[.int .i64 0, .int .i64 0, .string ⟨#[]⟩, .slice none 0 0] 24 (0, 0)) ∧ Below w.heap.size w wr)
  case atStart => exact ⟨#[], by simp [left3], (fun i hi => by simp at hi), HR4.out, HX4.out, HB4.out⟩
  case round =>
    clear HR4 HX4 HB4
    obtain ⟨seen, hg, hno, hrg, hbx, hbw⟩ := hrel
    have HNO := toHid hno
    have HRG := toHid hrg
    have HBX := toHid hbx
    have HBW := toHid hbw
    have hlts := hrg.lt
    clear hno hrg hbx hbw
    rcases run_next3 HRG.out with ⟨hnx, hall⟩ | ⟨i, w1, hi3, hns, hnx, hrg1, hoth, hsz1, hbe1, hen⟩
    · go_wp2_with fail
      refine (HP39.out _).mono ?_
      rintro e u1 ⟨rfl, rfl⟩
      go_wp2_with fail
      refine (HRT.out _ HBW.out).mono ?_
      rintro e u2 ⟨rfl, k2⟩
      have hbx2 := (k2.block w.heap.size (by omega)).trans HBX.out
      have hu2 : w.heap.size < u2.heap.size := (Array.getElem?_eq_some_iff.1 hbx2).1
      have hb2 := below2 HBW.out k2
      have x0 := cell_of hbx2 0
      have x1 := cell_of hbx2 1
      have x2 := cell_of hbx2 2
      have x3 := cell_of hbx2 3
      have y0 := free_of hbx2 0
      have y1 := free_of hbx2 1
      have y2 := free_of hbx2 2
      have y3 := free_of hbx2 3
      simp at x0 x1 x2 x3
      have zq := put4_here hbx2 (.int .i64 3) (.int .i64 0) (.string S) (.slice none 0 0)
      have HZB := toHid (hb2.trans (put4_below u2 w.heap.size (.int .i64 3) (.int .i64 0) (.string S) (.slice none 0 0)))
      have HZ := toHid zq
      clear zq
      go_wp2_with fail
      have eP : ((((u2.setCell ⟨w.heap.size, 0, none⟩ (.int .i64 3)).setCell ⟨w.heap.size, 1, none⟩ (.int .i64 0)).setCell ⟨w.heap.size, 2, none⟩ (.string S)).setCell ⟨w.heap.size, 3, none⟩ (.slice none 0 0)) = put4 u2 w.heap.size (.int .i64 3) (.int .i64 0) (.string S) (.slice none 0 0) := rfl
      rw [eP]
      clear eP
      generalize put4 u2 w.heap.size (.int .i64 3) (.int .i64 0) (.string S) (.slice none 0 0) = Z at HZB HZ ⊢
      have t0 := cell_of HZ.out 0
      have t1 := cell_of HZ.out 1
      have t2 := cell_of HZ.out 2
      have t3 := cell_of HZ.out 3
      simp at t0 t1 t2 t3
      exact bodyPost_ret (v := .tuple #[.agg #[.int .i64 3, .int .i64 0, .string S, .slice none 0 0], .int .i64 Q, .int .i64 Bd]) (by simp [results, Tryd.results15, go_sem, t0, t1, t2, t3]) rfl ⟨rfl, HZB.out⟩
    ·
      unfold wval at hnx hen
      obtain ⟨ki, hki⟩ : ∃ z, z = wkind i := ⟨_, rfl⟩
      obtain ⟨ni, hni⟩ : ∃ z, z = wnum i := ⟨_, rfl⟩
      obtain ⟨ky, hky⟩ : ∃ z, z = wkey i := ⟨_, rfl⟩
      rw [← hki, ← hni, ← hky] at hnx hen
      have HKI := toHid hki
      have HNI := toHid hni
      have HKY := toHid hky
      have hbit : w.heap.size ≤ it := by omega
      have HB1 := toHid (HBW.out.trans (hbe1 w.heap.size hbit))
      have hbx1 := (hoth w.heap.size (by omega)).trans HBX.out
      have HRG1 := toHid hrg1
      have HFR : Hid (∀ o : Obj, Rg3 (w1.alloc o) (w.heap.size + 1) it (seen.push i)) := fun o => hrg1.keep (Below.heap_alloc _ _ _ (by have := hrg1.lt; omega)) (Below.heap_alloc _ _ _ (by have := hrg1.lt; omega))
      have HBX1 := toHid hbx1
      have hw1l : w.heap.size < w1.heap.size := (Array.getElem?_eq_some_iff.1 hbx1).1
      clear hki hni hky hrg1 hoth hbe1 hbx1
      have HBI : Hid (begins text p (wkey i) = false) := HNW.out i hi3
      have HHP : Hid (∀ W : World, Calls Tryd.prog 23 #[.string (text.extract p text.size), .string ky] W fun e w' => e = .returned (.bool false) ∧ w' = W) := fun W => by
        have h9 := Tryd.strings_HasPrefix (text.extract p text.size) ky W
        have h8 : Lib.hasPrefix (text.extract p text.size).data.toList ky.data.toList = false := by rw [HKY.out]; exact HBI.out
        rw [h8] at h9
        exact h9
      go_wp2_with fail
      refine (HHP.out _).mono ?_
      rintro e u5 ⟨rfl, rfl⟩
      have HB5 := toHid (HB1.out.alloc (by omega) (.cells #[.int .i64 ki, .int .i64 ni, .string ⟨#[]⟩, .slice none 0 0] 24))
      have HX5 := toHid ((Below.heap_alloc w1 (.cells #[.int .i64 ki, .int .i64 ni, .string ⟨#[]⟩, .slice none 0 0] 24) _ hw1l).trans HBX1.out)
      go_wp2_with fail
      go_roundg (left3 (seen.push i))
      case measure =>
        have := left3_push hi3 hns
        omega
      case rel => exact ⟨seen.push i, Nat.le_refl _, (fun j hj => by
        rcases Array.mem_push.1 hj with hj | rfl
        · exact HNO.out j hj
        · exact ⟨hi3, HBI.out⟩), HFR.out _, HX5.out, HB5.out⟩

set_option maxHeartbeats 8000000 in
set_option maxRecDepth 100000 in
theorem rv_deep (B p : Nat) (deep : Int) (text : ByteArray) (w : World) (hp : p ≤ text.size) (ht : text.size ≤ 4000) (hB : B ≤ w.heap.size) (hT : Tabs B w) (hnw : ∀ i, i < 3 → begins text p (wkey i) = false) (hp39 : begins text p ⟨#[39]⟩ = false) (hp91 : begins text p ⟨#[91]⟩ = true) (hdeep : 40 < deep) :
    Calls Tryd.prog 15 #[.string text, .int .i64 p, .int .i64 deep] w fun e w' => e = .returned (.tuple #[.agg #[.int .i64 0, .int .i64 0, .string ⟨#[]⟩, .slice none 0 0], .int .i64 0, .int .i64 p]) ∧ Below w.heap.size w w' := by
  have HNW := toHid hnw
  have HP39 : Hid (∀ W : World, Calls Tryd.prog 23 #[.string (text.extract p text.size), .string ⟨#[39]⟩] W fun e w' => e = .returned (.bool false) ∧ w' = W) := fun W => by
    have h9 := Tryd.strings_HasPrefix (text.extract p text.size) ⟨#[39]⟩ W
    have h8 : Lib.hasPrefix (text.extract p text.size).data.toList (⟨#[39]⟩ : ByteArray).data.toList = false := hp39
    rw [h8] at h9
    exact h9
  have HP91 : Hid (∀ W : World, Calls Tryd.prog 23 #[.string (text.extract p text.size), .string ⟨#[91]⟩] W fun e w' => e = .returned (.bool true) ∧ w' = W) := fun W => by
    have h9 := Tryd.strings_HasPrefix (text.extract p text.size) ⟨#[91]⟩ W
    have h8 : Lib.hasPrefix (text.extract p text.size).data.toList (⟨#[91]⟩ : ByteArray).data.toList = true := hp91
    rw [h8] at h9
    exact h9
  clear hnw hp39 hp91 hT
  have hmk : ∀ X : World, (Instr.makeMap 50 none).run Tryd.prog X = .ok (.map (some X.heap.size)) (X.alloc (.map #[] 0)) := fun X => rfl
  have hz0 : (w.alloc (.cells #[.int .i64 0, .int .i64 0, .string ⟨#[]⟩, .slice none 0 0] 24)).heap.size = w.heap.size + 1 := by simp
  have hbx0 : ((w.alloc (.cells #[.int .i64 0, .int .i64 0, .string ⟨#[]⟩, .slice none 0 0] 24)).alloc (.map #[] 0)).heap[w.heap.size]? = some (.cells #[.int .i64 0, .int .i64 0, .string ⟨#[]⟩, .slice none 0 0] 24 (0, 0)) := (Below.heap_alloc _ _ _ (by simp)).trans (alloc_new _ _)
  have hmp0 : ((w.alloc (.cells #[.int .i64 0, .int .i64 0, .string ⟨#[]⟩, .slice none 0 0] 24)).alloc (.map #[] 0)).heap[w.heap.size + 1]? = some (.map (wents 0).toArray 0) := by
    have := alloc_new (w.alloc (.cells #[.int .i64 0, .int .i64 0, .string ⟨#[]⟩, .slice none 0 0] 24)) (.map #[] 0)
    rw [hz0] at this
    exact this
  have hb0 : Below w.heap.size w ((w.alloc (.cells #[.int .i64 0, .int .i64 0, .string ⟨#[]⟩, .slice none 0 0] 24)).alloc (.map #[] 0)) := ((Below.refl _ _).alloc (Nat.le_refl _) _).alloc (by simp) _
  have hrun0 : (Instr.mapUpdate 50 (.map (some (w.heap.size + 1))) (.string ⟨#[110, 117, 108, 108]⟩) (.agg #[.int .i64 0, .int .i64 0, .string ⟨#[]⟩, .slice none 0 0])).run Tryd.prog ((w.alloc (.cells #[.int .i64 0, .int .i64 0, .string ⟨#[]⟩, .slice none 0 0] 24)).alloc (.map #[] 0)) = .ok () (putM ((w.alloc (.cells #[.int .i64 0, .int .i64 0, .string ⟨#[]⟩, .slice none 0 0] 24)).alloc (.map #[] 0)) (w.heap.size + 1) (.map (wents 1).toArray 1)) := run_word (n := 0) (by decide) hmp0
  obtain ⟨V1, hV1⟩ : ∃ z, z = putM ((w.alloc (.cells #[.int .i64 0, .int .i64 0, .string ⟨#[]⟩, .slice none 0 0] 24)).alloc (.map #[] 0)) (w.heap.size + 1) (.map (wents 1).toArray 1) := ⟨_, rfl⟩
  rw [← hV1] at hrun0
  have HB1 : Hid (Below w.heap.size w V1) := by
    show Below _ _ _
    rw [hV1]
    exact hb0.trans (putM_bel _ _ _ _ (by omega))
  have HX1 : Hid (V1.heap[w.heap.size]? = some (.cells #[.int .i64 0, .int .i64 0, .string ⟨#[]⟩, .slice none 0 0] 24 (0, 0))) := by
    show _ = _
    rw [hV1, putM_other _ _ _ _ (by omega)]
    exact hbx0
  have HM1 : Hid (V1.heap[w.heap.size + 1]? = some (.map (wents 1).toArray 1)) := by
    show _ = _
    rw [hV1]
    exact putM_here ((Array.getElem?_eq_some_iff.1 hmp0).1) _
  clear hbx0 hmp0 hb0 hV1 hz0
  have hpt : (p : Int) ≤ (text.size : Int) := by omega
  go_enter Tryd.func15, Tryd.ntmps15
  go_wp2_with fail
  refine (truthR 1 (by decide) _).mono ?_
  rintro e u1 ⟨rfl, k1⟩
  have z1 : w.heap.size + 1 < V1.heap.size := (Array.getElem?_eq_some_iff.1 HM1.out).1
  have hm1 := (k1.block (w.heap.size + 1) z1).trans HM1.out
  have hrun1 : (Instr.mapUpdate 50 (.map (some (w.heap.size + 1))) (.string ⟨#[116, 114, 117, 101]⟩) (.agg #[.int .i64 1, .int .i64 1, .string ⟨#[]⟩, .slice none 0 0])).run Tryd.prog u1 = .ok () (putM u1 (w.heap.size + 1) (.map (wents 2).toArray 2)) := run_word (n := 1) (by decide) hm1
  obtain ⟨V2, hV2⟩ : ∃ z, z = putM u1 (w.heap.size + 1) (.map (wents 2).toArray 2) := ⟨_, rfl⟩
  rw [← hV2] at hrun1
  have HB2 : Hid (Below w.heap.size w V2) := by
    show Below _ _ _
    rw [hV2]
    exact (below2 HB1.out k1).trans (putM_bel _ _ _ _ (by omega))
  have HX2 : Hid (V2.heap[w.heap.size]? = some (.cells #[.int .i64 0, .int .i64 0, .string ⟨#[]⟩, .slice none 0 0] 24 (0, 0))) := by
    show _ = _
    rw [hV2, putM_other _ _ _ _ (by omega)]
    exact (k1.block w.heap.size (by omega)).trans HX1.out
  have HM2 : Hid (V2.heap[w.heap.size + 1]? = some (.map (wents 2).toArray 2)) := by
    show _ = _
    rw [hV2]
    exact putM_here ((Array.getElem?_eq_some_iff.1 hm1).1) _
  clear hm1 hV2 k1 hrun0 HB1 HX1 HM1 z1
  go_wp2_with fail
  refine (truthR 0 (by decide) _).mono ?_
  rintro e u2 ⟨rfl, k2⟩
  have z2 : w.heap.size + 1 < V2.heap.size := (Array.getElem?_eq_some_iff.1 HM2.out).1
  have hm2 := (k2.block (w.heap.size + 1) z2).trans HM2.out
  have hrun2 : (Instr.mapUpdate 50 (.map (some (w.heap.size + 1))) (.string ⟨#[102, 97, 108, 115, 101]⟩) (.agg #[.int .i64 1, .int .i64 0, .string ⟨#[]⟩, .slice none 0 0])).run Tryd.prog u2 = .ok () (putM u2 (w.heap.size + 1) (.map (wents 3).toArray 3)) := run_word (n := 2) (by decide) hm2
  obtain ⟨V3, hV3⟩ : ∃ z, z = putM u2 (w.heap.size + 1) (.map (wents 3).toArray 3) := ⟨_, rfl⟩
  rw [← hV3] at hrun2
  have hb3 : Below w.heap.size w V3 := by
    rw [hV3]
    exact (below2 HB2.out k2).trans (putM_bel _ _ _ _ (by omega))
  have hx3 : V3.heap[w.heap.size]? = some (.cells #[.int .i64 0, .int .i64 0, .string ⟨#[]⟩, .slice none 0 0] 24 (0, 0)) := by
    rw [hV3, putM_other _ _ _ _ (by omega)]
    exact (k2.block w.heap.size (by omega)).trans HX2.out
  have hm3 : V3.heap[w.heap.size + 1]? = some (.map (wents 3).toArray 3) := by
    rw [hV3]
    exact putM_here ((Array.getElem?_eq_some_iff.1 hm2).1) _
  obtain ⟨hrg, hr0⟩ := run_range3 hm3
  have z3 : w.heap.size + 1 < V3.heap.size := (Array.getElem?_eq_some_iff.1 hm3).1
  have hb4 : Below w.heap.size w (V3.alloc (.mapIter (some (w.heap.size + 1)) 3 #[] 3)) := hb3.alloc (by omega) _
  have hx4 : (V3.alloc (.mapIter (some (w.heap.size + 1)) 3 #[] 3)).heap[w.heap.size]? = some (.cells #[.int .i64 0, .int .i64 0, .string ⟨#[]⟩, .slice none 0 0] 24 (0, 0)) := (Below.heap_alloc _ _ _ (by omega)).trans hx3
  obtain ⟨it, hit⟩ : ∃ it, it = V3.heap.size := ⟨_, rfl⟩
  obtain ⟨V4, hV4⟩ : ∃ z, z = V3.alloc (.mapIter (some (w.heap.size + 1)) 3 #[] 3) := ⟨_, rfl⟩
  rw [← hV4] at hrg hr0 hb4 hx4
  rw [← hit] at hrg hr0
  have hitz : w.heap.size + 1 < it := by omega
  have HB4 := toHid hb4
  have HX4 := toHid hx4
  have HR4 := toHid hr0
  clear hm2 hV3 k2 hrun1 HB2 HX2 HM2 z2 hb3 hx3 hm3 z3 hb4 hx4 hr0 hV4 hit
  go_wp2_with fail
  clear hrun2 hrg
  go_loopg [10, 11] 3 (fun g s10 s11 wr => ∃ seen : Array Nat, left3 seen ≤ g ∧ (∀ i ∈ seen, i < 3 ∧ begins text p (wkey i) = false) ∧ Rg3 wr (w.heap.size + 1) it seen ∧ wr.heap[w.heap.size]? = some (.cells #[.int .i64 0, .int .i64 0, .string ⟨#[]⟩, .slice none 0 0] 24 (0, 0)) ∧ Below w.heap.size w wr)
  case atStart => exact ⟨#[], by simp [left3], (fun i hi => by simp at hi), HR4.out, HX4.out, HB4.out⟩
  case round =>
    clear HR4 HX4 HB4
    obtain ⟨seen, hg, hno, hrg, hbx, hbw⟩ := hrel
    have HNO := toHid hno
    have HRG := toHid hrg
    have HBX := toHid hbx
    have HBW := toHid hbw
    have hlts := hrg.lt
    clear hno hrg hbx hbw
    rcases run_next3 HRG.out with ⟨hnx, hall⟩ | ⟨i, w1, hi3, hns, hnx, hrg1, hoth, hsz1, hbe1, hen⟩
    · go_wp2_with fail
      refine (HP39.out _).mono ?_
      rintro e u1 ⟨rfl, rfl⟩
      go_wp2_with fail
      refine (HP91.out _).mono ?_
      rintro e u2 ⟨rfl, rfl⟩
      have hbx2 := HBX.out
      have hb2 := HBW.out
      have x0 := cell_of hbx2 0
      have x1 := cell_of hbx2 1
      have x2 := cell_of hbx2 2
      have x3 := cell_of hbx2 3
      have y0 := free_of hbx2 0
      have y1 := free_of hbx2 1
      have y2 := free_of hbx2 2
      have y3 := free_of hbx2 3
      simp at x0 x1 x2 x3
      have zq := put4_here hbx2 (.int .i64 0) (.int .i64 0) (.string ⟨#[]⟩) (.slice none 0 0)
      have HZB := toHid (hb2.trans (put4_below u2 w.heap.size (.int .i64 0) (.int .i64 0) (.string ⟨#[]⟩) (.slice none 0 0)))
      have HZ := toHid zq
      clear zq
      go_wp2_with fail
      have eP : ((((u2.setCell ⟨w.heap.size, 0, none⟩ (.int .i64 0)).setCell ⟨w.heap.size, 1, none⟩ (.int .i64 0)).setCell ⟨w.heap.size, 2, none⟩ (.string ⟨#[]⟩)).setCell ⟨w.heap.size, 3, none⟩ (.slice none 0 0)) = put4 u2 w.heap.size (.int .i64 0) (.int .i64 0) (.string ⟨#[]⟩) (.slice none 0 0) := rfl
      rw [eP]
      clear eP
      generalize put4 u2 w.heap.size (.int .i64 0) (.int .i64 0) (.string ⟨#[]⟩) (.slice none 0 0) = Z at HZB HZ ⊢
      have t0 := cell_of HZ.out 0
      have t1 := cell_of HZ.out 1
      have t2 := cell_of HZ.out 2
      have t3 := cell_of HZ.out 3
      simp at t0 t1 t2 t3
      exact bodyPost_ret (v := .tuple #[.agg #[.int .i64 0, .int .i64 0, .string ⟨#[]⟩, .slice none 0 0], .int .i64 0, .int .i64 (p : Int)]) (by simp [results, Tryd.results15, go_sem, t0, t1, t2, t3]) rfl ⟨rfl, HZB.out⟩
    ·
      unfold wval at hnx hen
      obtain ⟨ki, hki⟩ : ∃ z, z = wkind i := ⟨_, rfl⟩
      obtain ⟨ni, hni⟩ : ∃ z, z = wnum i := ⟨_, rfl⟩
      obtain ⟨ky, hky⟩ : ∃ z, z = wkey i := ⟨_, rfl⟩
      rw [← hki, ← hni, ← hky] at hnx hen
      have HKI := toHid hki
      have HNI := toHid hni
      have HKY := toHid hky
      have hbit : w.heap.size ≤ it := by omega
      have HB1 := toHid (HBW.out.trans (hbe1 w.heap.size hbit))
      have hbx1 := (hoth w.heap.size (by omega)).trans HBX.out
      have HRG1 := toHid hrg1
      have HFR : Hid (∀ o : Obj, Rg3 (w1.alloc o) (w.heap.size + 1) it (seen.push i)) := fun o => hrg1.keep (Below.heap_alloc _ _ _ (by have := hrg1.lt; omega)) (Below.heap_alloc _ _ _ (by have := hrg1.lt; omega))
      have HBX1 := toHid hbx1
      have hw1l : w.heap.size < w1.heap.size := (Array.getElem?_eq_some_iff.1 hbx1).1
      clear hki hni hky hrg1 hoth hbe1 hbx1
      have HBI : Hid (begins text p (wkey i) = false) := HNW.out i hi3
      have HHP : Hid (∀ W : World, Calls Tryd.prog 23 #[.string (text.extract p text.size), .string ky] W fun e w' => e = .returned (.bool false) ∧ w' = W) := fun W => by
        have h9 := Tryd.strings_HasPrefix (text.extract p text.size) ky W
        have h8 : Lib.hasPrefix (text.extract p text.size).data.toList ky.data.toList = false := by rw [HKY.out]; exact HBI.out
        rw [h8] at h9
        exact h9
      go_wp2_with fail
      refine (HHP.out _).mono ?_
      rintro e u5 ⟨rfl, rfl⟩
      have HB5 := toHid (HB1.out.alloc (by omega) (.cells #[.int .i64 ki, .int .i64 ni, .string ⟨#[]⟩, .slice none 0 0] 24))
      have HX5 := toHid ((Below.heap_alloc w1 (.cells #[.int .i64 ki, .int .i64 ni, .string ⟨#[]⟩, .slice none 0 0] 24) _ hw1l).trans HBX1.out)
      go_wp2_with fail
      go_roundg (left3 (seen.push i))
      case measure =>
        have := left3_push hi3 hns
        omega
      case rel => exact ⟨seen.push i, Nat.le_refl _, (fun j hj => by
        rcases Array.mem_push.1 hj with hj | rfl
        · exact HNO.out j hj
        · exact ⟨hi3, HBI.out⟩), HFR.out _, HX5.out, HB5.out⟩

set_option maxHeartbeats 8000000 in
set_option maxRecDepth 100000 in
theorem rv_none (B p : Nat) (deep : Int) (text : ByteArray) (w : World) (hp : p ≤ text.size) (ht : text.size ≤ 4000) (hB : B ≤ w.heap.size) (hT : Tabs B w) (hnw : ∀ i, i < 3 → begins text p (wkey i) = false) (hp39 : begins text p ⟨#[39]⟩ = false) (hp91 : begins text p ⟨#[91]⟩ = true) (hdeep : ¬ 40 < deep) (h1 : p + 1 < text.size) (hc : text[p + 1] = 93) :
    Calls Tryd.prog 15 #[.string text, .int .i64 p, .int .i64 deep] w fun e w' => e = .returned (.tuple #[.agg #[.int .i64 4, .int .i64 0, .string ⟨#[]⟩, .slice none 0 0], .int .i64 ((p : Int) + 2), .int .i64 (-1)]) ∧ Below w.heap.size w w' := by
  have HNW := toHid hnw
  have HP39 : Hid (∀ W : World, Calls Tryd.prog 23 #[.string (text.extract p text.size), .string ⟨#[39]⟩] W fun e w' => e = .returned (.bool false) ∧ w' = W) := fun W => by
    have h9 := Tryd.strings_HasPrefix (text.extract p text.size) ⟨#[39]⟩ W
    have h8 : Lib.hasPrefix (text.extract p text.size).data.toList (⟨#[39]⟩ : ByteArray).data.toList = false := hp39
    rw [h8] at h9
    exact h9
  have HP91 : Hid (∀ W : World, Calls Tryd.prog 23 #[.string (text.extract p text.size), .string ⟨#[91]⟩] W fun e w' => e = .returned (.bool true) ∧ w' = W) := fun W => by
    have h9 := Tryd.strings_HasPrefix (text.extract p text.size) ⟨#[91]⟩ W
    have h8 : Lib.hasPrefix (text.extract p text.size).data.toList (⟨#[91]⟩ : ByteArray).data.toList = true := hp91
    rw [h8] at h9
    exact h9
  have hcb : ((text[p + 1].toNat : Int) == 93) = true := by rw [hc]; decide
  have h1' : (p : Int) + 1 < (text.size : Int) := by omega
  clear hnw hp39 hp91 hT
  have hmk : ∀ X : World, (Instr.makeMap 50 none).run Tryd.prog X = .ok (.map (some X.heap.size)) (X.alloc (.map #[] 0)) := fun X => rfl
  have hz0 : (w.alloc (.cells #[.int .i64 0, .int .i64 0, .string ⟨#[]⟩, .slice none 0 0] 24)).heap.size = w.heap.size + 1 := by simp
  have hbx0 : ((w.alloc (.cells #[.int .i64 0, .int .i64 0, .string ⟨#[]⟩, .slice none 0 0] 24)).alloc (.map #[] 0)).heap[w.heap.size]? = some (.cells #[.int .i64 0, .int .i64 0, .string ⟨#[]⟩, .slice none 0 0] 24 (0, 0)) := (Below.heap_alloc _ _ _ (by simp)).trans (alloc_new _ _)
  have hmp0 : ((w.alloc (.cells #[.int .i64 0, .int .i64 0, .string ⟨#[]⟩, .slice none 0 0] 24)).alloc (.map #[] 0)).heap[w.heap.size + 1]? = some (.map (wents 0).toArray 0) := by
    have := alloc_new (w.alloc (.cells #[.int .i64 0, .int .i64 0, .string ⟨#[]⟩, .slice none 0 0] 24)) (.map #[] 0)
    rw [hz0] at this
    exact this
  have hb0 : Below w.heap.size w ((w.alloc (.cells #[.int .i64 0, .int .i64 0, .string ⟨#[]⟩, .slice none 0 0] 24)).alloc (.map #[] 0)) := ((Below.refl _ _).alloc (Nat.le_refl _) _).alloc (by simp) _
  have hrun0 : (Instr.mapUpdate 50 (.map (some (w.heap.size + 1))) (.string ⟨#[110, 117, 108, 108]⟩) (.agg #[.int .i64 0, .int .i64 0, .string ⟨#[]⟩, .slice none 0 0])).run Tryd.prog ((w.alloc (.cells #[.int .i64 0, .int .i64 0, .string ⟨#[]⟩, .slice none 0 0] 24)).alloc (.map #[] 0)) = .ok () (putM ((w.alloc (.cells #[.int .i64 0, .int .i64 0, .string ⟨#[]⟩, .slice none 0 0] 24)).alloc (.map #[] 0)) (w.heap.size + 1) (.map (wents 1).toArray 1)) := run_word (n := 0) (by decide) hmp0
  obtain ⟨V1, hV1⟩ : ∃ z, z = putM ((w.alloc (.cells #[.int .i64 0, .int .i64 0, .string ⟨#[]⟩, .slice none 0 0] 24)).alloc (.map #[] 0)) (w.heap.size + 1) (.map (wents 1).toArray 1) := ⟨_, rfl⟩
  rw [← hV1] at hrun0
  have HB1 : Hid (Below w.heap.size w V1) := by
    show Below _ _ _
    rw [hV1]
    exact hb0.trans (putM_bel _ _ _ _ (by omega))
  have HX1 : Hid (V1.heap[w.heap.size]? = some (.cells #[.int .i64 0, .int .i64 0, .string ⟨#[]⟩, .slice none 0 0] 24 (0, 0))) := by
    show _ = _
    rw [hV1, putM_other _ _ _ _ (by omega)]
    exact hbx0
  have HM1 : Hid (V1.heap[w.heap.size + 1]? = some (.map (wents 1).toArray 1)) := by
    show _ = _
    rw [hV1]
    exact putM_here ((Array.getElem?_eq_some_iff.1 hmp0).1) _
  clear hbx0 hmp0 hb0 hV1 hz0
  have hpt : (p : Int) ≤ (text.size : Int) := by omega
  go_enter Tryd.func15, Tryd.ntmps15
  go_wp2_with fail
  refine (truthR 1 (by decide) _).mono ?_
  rintro e u1 ⟨rfl, k1⟩
  have z1 : w.heap.size + 1 < V1.heap.size := (Array.getElem?_eq_some_iff.1 HM1.out).1
  have hm1 := (k1.block (w.heap.size + 1) z1).trans HM1.out
  have hrun1 : (Instr.mapUpdate 50 (.map (some (w.heap.size + 1))) (.string ⟨#[116, 114, 117, 101]⟩) (.agg #[.int .i64 1, .int .i64 1, .string ⟨#[]⟩, .slice none 0 0])).run Tryd.prog u1 = .ok () (putM u1 (w.heap.size + 1) (.map (wents 2).toArray 2)) := run_word (n := 1) (by decide) hm1
  obtain ⟨V2, hV2⟩ : ∃ z, z = putM u1 (w.heap.size + 1) (.map (wents 2).toArray 2) := ⟨_, rfl⟩
  rw [← hV2] at hrun1
  have HB2 : Hid (Below w.heap.size w V2) := by
    show Below _ _ _
    rw [hV2]
    exact (below2 HB1.out k1).trans (putM_bel _ _ _ _ (by omega))
  have HX2 : Hid (V2.heap[w.heap.size]? = some (.cells #[.int .i64 0, .int .i64 0, .string ⟨#[]⟩, .slice none 0 0] 24 (0, 0))) := by
    show _ = _
    rw [hV2, putM_other _ _ _ _ (by omega)]
    exact (k1.block w.heap.size (by omega)).trans HX1.out
  have HM2 : Hid (V2.heap[w.heap.size + 1]? = some (.map (wents 2).toArray 2)) := by
    show _ = _
    rw [hV2]
    exact putM_here ((Array.getElem?_eq_some_iff.1 hm1).1) _
  clear hm1 hV2 k1 hrun0 HB1 HX1 HM1 z1
  go_wp2_with fail
  refine (truthR 0 (by decide) _).mono ?_
  rintro e u2 ⟨rfl, k2⟩
  have z2 : w.heap.size + 1 < V2.heap.size := (Array.getElem?_eq_some_iff.1 HM2.out).1
  have hm2 := (k2.block (w.heap.size + 1) z2).trans HM2.out
  have hrun2 : (Instr.mapUpdate 50 (.map (some (w.heap.size + 1))) (.string ⟨#[102, 97, 108, 115, 101]⟩) (.agg #[.int .i64 1, .int .i64 0, .string ⟨#[]⟩, .slice none 0 0])).run Tryd.prog u2 = .ok () (putM u2 (w.heap.size + 1) (.map (wents 3).toArray 3)) := run_word (n := 2) (by decide) hm2
  obtain ⟨V3, hV3⟩ : ∃ z, z = putM u2 (w.heap.size + 1) (.map (wents 3).toArray 3) := ⟨_, rfl⟩
  rw [← hV3] at hrun2
  have hb3 : Below w.heap.size w V3 := by
    rw [hV3]
    exact (below2 HB2.out k2).trans (putM_bel _ _ _ _ (by omega))
  have hx3 : V3.heap[w.heap.size]? = some (.cells #[.int .i64 0, .int .i64 0, .string ⟨#[]⟩, .slice none 0 0] 24 (0, 0)) := by
    rw [hV3, putM_other _ _ _ _ (by omega)]
    exact (k2.block w.heap.size (by omega)).trans HX2.out
  have hm3 : V3.heap[w.heap.size + 1]? = some (.map (wents 3).toArray 3) := by
    rw [hV3]
    exact putM_here ((Array.getElem?_eq_some_iff.1 hm2).1) _
  obtain ⟨hrg, hr0⟩ := run_range3 hm3
  have z3 : w.heap.size + 1 < V3.heap.size := (Array.getElem?_eq_some_iff.1 hm3).1
  have hb4 : Below w.heap.size w (V3.alloc (.mapIter (some (w.heap.size + 1)) 3 #[] 3)) := hb3.alloc (by omega) _
  have hx4 : (V3.alloc (.mapIter (some (w.heap.size + 1)) 3 #[] 3)).heap[w.heap.size]? = some (.cells #[.int .i64 0, .int .i64 0, .string ⟨#[]⟩, .slice none 0 0] 24 (0, 0)) := (Below.heap_alloc _ _ _ (by omega)).trans hx3
  obtain ⟨it, hit⟩ : ∃ it, it = V3.heap.size := ⟨_, rfl⟩
  obtain ⟨V4, hV4⟩ : ∃ z, z = V3.alloc (.mapIter (some (w.heap.size + 1)) 3 #[] 3) := ⟨_, rfl⟩
  rw [← hV4] at hrg hr0 hb4 hx4
  rw [← hit] at hrg hr0
  have hitz : w.heap.size + 1 < it := by omega
  have HB4 := toHid hb4
  have HX4 := toHid hx4
  have HR4 := toHid hr0
  clear hm2 hV3 k2 hrun1 HB2 HX2 HM2 z2 hb3 hx3 hm3 z3 hb4 hx4 hr0 hV4 hit
  go_wp2_with fail
  clear hrun2 hrg
  go_loopg [10, 11] 3 (fun g s10 s11 wr => ∃ seen : Array Nat, left3 seen ≤ g ∧ (∀ i ∈ seen, i < 3 ∧ begins text p (wkey i) = false) ∧ Rg3 wr (w.heap.size + 1) it seen ∧ wr.heap[w.heap.size]? = some (.cells #[.int .i64 0, .int .i64 0, .string ⟨#[]⟩, .slice none 0 0] 24 (0, 0)) ∧ Below w.heap.size w wr)
  case atStart => exact ⟨#[], by simp [left3], (fun i hi => by simp at hi), HR4.out, HX4.out, HB4.out⟩
  case round =>
    clear HR4 HX4 HB4
    obtain ⟨seen, hg, hno, hrg, hbx, hbw⟩ := hrel
    have HNO := toHid hno
    have HRG := toHid hrg
    have HBX := toHid hbx
    have HBW := toHid hbw
    have hlts := hrg.lt
    clear hno hrg hbx hbw
    rcases run_next3 HRG.out with ⟨hnx, hall⟩ | ⟨i, w1, hi3, hns, hnx, hrg1, hoth, hsz1, hbe1, hen⟩
    · go_wp2_with fail
      refine (HP39.out _).mono ?_
      rintro e u1 ⟨rfl, rfl⟩
      go_wp2_with fail
      refine (HP91.out _).mono ?_
      rintro e u2 ⟨rfl, rfl⟩
      have hbx2 := HBX.out
      have hb2 := HBW.out
      have x0 := cell_of hbx2 0
      have x1 := cell_of hbx2 1
      have x2 := cell_of hbx2 2
      have x3 := cell_of hbx2 3
      have y0 := free_of hbx2 0
      have y1 := free_of hbx2 1
      have y2 := free_of hbx2 2
      have y3 := free_of hbx2 3
      simp at x0 x1 x2 x3
      have hbx5 : (u2.setCell ⟨w.heap.size, 0, none⟩ (.int .i64 4)).heap[w.heap.size]? = some (.cells #[.int .i64 4, .int .i64 0, .string ⟨#[]⟩, .slice none 0 0] 24 (0, 0)) := by simp [World.setCell, Array.getElem?_modify, hbx2]
      have hb5 := hb2.setCell (p := ⟨w.heap.size, 0, none⟩) (Nat.le_refl _) (.int .i64 4)
      go_wp2_with fail
      generalize u2.setCell ⟨w.heap.size, 0, none⟩ (.int .i64 4) = V5 at hbx5 hb5 ⊢
      have zq := put4_here hbx5 (.int .i64 4) (.int .i64 0) (.string ⟨#[]⟩) (.slice none 0 0)
      have HZB := toHid (hb5.trans (put4_below V5 w.heap.size (.int .i64 4) (.int .i64 0) (.string ⟨#[]⟩) (.slice none 0 0)))
      have HZ := toHid zq
      clear zq
      skip
      have eP : ((((V5.setCell ⟨w.heap.size, 0, none⟩ (.int .i64 4)).setCell ⟨w.heap.size, 1, none⟩ (.int .i64 0)).setCell ⟨w.heap.size, 2, none⟩ (.string ⟨#[]⟩)).setCell ⟨w.heap.size, 3, none⟩ (.slice none 0 0)) = put4 V5 w.heap.size (.int .i64 4) (.int .i64 0) (.string ⟨#[]⟩) (.slice none 0 0) := rfl
      rw [eP]
      clear eP
      generalize put4 V5 w.heap.size (.int .i64 4) (.int .i64 0) (.string ⟨#[]⟩) (.slice none 0 0) = Z at HZB HZ ⊢
      have t0 := cell_of HZ.out 0
      have t1 := cell_of HZ.out 1
      have t2 := cell_of HZ.out 2
      have t3 := cell_of HZ.out 3
      simp at t0 t1 t2 t3
      exact bodyPost_ret (v := .tuple #[.agg #[.int .i64 4, .int .i64 0, .string ⟨#[]⟩, .slice none 0 0], .int .i64 ((p : Int) + 2), .int .i64 (-1)]) (by simp [results, Tryd.results15, go_sem, t0, t1, t2, t3]; omega) rfl ⟨rfl, HZB.out⟩
    ·
      unfold wval at hnx hen
      obtain ⟨ki, hki⟩ : ∃ z, z = wkind i := ⟨_, rfl⟩
      obtain ⟨ni, hni⟩ : ∃ z, z = wnum i := ⟨_, rfl⟩
      obtain ⟨ky, hky⟩ : ∃ z, z = wkey i := ⟨_, rfl⟩
      rw [← hki, ← hni, ← hky] at hnx hen
      have HKI := toHid hki
      have HNI := toHid hni
      have HKY := toHid hky
      have hbit : w.heap.size ≤ it := by omega
      have HB1 := toHid (HBW.out.trans (hbe1 w.heap.size hbit))
      have hbx1 := (hoth w.heap.size (by omega)).trans HBX.out
      have HRG1 := toHid hrg1
      have HFR : Hid (∀ o : Obj, Rg3 (w1.alloc o) (w.heap.size + 1) it (seen.push i)) := fun o => hrg1.keep (Below.heap_alloc _ _ _ (by have := hrg1.lt; omega)) (Below.heap_alloc _ _ _ (by have := hrg1.lt; omega))
      have HBX1 := toHid hbx1
      have hw1l : w.heap.size < w1.heap.size := (Array.getElem?_eq_some_iff.1 hbx1).1
      clear hki hni hky hrg1 hoth hbe1 hbx1
      have HBI : Hid (begins text p (wkey i) = false) := HNW.out i hi3
      have HHP : Hid (∀ W : World, Calls Tryd.prog 23 #[.string (text.extract p text.size), .string ky] W fun e w' => e = .returned (.bool false) ∧ w' = W) := fun W => by
        have h9 := Tryd.strings_HasPrefix (text.extract p text.size) ky W
        have h8 : Lib.hasPrefix (text.extract p text.size).data.toList ky.data.toList = false := by rw [HKY.out]; exact HBI.out
        rw [h8] at h9
        exact h9
      go_wp2_with fail
      refine (HHP.out _).mono ?_
      rintro e u5 ⟨rfl, rfl⟩
      have HB5 := toHid (HB1.out.alloc (by omega) (.cells #[.int .i64 ki, .int .i64 ni, .string ⟨#[]⟩, .slice none 0 0] 24))
      have HX5 := toHid ((Below.heap_alloc w1 (.cells #[.int .i64 ki, .int .i64 ni, .string ⟨#[]⟩, .slice none 0 0] 24) _ hw1l).trans HBX1.out)
      go_wp2_with fail
      go_roundg (left3 (seen.push i))
      case measure =>
        have := left3_push hi3 hns
        omega
      case rel => exact ⟨seen.push i, Nat.le_refl _, (fun j hj => by
        rcases Array.mem_push.1 hj with hj | rfl
        · exact HNO.out j hj
        · exact ⟨hi3, HBI.out⟩), HFR.out _, HX5.out, HB5.out⟩

end Go.Proofs.YtdbodcfodlbgnaaDoor
