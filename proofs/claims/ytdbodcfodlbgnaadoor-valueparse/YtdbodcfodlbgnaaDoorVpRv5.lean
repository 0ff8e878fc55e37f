/-
  What is proved here: espalierref.readValue at a list that is not empty, given that it reads values.
-/
import Derived.Test.YtdbodcfodlbgnaaDoorVpRv4
import Derived.Test.YtdbodcfodlbgnaaDoorVpDig
import Derived.Test.YtdbodcfodlbgnaaDoorBgText1
namespace Go.Proofs.YtdbodcfodlbgnaaDoor
open Go.RowKit
set_option linter.unusedVariables false

set_option maxHeartbeats 8000000 in
set_option maxRecDepth 100000 in
theorem rv_list_end (B p : Nat) (deep : Int) (text : ByteArray) (w : World) (hp : p ≤ text.size) (ht : text.size ≤ 4000) (hB : B ≤ w.heap.size) (hT : Tabs B w) (hnw : ∀ i, i < 3 → begins text p (wkey i) = false) (hp39 : begins text p ⟨#[39]⟩ = false) (hp91 : begins text p ⟨#[91]⟩ = true) (hdeep : ¬ 40 < deep) (hd0 : 0 ≤ deep) (hp1 : p + 1 ≤ text.size) (h1 : text.size ≤ p + 1) (g : Nat → Except Nat (T × Nat)) (hgle : ∀ p t q, p ≤ text.size → g p = .ok (t, q) → p ≤ q ∧ q ≤ text.size) (hgo : ∀ (W : World) (p' : Nat), Below w.heap.size w W → p' ≤ text.size → Calls Tryd.prog 15 #[.string text, .int .i64 p', .int .i64 (deep + 1)] W fun e w' => RvEnd (g p') W w' e ∧ Below W.heap.size W w') :
    Calls Tryd.prog 15 #[.string text, .int .i64 p, .int .i64 deep] w fun e w' => RvEnd (listF g text (text.size + 1) (p + 1) []) w w' e ∧ Below w.heap.size w w' := by
  have HNW := toHid hnw
  have HP39 : Hid (∀ W : World, Calls Tryd.prog 23 #[.string (text.extract p text.size), .string ⟨#[39]⟩] W fun e w' => e = .returned (.bool false) ∧ w' = W) := fun W => by
    have h9 := Tryd.strings_HasPrefix (text.extract p text.size) ⟨#[39]⟩ W
    have h8 : Lib.hasPrefix (text.extract p text.size).data.toList (⟨#[39]⟩ : ByteArray).data.toList = false := hp39
    rw [h8] at h9
    exact h9
  have HP91 : Hid (∀ W : World, Calls Tryd.prog 23 #[.string (text.extract p text.size), .string ⟨#[91]⟩] W fun e w' => e = .returned (.bool true) ∧ w' = W) := fun W => by
    have h9 := Tryd.strings_HasPrefix (text.extract p text.size) ⟨#[91]⟩ W
    have h8 : Lib.hasPrefix (text.extract p text.size).data.toList (⟨#[91]⟩ : ByteArray).data.toList = true := hp91
    rw [h8] at h9
    exact h9
  have HGLE := toHid hgle
  have HGO := toHid hgo
  obtain ⟨o, ho⟩ : ∃ o, o = listF g text (text.size + 1) (p + 1) [] := ⟨_, rfl⟩
  rw [← ho]
  have HO := toHid ho
  obtain ⟨i0, hi0, hiz, his, hib⟩ := info_value
  have HI0 := toHid hi0
  have HIZ := toHid hiz
  have HIS := toHid his
  have HIB := toHid hib
  clear hnw hp39 hp91 hT hgle hgo ho hi0 hiz his hib
  have hmk : ∀ X : World, (Instr.makeMap 50 none).run Tryd.prog X = .ok (.map (some X.heap.size)) (X.alloc (.map #[] 0)) := fun X => rfl
  have hz0 : (w.alloc (.cells #[.int .i64 0, .int .i64 0, .string ⟨#[]⟩, .slice none 0 0] 24)).heap.size = w.heap.size + 1 := by simp
  have hbx0 : ((w.alloc (.cells #[.int .i64 0, .int .i64 0, .string ⟨#[]⟩, .slice none 0 0] 24)).alloc (.map #[] 0)).heap[w.heap.size]? = some (.cells #[.int .i64 0, .int .i64 0, .string ⟨#[]⟩, .slice none 0 0] 24 (0, 0)) := (Below.heap_alloc _ _ _ (by simp)).trans (alloc_new _ _)
  have hmp0 : ((w.alloc (.cells #[.int .i64 0, .int .i64 0, .string ⟨#[]⟩, .slice none 0 0] 24)).alloc (.map #[] 0)).heap[w.heap.size + 1]? = some (.map (wents 0).toArray 0) := by
    have := alloc_new (w.alloc (.cells #[.int .i64 0, .int .i64 0, .string ⟨#[]⟩, .slice none 0 0] 24)) (.map #[] 0)
    rw [hz0] at this
    exact this
  have hb0 : Below w.heap.size w ((w.alloc (.cells #[.int .i64 0, .int .i64 0, .string ⟨#[]⟩, .slice none 0 0] 24)).alloc (.map #[] 0)) := ((Below.refl _ _).alloc (Nat.le_refl _) _).alloc (by simp) _
  have hrun0 : (Instr.mapUpdate 50 (.map (some (w.heap.size + 1))) (.string ⟨#[110, 117, 108, 108]⟩) (.agg #[.int .i64 0, .int .i64 0, .string ⟨#[]⟩, .slice none 0 0])).run Tryd.prog ((w.alloc (.cells #[.int .i64 0, .int .i64 0, .string ⟨#[]⟩, .slice none 0 0] 24)).alloc (.map #[] 0)) = .ok () (putM ((w.alloc (.cells #[.int .i64 0, .int .i64 0, .string ⟨#[]⟩, .slice none 0 0] 24)).alloc (.map #[] 0)) (w.heap.size + 1) (.map (wents 1).toArray 1)) := run_word (n := 0) (by decide) hmp0
  obtain ⟨V1, hV1⟩ : ∃ z, z = putM ((w.alloc (.cells #[.int .i64 0, .int .i64 0, .string ⟨#[]⟩, .slice none 0 0] 24)).alloc (.map #[] 0)) (w.heap.size + 1) (.map (wents 1).toArray 1) := ⟨_, rfl⟩
  rw [← hV1] at hrun0
  have HB1 : Hid (Below w.heap.size w V1) := by
    show Below _ _ _
    rw [hV1]
    exact hb0.trans (putM_bel _ _ _ _ (by omega))
  have HX1 : Hid (V1.heap[w.heap.size]? = some (.cells #[.int .i64 0, .int .i64 0, .string ⟨#[]⟩, .slice none 0 0] 24 (0, 0))) := by
    show _ = _
    rw [hV1, putM_other _ _ _ _ (by omega)]
    exact hbx0
  have HM1 : Hid (V1.heap[w.heap.size + 1]? = some (.map (wents 1).toArray 1)) := by
    show _ = _
    rw [hV1]
    exact putM_here ((Array.getElem?_eq_some_iff.1 hmp0).1) _
  clear hbx0 hmp0 hb0 hV1 hz0
  have hpt : (p : Int) ≤ (text.size : Int) := by omega
  go_enter Tryd.func15, Tryd.ntmps15
  go_wp2_with fail
  refine (truthR 1 (by decide) _).mono ?_
  rintro e u1 ⟨rfl, k1⟩
  have z1 : w.heap.size + 1 < V1.heap.size := (Array.getElem?_eq_some_iff.1 HM1.out).1
  have hm1 := (k1.block (w.heap.size + 1) z1).trans HM1.out
  have hrun1 : (Instr.mapUpdate 50 (.map (some (w.heap.size + 1))) (.string ⟨#[116, 114, 117, 101]⟩) (.agg #[.int .i64 1, .int .i64 1, .string ⟨#[]⟩, .slice none 0 0])).run Tryd.prog u1 = .ok () (putM u1 (w.heap.size + 1) (.map (wents 2).toArray 2)) := run_word (n := 1) (by decide) hm1
  obtain ⟨V2, hV2⟩ : ∃ z, z = putM u1 (w.heap.size + 1) (.map (wents 2).toArray 2) := ⟨_, rfl⟩
  rw [← hV2] at hrun1
  have HB2 : Hid (Below w.heap.size w V2) := by
    show Below _ _ _
    rw [hV2]
    exact (below2 HB1.out k1).trans (putM_bel _ _ _ _ (by omega))
  have HX2 : Hid (V2.heap[w.heap.size]? = some (.cells #[.int .i64 0, .int .i64 0, .string ⟨#[]⟩, .slice none 0 0] 24 (0, 0))) := by
    show _ = _
    rw [hV2, putM_other _ _ _ _ (by omega)]
    exact (k1.block w.heap.size (by omega)).trans HX1.out
  have HM2 : Hid (V2.heap[w.heap.size + 1]? = some (.map (wents 2).toArray 2)) := by
    show _ = _
    rw [hV2]
    exact putM_here ((Array.getElem?_eq_some_iff.1 hm1).1) _
  clear hm1 hV2 k1 hrun0 HB1 HX1 HM1 z1
  go_wp2_with fail
  refine (truthR 0 (by decide) _).mono ?_
  rintro e u2 ⟨rfl, k2⟩
  have z2 : w.heap.size + 1 < V2.heap.size := (Array.getElem?_eq_some_iff.1 HM2.out).1
  have hm2 := (k2.block (w.heap.size + 1) z2).trans HM2.out
  have hrun2 : (Instr.mapUpdate 50 (.map (some (w.heap.size + 1))) (.string ⟨#[102, 97, 108, 115, 101]⟩) (.agg #[.int .i64 1, .int .i64 0, .string ⟨#[]⟩, .slice none 0 0])).run Tryd.prog u2 = .ok () (putM u2 (w.heap.size + 1) (.map (wents 3).toArray 3)) := run_word (n := 2) (by decide) hm2
  obtain ⟨V3, hV3⟩ : ∃ z, z = putM u2 (w.heap.size + 1) (.map (wents 3).toArray 3) := ⟨_, rfl⟩
  rw [← hV3] at hrun2
  have hb3 : Below w.heap.size w V3 := by
    rw [hV3]
    exact (below2 HB2.out k2).trans (putM_bel _ _ _ _ (by omega))
  have hx3 : V3.heap[w.heap.size]? = some (.cells #[.int .i64 0, .int .i64 0, .string ⟨#[]⟩, .slice none 0 0] 24 (0, 0)) := by
    rw [hV3, putM_other _ _ _ _ (by omega)]
    exact (k2.block w.heap.size (by omega)).trans HX2.out
  have hm3 : V3.heap[w.heap.size + 1]? = some (.map (wents 3).toArray 3) := by
    rw [hV3]
    exact putM_here ((Array.getElem?_eq_some_iff.1 hm2).1) _
  obtain ⟨hrg, hr0⟩ := run_range3 hm3
  have z3 : w.heap.size + 1 < V3.heap.size := (Array.getElem?_eq_some_iff.1 hm3).1
  have hb4 : Below w.heap.size w (V3.alloc (.mapIter (some (w.heap.size + 1)) 3 #[] 3)) := hb3.alloc (by omega) _
  have hx4 : (V3.alloc (.mapIter (some (w.heap.size + 1)) 3 #[] 3)).heap[w.heap.size]? = some (.cells #[.int .i64 0, .int .i64 0, .string ⟨#[]⟩, .slice none 0 0] 24 (0, 0)) := (Below.heap_alloc _ _ _ (by omega)).trans hx3
  obtain ⟨it, hit⟩ : ∃ it, it = V3.heap.size := ⟨_, rfl⟩
  obtain ⟨V4, hV4⟩ : ∃ z, z = V3.alloc (.mapIter (some (w.heap.size + 1)) 3 #[] 3) := ⟨_, rfl⟩
  rw [← hV4] at hrg hr0 hb4 hx4
  rw [← hit] at hrg hr0
  have hitz : w.heap.size + 1 < it := by omega
  have HB4 := toHid hb4
  have HX4 := toHid hx4
  have HR4 := toHid hr0
  clear hm2 hV3 k2 hrun1 HB2 HX2 HM2 z2 hb3 hx3 hm3 z3 hb4 hx4 hr0 hV4 hit
  go_wp2_with fail
  clear hrun2 hrg
  go_loopg [10, 11] 3 (fun g s10 s11 wr => ∃ seen : Array Nat, left3 seen ≤ g ∧ (∀ i ∈ seen, i < 3 ∧ begins text p (wkey i) = false) ∧ Rg3 wr (w.heap.size + 1) it seen ∧ wr.heap[w.heap.size]? = some (.cells #[.int .i64 0, .int .i64 0, .string ⟨#[]⟩, .slice none 0 0] 24 (0, 0)) ∧ Below w.heap.size w wr)
  case atStart => exact ⟨#[], by simp [left3], (fun i hi => by simp at hi), HR4.out, HX4.out, HB4.out⟩
  case round =>
    clear HR4 HX4 HB4
    obtain ⟨seen, hg, hno, hrg, hbx, hbw⟩ := hrel
    have HNO := toHid hno
    have HRG := toHid hrg
    have HBX := toHid hbx
    have HBW := toHid hbw
    have hlts := hrg.lt
    clear hno hrg hbx hbw
    rcases run_next3 HRG.out with ⟨hnx, hall⟩ | ⟨i, w1, hi3, hns, hnx, hrg1, hoth, hsz1, hbe1, hen⟩
    · go_wp2_with fail
      refine (HP39.out _).mono ?_
      rintro e u1 ⟨rfl, rfl⟩
      go_wp2_with fail
      refine (HP91.out _).mono ?_
      rintro e u2 ⟨rfl, rfl⟩
      have hbx2 := HBX.out
      have hb2 := HBW.out
      have x0 := cell_of hbx2 0
      have x1 := cell_of hbx2 1
      have x2 := cell_of hbx2 2
      have x3 := cell_of hbx2 3
      have y0 := free_of hbx2 0
      have y1 := free_of hbx2 1
      have y2 := free_of hbx2 2
      have y3 := free_of hbx2 3
      simp at x0 x1 x2 x3
      have hbx5 : (u2.setCell ⟨w.heap.size, 0, none⟩ (.int .i64 4)).heap[w.heap.size]? = some (.cells #[.int .i64 4, .int .i64 0, .string ⟨#[]⟩, .slice none 0 0] 24 (0, 0)) := by simp [World.setCell, Array.getElem?_modify, hbx2]
      have hb5 := hb2.setCell (p := ⟨w.heap.size, 0, none⟩) (Nat.le_refl _) (.int .i64 4)
      clear hbx2 hb2 HBX HBW
      have hc1 : ¬ (p : Int) + 1 < (text.size : Int) := by omega
      go_wp2_with fail
      generalize u2.setCell ⟨w.heap.size, 0, none⟩ (.int .i64 4) = V5 at hbx5 hb5 ⊢
      clear x0 x1 x2 x3 y0 y1 y2 y3
      go_loopg [1, 15, 16, 17] (text.size + 1) (fun gg s1 s15 s16 s17 wx => ∃ (dn : List Got) (p' : Nat) (ov : Value), p' ≤ text.size ∧ text.size - p' < gg ∧ dn.length ≤ p' ∧ s1 = .int .i64 p' ∧ o = listF g text gg p' (dn.map Got.tree) ∧ Below w.heap.size w wx ∧ wx.heap[w.heap.size]? = some (.cells #[.int .i64 4, .int .i64 0, .string ⟨#[]⟩, ov] 24 (0, 0)) ∧ wx.ownsRow (w.heap.size + 1) 24 4 ov dn.length (rowG dn) ∧ (∀ x ∈ dn, x.ok (fun i => w.heap.size + 1 ≤ i ∧ ov.ownBlock ≠ some i) wx))
      case atStart => exact ⟨[], p + 1, .slice none 0 0, hp1, by omega, by simp, by go_num, HO.out, hb5, hbx5, ⟨rfl, .inl ⟨rfl, rfl⟩⟩, fun x hx => by cases hx⟩
      case round =>
        clear hb5 hbx5 HO
        obtain ⟨dn, p', ov, hp', hgg, hdl, rfl, hol, hbw, hbv, hown, hgot⟩ := hrel
        obtain ⟨f, rfl⟩ : ∃ f, gk = f + 1 := ⟨gk - 1, by omega⟩
        have HOL := toHid hol
        have HGOT := toHid hgot
        have HBV := toHid hbv
        have HBW := toHid hbw
        have HOWN := toHid hown
        have hsw := hbw.size
        have hboxl : w.heap.size < wr.heap.size := (Array.getElem?_eq_some_iff.1 hbv).1
        have HC := toHid (HGO.out wr p' hbw hp')
        clear hol hgot hbv hbw hown
        go_upto_region 18 with (go_at_call 15; refine HC.out.mono ?_)
        rintro e u1 ⟨hre, k1⟩
        obtain ⟨oa, ol, oc, hov⟩ := own_slice HOWN.out
        subst hov
        have hk1s := k1.size
        have hbv1 := (k1.block w.heap.size hboxl).trans HBV.out
        have hb1 := below2 HBW.out k1
        have hul : w.heap.size < u1.heap.size := by omega
        cases hgp : g p' with
        | error a =>
          rw [hgp] at hre
          obtain ⟨k, n, s, sa, sl, sc, rfl⟩ := hre
          have HEQ : Hid (o = .error a) := by
            show _ = _
            rw [HOL.out]
            unfold listF
            rw [hgp]
          have hbA : (u1.alloc (.cells #[.int .i64 k, .int .i64 n, .string s, .slice sa sl sc] 24)).heap[w.heap.size]? = some (.cells #[.int .i64 4, .int .i64 0, .string ⟨#[]⟩, .slice oa ol oc] 24 (0, 0)) := (Below.heap_alloc _ _ _ hul).trans hbv1
          have hbB : Below w.heap.size w (u1.alloc (.cells #[.int .i64 k, .int .i64 n, .string s, .slice sa sl sc] 24)) := hb1.alloc (by omega) _
          have ha0 : (0 : Int) ≤ (a : Int) := by omega
          clear hbv1 hgp HOL HC k1 HGOT HBV HBW HOWN hb1
          go_upto_region 18 with fail
          generalize u1.alloc (.cells #[.int .i64 k, .int .i64 n, .string s, .slice sa sl sc] 24) = U at hbA hbB ⊢
          have hUl : w.heap.size < U.heap.size := (Array.getElem?_eq_some_iff.1 hbA).1
          have x0 := cell_of hbA 0
          have x1 := cell_of hbA 1
          have x2 := cell_of hbA 2
          have x3 := cell_of hbA 3
          have y0 := free_of hbA 0
          have y1 := free_of hbA 1
          have y2 := free_of hbA 2
          have y3 := free_of hbA 3
          simp at x0 x1 x2 x3
          have zq := put4_here hbA (.int .i64 4) (.int .i64 0) (.string ⟨#[]⟩) (.slice oa ol oc)
          have HZB := toHid (hbB.trans (put4_below U w.heap.size (.int .i64 4) (.int .i64 0) (.string ⟨#[]⟩) (.slice oa ol oc)))
          have HZ := toHid zq
          clear zq
          go_wp2_with fail
          have eP : ((((U.setCell ⟨w.heap.size, 0, none⟩ (.int .i64 4)).setCell ⟨w.heap.size, 1, none⟩ (.int .i64 0)).setCell ⟨w.heap.size, 2, none⟩ (.string ⟨#[]⟩)).setCell ⟨w.heap.size, 3, none⟩ (.slice oa ol oc)) = put4 U w.heap.size (.int .i64 4) (.int .i64 0) (.string ⟨#[]⟩) (.slice oa ol oc) := rfl
          rw [eP]
          clear eP
          generalize put4 U w.heap.size (.int .i64 4) (.int .i64 0) (.string ⟨#[]⟩) (.slice oa ol oc) = Z at HZB HZ ⊢
          have t0 := cell_of HZ.out 0
          have t1 := cell_of HZ.out 1
          have t2 := cell_of HZ.out 2
          have t3 := cell_of HZ.out 3
          simp at t0 t1 t2 t3
          refine bodyPost_ret (v := .tuple #[.agg #[.int .i64 4, .int .i64 0, .string ⟨#[]⟩, .slice oa ol oc], .int .i64 0, .int .i64 (a : Int)]) (by simp [results, Tryd.results15, go_sem, t0, t1, t2, t3]) rfl ⟨?_, HZB.out⟩
          rw [HEQ.out]
          exact ⟨4, 0, ⟨#[]⟩, oa, ol, oc, rfl⟩
        | ok tq =>
          obtain ⟨t, q⟩ := tq
          rw [hgp] at hre
          obtain ⟨x, hxt, rfl, hxo⟩ := hre
          have hle := HGLE.out p' t q hp' hgp
          have HSTEP : Hid (o = if begins text q ⟨#[93]⟩ = true then .ok (.node 4 0 ⟨#[]⟩ ((dn ++ [x]).map Got.tree), q + 1) else if begins text q ⟨#[44]⟩ = true then listF g text f (q + 1) ((dn ++ [x]).map Got.tree) else .error q) := by
            show _ = _
            rw [HOL.out]
            conv => lhs; unfold listF
            rw [hgp, List.map_append, ← hxt]
            rfl
          have hown2 : u1.ownsRow (w.heap.size + 1) 24 4 (.slice oa ol oc) dn.length (rowG dn) := row_kept HOWN.out (fun k hk hk' => k1.block k hk')
          have hrb : ∀ i, (Value.slice oa ol oc).ownBlock = some i → w.heap.size + 1 ≤ i ∧ i < wr.heap.size := fun i hi => HOWN.out.lt i hi
          have hzU : (u1.alloc (.cells #[.int .i64 x.k, .int .i64 x.n, .string x.s, .slice x.a x.l x.c] 24)).heap.size = u1.heap.size + 1 := by simp
          have HGU : Hid (∀ y ∈ dn ++ [x], y.ok (fun i => w.heap.size + 1 ≤ i ∧ (Value.slice oa ol oc).ownBlock ≠ some i ∧ i < u1.heap.size + 1) (u1.alloc (.cells #[.int .i64 x.k, .int .i64 x.n, .string x.s, .slice x.a x.l x.c] 24))) := fun y hy => by
            rcases List.mem_append.1 hy with hy | hy
            · exact (HGOT.out y hy).kept (by rw [hzU]; omega) (fun i hi hi2 => ⟨⟨hi.1, hi.2, by omega⟩, (Below.heap_alloc _ _ _ (by omega)).trans (k1.block i hi2)⟩)
            · obtain rfl := List.mem_singleton.1 hy
              exact hxo.kept (by rw [hzU]; omega) (fun i hi hi2 => ⟨⟨by omega, fun e => by have := hrb i e; omega, by omega⟩, Below.heap_alloc _ _ _ hi2⟩)
          have hbU : (u1.alloc (.cells #[.int .i64 x.k, .int .i64 x.n, .string x.s, .slice x.a x.l x.c] 24)).heap[w.heap.size]? = some (.cells #[.int .i64 4, .int .i64 0, .string ⟨#[]⟩, .slice oa ol oc] 24 (0, 0)) := (Below.heap_alloc _ _ _ hul).trans hbv1
          have hxU := alloc_new u1 (.cells #[.int .i64 x.k, .int .i64 x.n, .string x.s, .slice x.a x.l x.c] 24)
          have hoU := hown2.alloc (.cells #[.int .i64 x.k, .int .i64 x.n, .string x.s, .slice x.a x.l x.c] 24)
          have hbB : Below w.heap.size w (u1.alloc (.cells #[.int .i64 x.k, .int .i64 x.n, .string x.s, .slice x.a x.l x.c] 24)) := hb1.alloc (by omega) _
          have HRB := toHid hrb
          have HBy : (dn.length + 1) * 56 ≤ 140737488355328 := by omega
          have HBm : dn.length + 1 ≤ maxLen := by unfold maxLen; omega
          clear hbv1 hgp HOL HC k1 HGOT HBV HBW HOWN hb1 hown2 hxo hrb
          go_upto_region 18 with fail
          generalize u1.alloc (.cells #[.int .i64 x.k, .int .i64 x.n, .string x.s, .slice x.a x.l x.c] 24) = U at hbU hbB hxU hoU HGU hzU ⊢
          have hUl : w.heap.size < U.heap.size := by omega
          have hUx : u1.heap.size < U.heap.size := by omega
          have HZU := toHid hzU
          clear hzU
          have c3 := cell_of hbU 3
          have a0 := cell_of hxU 0
          have a1 := cell_of hxU 1
          have a2 := cell_of hxU 2
          have a3 := cell_of hxU 3
          simp at c3 a0 a1 a2 a3
          have HOU := toHid hoU
          have HBU := toHid hbU
          clear hbU hxU hoU
          go_wp2_with (at_builtin; refine wpList_append_lies _ rfl _ _ 22 rfl (w.heap.size + 1) 24 i0 _ 4 56 Tryd.underlying22 HI0.out HIZ.out HIS.out HIB.out rfl (by omega) (.slice oa ol oc) dn.length (rowG dn) rfl (HOU.out.alloc _) ⟨U.heap.size, 0, none⟩ 1 1 x.cells ?a1 ?a2 ?a3 ?a4 ?a5 ?a6 ?a7 ?a8 (U.heap.size + 1) ?a9 ?_)
          case a1 => rfl
          case a2 => rfl
          case a3 => exact World.news_of_block (cs := #[.int .i64 x.k, .int .i64 x.n, .string x.s, .slice x.a x.l x.c]) (t := 24) (fr := (0, 0)) (alloc_new U _)
          case a4 => simp [Got.cells, Value.oneCell']
          case a5 => omega
          case a6 => exact HBm
          case a7 => exact HBy
          case a8 => simp; omega
          case a9 => simp
          intro gg cap w3 hown3 hgrow hat hlt3
          have hs3 : U.heap.size + 1 ≤ w3.heap.size := by have := hgrow.size; simpa using this
          have hsame : ∀ j, j < U.heap.size → (Value.slice oa ol oc).ownBlock ≠ some j → w3.heap[j]? = U.heap[j]? := fun j hj hn => (hgrow.block j (by simp; omega) (fun e => hn e.symm)).trans (Below.heap_alloc U _ j hj)
          have hv3 : w3.heap[w.heap.size]? = some (.cells #[.int .i64 4, .int .i64 0, .string ⟨#[]⟩, .slice oa ol oc] 24 (0, 0)) := (hsame _ hUl (fun e => by have := HRB.out _ e; omega)).trans HBU.out
          have hb3 : Below w.heap.size w w3 := hbB.trans (((Below.refl _ _).alloc (by omega) _).grown hgrow (by simp; omega) (fun k hk => by have := HRB.out k hk; omega))
          have d3 := cell_of hv3 3
          have f3 := free_of hv3 3
          simp at d3
          have hgg : ∀ i, i < U.heap.size → (Value.slice oa ol oc).ownBlock ≠ some i → (Value.slice (some ⟨gg, 0, none⟩) (dn.length + 1) cap).ownBlock ≠ some i := fun i hi hne e => by
            simp [Value.ownBlock] at e
            rcases hat with h | h
            · rw [e] at h; exact hne h
            · omega
          have hv4 : (w3.setCell ⟨w.heap.size, 3, none⟩ (.slice (some ⟨gg, 0, none⟩) (dn.length + 1) cap)).heap[w.heap.size]? = some (.cells #[.int .i64 4, .int .i64 0, .string ⟨#[]⟩, .slice (some ⟨gg, 0, none⟩) (dn.length + 1) cap] 24 (0, 0)) := by simp [World.setCell, Array.getElem?_modify, hv3]
          have hb4 := hb3.setCell (p := ⟨w.heap.size, 3, none⟩) (Nat.le_refl _) (.slice (some ⟨gg, 0, none⟩) (dn.length + 1) cap)
          have hown4 := ownsRow_setCell_below hown3 (a := ⟨w.heap.size, 3, none⟩) (by show w.heap.size < w.heap.size + 1; omega) (.slice (some ⟨gg, 0, none⟩) (dn.length + 1) cap)
          rw [← rowG_snoc] at hown4
          have HG4 : Hid (∀ y ∈ dn ++ [x], y.ok (fun i => w.heap.size + 1 ≤ i ∧ (Value.slice (some ⟨gg, 0, none⟩) (dn.length + 1) cap).ownBlock ≠ some i) (w3.setCell ⟨w.heap.size, 3, none⟩ (.slice (some ⟨gg, 0, none⟩) (dn.length + 1) cap))) := fun y hy => (HGU.out y hy).kept (by simp [World.setCell]; omega) (fun i hi hi2 => ⟨⟨hi.1, hgg i hi2 hi.2.1⟩, (setCell_past w3 _ _ (by show i ≠ w.heap.size; omega)).trans (hsame i hi2 hi.2.1)⟩)
          clear hown3 hgrow hat hlt3 hsame hgg hv3 hb3 HGU HOU HBU hbB c3 a0 a1 a2 a3
          go_upto_region 21 with fail
          generalize w3.setCell ⟨w.heap.size, 3, none⟩ (.slice (some ⟨gg, 0, none⟩) (dn.length + 1) cap) = W4 at hv4 hb4 hown4 HG4 ⊢
          have hW4 : w.heap.size < W4.heap.size := (Array.getElem?_eq_some_iff.1 hv4).1
          clear d3 f3 hs3
          have HOWN4 := toHid hown4
          have HV4 := toHid hv4
          have HB4 := toHid hb4
          clear hown4
          by_cases hq : q < text.size
          · have d0 : (q : Int) < (text.size : Int) := by omega
            have d1 : ¬ (text.size : Int) ≤ (q : Int) := by omega
            by_cases h93 : text[q] = 93
            · have e1 : ((text[q].toNat : Int) == 93) = true := by rw [h93]; decide
              have e2 : ((text[q].toNat : Int) == 44) = false := by rw [h93]; decide
              have e3 : ((text[q].toNat : Int) != 44) = true := by rw [h93]; decide
              have e4 : ((text[q].toNat : Int) != 93) = false := by rw [h93]; decide
              have HEQ : Hid (o = .ok (.node 4 0 ⟨#[]⟩ ((dn ++ [x]).map Got.tree), q + 1)) := by
                show _ = _
                rw [HSTEP.out, if_pos (by rw [begins_one hq, h93]; decide)]
              have x0 := cell_of hv4 0
              have x1 := cell_of hv4 1
              have x2 := cell_of hv4 2
              have x3 := cell_of hv4 3
              have y0 := free_of hv4 0
              have y1 := free_of hv4 1
              have y2 := free_of hv4 2
              have y3 := free_of hv4 3
              simp at x0 x1 x2 x3
              have zq := put4_here hv4 (.int .i64 4) (.int .i64 0) (.string ⟨#[]⟩) (.slice (some ⟨gg, 0, none⟩) (dn.length + 1) cap)
              have HZB := toHid (hb4.trans (put4_below W4 w.heap.size (.int .i64 4) (.int .i64 0) (.string ⟨#[]⟩) (.slice (some ⟨gg, 0, none⟩) (dn.length + 1) cap)))
              have HZ := toHid zq
              clear zq
              go_wp2_with fail
              have eP : ((((W4.setCell ⟨w.heap.size, 0, none⟩ (.int .i64 4)).setCell ⟨w.heap.size, 1, none⟩ (.int .i64 0)).setCell ⟨w.heap.size, 2, none⟩ (.string ⟨#[]⟩)).setCell ⟨w.heap.size, 3, none⟩ (.slice (some ⟨gg, 0, none⟩) (dn.length + 1) cap)) = put4 W4 w.heap.size (.int .i64 4) (.int .i64 0) (.string ⟨#[]⟩) (.slice (some ⟨gg, 0, none⟩) (dn.length + 1) cap) := rfl
              rw [eP]
              clear eP
              have HZO := toHid (put4_other W4 w.heap.size (.int .i64 4) (.int .i64 0) (.string ⟨#[]⟩) (.slice (some ⟨gg, 0, none⟩) (dn.length + 1) cap))
              have HZS := toHid (put4_below W4 w.heap.size (.int .i64 4) (.int .i64 0) (.string ⟨#[]⟩) (.slice (some ⟨gg, 0, none⟩) (dn.length + 1) cap)).size
              generalize put4 W4 w.heap.size (.int .i64 4) (.int .i64 0) (.string ⟨#[]⟩) (.slice (some ⟨gg, 0, none⟩) (dn.length + 1) cap) = Z at HZB HZ HZO HZS ⊢
              have t0 := cell_of HZ.out 0
              have t1 := cell_of HZ.out 1
              have t2 := cell_of HZ.out 2
              have t3 := cell_of HZ.out 3
              simp at t0 t1 t2 t3
              refine bodyPost_ret (v := .tuple #[.agg #[.int .i64 4, .int .i64 0, .string ⟨#[]⟩, .slice (some ⟨gg, 0, none⟩) (dn.length + 1) cap], .int .i64 ((q : Int) + 1), .int .i64 (-1)]) (by simp [results, Tryd.results15, go_sem, t0, t1, t2, t3]) rfl ⟨?_, HZB.out⟩
              rw [HEQ.out]
              obtain ⟨hg1, hg2⟩ := row_lt HOWN4.out
              have hcap : dn.length + 1 ≤ cap := by
                rcases HOWN4.out.2 with ⟨h0, _⟩ | ⟨g0, cap0, cur0, h0, _, _, h1, _⟩
                · cases h0
                · simp only [Value.slice.injEq] at h0
                  omega
              refine ⟨⟨4, 0, ⟨#[]⟩, (dn ++ [x]).map Got.tree, some ⟨gg, 0, none⟩, dn.length + 1, cap⟩, rfl, by rw [Int.natCast_add]; rfl, ⟨Nat.zero_le _, hcap, ?_⟩⟩
              have hrow := row_lies (A := fun i => w.heap.size + 1 ≤ i) hg1 hg2 (dn ++ [x]) 0 (fun y hy => (HG4.out y hy).kept (Nat.le_refl _) (fun i hi hi2 => ⟨hi.1, rfl⟩)) (fun j u hj => by
                have := row_cell HOWN4.out (by omega) j u hj
                simpa using this) (by simp; omega)
              rw [List.length_append] at hrow
              refine LieA.kept HZS.out (fun i hi hi2 => ⟨by omega, HZO.out i (by omega) hi2⟩) _ _ _ hrow
            by_cases h44 : text[q] = 44
            · have e1 : ((text[q].toNat : Int) == 93) = false := by rw [h44]; decide
              have e3 : ((text[q].toNat : Int) != 44) = false := by rw [h44]; decide
              have HEQ : Hid (o = listF g text f (q + 1) ((dn ++ [x]).map Got.tree)) := by
                show _ = _
                rw [HSTEP.out, if_neg (by rw [begins_one hq, h44]; decide), if_pos (by rw [begins_one hq, h44]; decide)]
              clear hv4 hb4
              go_wp2_with fail
              go_roundg f
              case measure => omega
              case rel => exact ⟨dn ++ [x], q + 1, .slice (some ⟨gg, 0, none⟩) (dn.length + 1) cap, by omega, by omega, by simp; omega, by go_num, HEQ.out, HB4.out, HV4.out, by simpa using HOWN4.out, HG4.out⟩
            · have e3 : ((text[q].toNat : Int) != 44) = true := by have := byte_no (c := 44) (k := 44) rfl h44; simp only [bne, this, Bool.not_false]
              have e4 : ((text[q].toNat : Int) != 93) = true := by have := byte_no (c := 93) (k := 93) rfl h93; simp only [bne, this, Bool.not_false]
              have HEQ : Hid (o = .error q) := by
                show _ = _
                rw [HSTEP.out, if_neg (by rw [begins_one hq]; simpa using Ne.symm h93), if_neg (by rw [begins_one hq]; simpa using Ne.symm h44)]
              have x0 := cell_of hv4 0
              have x1 := cell_of hv4 1
              have x2 := cell_of hv4 2
              have x3 := cell_of hv4 3
              have y0 := free_of hv4 0
              have y1 := free_of hv4 1
              have y2 := free_of hv4 2
              have y3 := free_of hv4 3
              simp at x0 x1 x2 x3
              have zq := put4_here hv4 (.int .i64 4) (.int .i64 0) (.string ⟨#[]⟩) (.slice (some ⟨gg, 0, none⟩) (dn.length + 1) cap)
              have HZB := toHid (hb4.trans (put4_below W4 w.heap.size (.int .i64 4) (.int .i64 0) (.string ⟨#[]⟩) (.slice (some ⟨gg, 0, none⟩) (dn.length + 1) cap)))
              have HZ := toHid zq
              clear zq
              go_wp2_with fail
              have eP : ((((W4.setCell ⟨w.heap.size, 0, none⟩ (.int .i64 4)).setCell ⟨w.heap.size, 1, none⟩ (.int .i64 0)).setCell ⟨w.heap.size, 2, none⟩ (.string ⟨#[]⟩)).setCell ⟨w.heap.size, 3, none⟩ (.slice (some ⟨gg, 0, none⟩) (dn.length + 1) cap)) = put4 W4 w.heap.size (.int .i64 4) (.int .i64 0) (.string ⟨#[]⟩) (.slice (some ⟨gg, 0, none⟩) (dn.length + 1) cap) := rfl
              rw [eP]
              clear eP
              generalize put4 W4 w.heap.size (.int .i64 4) (.int .i64 0) (.string ⟨#[]⟩) (.slice (some ⟨gg, 0, none⟩) (dn.length + 1) cap) = Z at HZB HZ ⊢
              have t0 := cell_of HZ.out 0
              have t1 := cell_of HZ.out 1
              have t2 := cell_of HZ.out 2
              have t3 := cell_of HZ.out 3
              simp at t0 t1 t2 t3
              refine bodyPost_ret (v := .tuple #[.agg #[.int .i64 4, .int .i64 0, .string ⟨#[]⟩, .slice (some ⟨gg, 0, none⟩) (dn.length + 1) cap], .int .i64 0, .int .i64 (q : Int)]) (by simp [results, Tryd.results15, go_sem, t0, t1, t2, t3]) rfl ⟨?_, HZB.out⟩
              rw [HEQ.out]
              exact ⟨_, _, _, _, _, _, rfl⟩
          · have d0 : ¬ (q : Int) < (text.size : Int) := by omega
            have d1 : (text.size : Int) ≤ (q : Int) := by omega
            have HEQ : Hid (o = .error q) := by
              show _ = _
              rw [HSTEP.out, if_neg (by rw [begins_none (by omega) 93 []]; decide), if_neg (by rw [begins_none (by omega) 44 []]; decide)]
            have x0 := cell_of hv4 0
            have x1 := cell_of hv4 1
            have x2 := cell_of hv4 2
            have x3 := cell_of hv4 3
            have y0 := free_of hv4 0
            have y1 := free_of hv4 1
            have y2 := free_of hv4 2
            have y3 := free_of hv4 3
            simp at x0 x1 x2 x3
            have zq := put4_here hv4 (.int .i64 4) (.int .i64 0) (.string ⟨#[]⟩) (.slice (some ⟨gg, 0, none⟩) (dn.length + 1) cap)
            have HZB := toHid (hb4.trans (put4_below W4 w.heap.size (.int .i64 4) (.int .i64 0) (.string ⟨#[]⟩) (.slice (some ⟨gg, 0, none⟩) (dn.length + 1) cap)))
            have HZ := toHid zq
            clear zq
            go_wp2_with fail
            have eP : ((((W4.setCell ⟨w.heap.size, 0, none⟩ (.int .i64 4)).setCell ⟨w.heap.size, 1, none⟩ (.int .i64 0)).setCell ⟨w.heap.size, 2, none⟩ (.string ⟨#[]⟩)).setCell ⟨w.heap.size, 3, none⟩ (.slice (some ⟨gg, 0, none⟩) (dn.length + 1) cap)) = put4 W4 w.heap.size (.int .i64 4) (.int .i64 0) (.string ⟨#[]⟩) (.slice (some ⟨gg, 0, none⟩) (dn.length + 1) cap) := rfl
            rw [eP]
            clear eP
            generalize put4 W4 w.heap.size (.int .i64 4) (.int .i64 0) (.string ⟨#[]⟩) (.slice (some ⟨gg, 0, none⟩) (dn.length + 1) cap) = Z at HZB HZ ⊢
            have t0 := cell_of HZ.out 0
            have t1 := cell_of HZ.out 1
            have t2 := cell_of HZ.out 2
            have t3 := cell_of HZ.out 3
            simp at t0 t1 t2 t3
            refine bodyPost_ret (v := .tuple #[.agg #[.int .i64 4, .int .i64 0, .string ⟨#[]⟩, .slice (some ⟨gg, 0, none⟩) (dn.length + 1) cap], .int .i64 0, .int .i64 (q : Int)]) (by simp [results, Tryd.results15, go_sem, t0, t1, t2, t3]) rfl ⟨?_, HZB.out⟩
            rw [HEQ.out]
            exact ⟨_, _, _, _, _, _, rfl⟩
    ·
      unfold wval at hnx hen
      obtain ⟨ki, hki⟩ : ∃ z, z = wkind i := ⟨_, rfl⟩
      obtain ⟨ni, hni⟩ : ∃ z, z = wnum i := ⟨_, rfl⟩
      obtain ⟨ky, hky⟩ : ∃ z, z = wkey i := ⟨_, rfl⟩
      rw [← hki, ← hni, ← hky] at hnx hen
      have HKI := toHid hki
      have HNI := toHid hni
      have HKY := toHid hky
      have hbit : w.heap.size ≤ it := by omega
      have HB1 := toHid (HBW.out.trans (hbe1 w.heap.size hbit))
      have hbx1 := (hoth w.heap.size (by omega)).trans HBX.out
      have HRG1 := toHid hrg1
      have HFR : Hid (∀ o : Obj, Rg3 (w1.alloc o) (w.heap.size + 1) it (seen.push i)) := fun o => hrg1.keep (Below.heap_alloc _ _ _ (by have := hrg1.lt; omega)) (Below.heap_alloc _ _ _ (by have := hrg1.lt; omega))
      have HBX1 := toHid hbx1
      have hw1l : w.heap.size < w1.heap.size := (Array.getElem?_eq_some_iff.1 hbx1).1
      clear hki hni hky hrg1 hoth hbe1 hbx1
      have HBI : Hid (begins text p (wkey i) = false) := HNW.out i hi3
      have HHP : Hid (∀ W : World, Calls Tryd.prog 23 #[.string (text.extract p text.size), .string ky] W fun e w' => e = .returned (.bool false) ∧ w' = W) := fun W => by
        have h9 := Tryd.strings_HasPrefix (text.extract p text.size) ky W
        have h8 : Lib.hasPrefix (text.extract p text.size).data.toList ky.data.toList = false := by rw [HKY.out]; exact HBI.out
        rw [h8] at h9
        exact h9
      go_wp2_with fail
      refine (HHP.out _).mono ?_
      rintro e u5 ⟨rfl, rfl⟩
      have HB5 := toHid (HB1.out.alloc (by omega) (.cells #[.int .i64 ki, .int .i64 ni, .string ⟨#[]⟩, .slice none 0 0] 24))
      have HX5 := toHid ((Below.heap_alloc w1 (.cells #[.int .i64 ki, .int .i64 ni, .string ⟨#[]⟩, .slice none 0 0] 24) _ hw1l).trans HBX1.out)
      go_wp2_with fail
      go_roundg (left3 (seen.push i))
      case measure =>
        have := left3_push hi3 hns
        omega
      case rel => exact ⟨seen.push i, Nat.le_refl _, (fun j hj => by
        rcases Array.mem_push.1 hj with hj | rfl
        · exact HNO.out j hj
        · exact ⟨hi3, HBI.out⟩), HFR.out _, HX5.out, HB5.out⟩

end Go.Proofs.YtdbodcfodlbgnaaDoor
