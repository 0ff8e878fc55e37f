/-
  What is proved here: what the texts HAddE, HDropN, KDo prove, in one text.
-/
import Derived.Test.YtdlmlpddkfnfmaaGreatDoorQMBA
import Derived.Test.YtdlmlpddkfnfmaaGreatDoorQMAZ
import Derived.Test.YtdlmlpddkfnfmaaGreatDoorQMBB
import Derived.Test.YtdlmlpddkfnfmaaGreatDoorQMAN
import Derived.Test.YtdlmlpddkfnfmaaGreatDoorQMBC
import Derived.Test.YtdlmlpddkfnfmaaGreatDoorHDo
namespace Go.Proofs.YtdlmlpddkfnfmaaGreatDoor
open Go.RowKit
set_option linter.unusedVariables false

def hasA (N : List AN) (t : Int) : Bool := decide (t ∈ N.map AN.id)

theorem pair_ids {w : World} {L : List Nd} {N : List AN} (h : Pair2 (NdIn w) L N) : L.map Nd.id = N.map AN.id := by
  apply List.ext_getElem?
  intro i
  rw [List.getElem?_map, List.getElem?_map]
  cases hx : L[i]? with
  | none =>
    have : N[i]? = none := by
      rw [List.getElem?_eq_none_iff] at hx ⊢
      rw [← h.1]
      exact hx
    rw [this]
    rfl
  | some x =>
    obtain ⟨y, hy, hxy⟩ := h.left hx
    rw [hy]
    show some x.id = some y.id
    rw [hxy.1]

/-- Somewhere, or nowhere. -/
def PtrEnd (has : Bool) (e : Ending) : Prop := (has = false ∧ e = .returned (.pointer none)) ∨ (has = true ∧ ∃ g o, e = .returned (.pointer (some ⟨g, o, none⟩)))

theorem wnode_in (O : Nat → Prop) (b : Nat) (S : WS) (t : Int) (w : World) (h : WorkIn O w b S) (h60 : S.N.length ≤ 60) (hr : Rise (S.N.map AN.id)) :
    Calls Tryz.prog 117 #[.pointer (some ⟨b, 0, none⟩), .int .i64 t] w fun e w' => PtrEnd (hasA S.N t) e ∧ Below w.heap.size w w' := by
  obtain ⟨na, nc, ea, ec, ma, mc, PN, PE, PM, hw⟩ := h
  obtain ⟨_, L, hl, hp⟩ := hw.ns.reads2
  have hids := pair_ids hp
  refine (wnode_any L b na S.N.length nc _ _ S.next t w hw.blk hl h60 (by rw [hids]; exact hr)).mono ?_
  rintro e w' ⟨hA, k⟩
  refine ⟨?_, k⟩
  have he : hasA S.N t = hasN L t := by unfold hasA hasN; rw [hids]
  rw [he]
  rcases hA with ⟨h1, h2⟩ | ⟨h1, i, g, o, x, _, h2, _⟩
  · exact .inl ⟨h1, h2⟩
  · exact .inr ⟨h1, g, _, h2⟩

def addEE (S : WS) (o : Om) (eP : Int) : Int := if hasA S.N o.frm = false ∨ hasA S.N o.dst = false then 5 else if nm o.name = false then 6 else if eP ≠ 0 then eP else if 60 ≤ S.E.length ∨ 1099511627776 ≤ S.next then 10 else 0

set_option maxHeartbeats 16000000 in
set_option maxRecDepth 100000 in
theorem addEdge_any (O : Nat → Prop) (b : Nat) (S : WS) (o : Om) (P : List Pr) (X : List AP) (eP : Int) (B : Nat) (w : World)
    (hW : WorkIn O w b S) (hB : B ≤ w.heap.size) (hO : ∀ i, O i → B ≤ i) (hm : S.made.length ≤ 1000) (hn0 : 0 ≤ S.next) (h60 : S.N.length ≤ 60) (hri : Rise (S.N.map AN.id)) (hns : o.name.size ≤ 9223372036854775807)
    (hP : ∀ W, Below B w W → Calls Tryz.prog 110 #[.slice o.pa o.pl o.pc] W fun e w' => e = .returned (.int .i64 eP) ∧ Below W.heap.size W w')
    (hX : eP = 0 → AE.ok ⟨S.next, o.frm, o.dst, o.name, X⟩ ∧ ∀ W, Below B w W → EdIn W ⟨S.next, o.frm, o.dst, o.name, P, o.pa, o.pl, o.pc⟩ ⟨S.next, o.frm, o.dst, o.name, X⟩) :
    Calls Tryz.prog 67 #[.pointer (some ⟨b, 0, none⟩), o.val] w fun e w' => ActEnd O w w' b ⟨S.N, S.E ++ [⟨S.next, o.frm, o.dst, o.name, X⟩], S.next + 1, S.made ++ [S.next]⟩ (addEE S o eP) e := by
  obtain ⟨k, id, frm, dst, name, vk, vn, vs, va, vl, vc, la, ll, lc, pa, pl, pc⟩ := o
  simp only [Om.val] at hP hX hns ⊢
  have HP := toHid hP
  have HX := toHid hX
  have HW := toHid hW
  have HO := toHid hO
  have HRI := toHid hri
  clear hP hX hW hO hri
  obtain ⟨er, hER⟩ : ∃ z, z = addEE S ⟨k, id, frm, dst, name, vk, vn, vs, va, vl, vc, la, ll, lc, pa, pl, pc⟩ eP := ⟨_, rfl⟩
  rw [← hER]
  have HER := toHid hER
  clear hER
  have b0 : Below w.heap.size w (w.alloc (.cells #[.int .i64 k, .int .i64 id, .int .i64 frm, .int .i64 dst, .string name, .int .i64 vk, .int .i64 vn, .string vs, .slice va vl vc, .slice la ll lc, .slice pa pl pc] 65)) := (Below.refl _ _).alloc (Nat.le_refl _) _
  have q0 := alloc_new w (.cells #[.int .i64 k, .int .i64 id, .int .i64 frm, .int .i64 dst, .string name, .int .i64 vk, .int .i64 vn, .string vs, .slice va vl vc, .slice la ll lc, .slice pa pl pc] 65)
  have z0 : (w.alloc (.cells #[.int .i64 k, .int .i64 id, .int .i64 frm, .int .i64 dst, .string name, .int .i64 vk, .int .i64 vn, .string vs, .slice va vl vc, .slice la ll lc, .slice pa pl pc] 65)).heap.size = w.heap.size + 1 := by simp
  have HB0 := toHid b0
  have HQ := toHid q0
  have HZ := toHid z0
  clear b0 q0 z0
  have HS : Hid (∀ (W W' : World), W.heap[w.heap.size]? = some (.cells #[.int .i64 k, .int .i64 id, .int .i64 frm, .int .i64 dst, .string name, .int .i64 vk, .int .i64 vn, .string vs, .slice va vl vc, .slice la ll lc, .slice pa pl pc] 65 (0, 0)) → Below W.heap.size W W' → W'.cell? ⟨w.heap.size, 2, none⟩ = some (.int .i64 frm) ∧ W'.cell? ⟨w.heap.size, 3, none⟩ = some (.int .i64 dst) ∧ W'.cell? ⟨w.heap.size, 4, none⟩ = some (.string name) ∧ W'.cell? ⟨w.heap.size, 10, none⟩ = some (.slice pa pl pc)) := by
    intro W W' hq kk
    have hlt : w.heap.size < W.heap.size := (Array.getElem?_eq_some_iff.1 hq).1
    have q : ∀ o, W'.cell? ⟨w.heap.size, o, none⟩ = _ := fun o => (kk.cell (p := ⟨w.heap.size, o, none⟩) hlt).trans (cell_of hq o)
    exact ⟨q 2, q 3, q 4, q 10⟩
  have HNODE : Hid (∀ t W, Below w.heap.size w W → Calls Tryz.prog 117 #[.pointer (some ⟨b, 0, none⟩), .int .i64 t] W fun e w' => PtrEnd (hasA S.N t) e ∧ Below W.heap.size W w') := fun t W kW => wnode_in O b S t W (HW.out.below kW) h60 HRI.out
  have HYtdlmlpddkfnfmaaGreatDoor : Hid (∀ W, Calls Tryz.prog 112 #[.string name] W fun e w' => e = .returned (.bool (nm name)) ∧ Below W.heap.size W w') := fun W => name_any name W hns
  go_enter Tryz.func67, Tryz.ntmps67
  go_wp2_with fail
  refine (HNODE.out _ _ HB0.out).mono ?_
  generalize w.alloc (.cells #[.int .i64 k, .int .i64 id, .int .i64 frm, .int .i64 dst, .string name, .int .i64 vk, .int .i64 vn, .string vs, .slice va vl vc, .slice la ll lc, .slice pa pl pc] 65) = W at HB0 HQ HZ ⊢
  rintro e w1 ⟨hA, k1⟩
  have HK1 := toHid (HB0.out.trans (k1.mono HB0.out.size))
  have HQ1 := toHid ((k1.block w.heap.size (by rw [HZ.out]; omega)).trans HQ.out)
  have s1 : w.heap.size + 1 ≤ w1.heap.size := by have := k1.size; rw [HZ.out] at this; exact this
  obtain ⟨v2, v3, v4, v10⟩ := HS.out w1 w1 HQ1.out (Below.refl _ _)
  clear k1 HB0 HQ HZ
  rcases hA with ⟨h1, rfl⟩ | ⟨h1, g, go, rfl⟩
  · have H1 := toHid h1
    clear h1
    go_wp2_with fail
    go_ret
    have hE : er = 5 := by rw [HER.out, addEE, if_pos (.inl H1.out)]
    exact ⟨by rw [hE]; rfl, Rest.of_below HK1.out, fun h => by rw [hE] at h; cases h⟩
  have H1 := toHid h1
  clear h1
  go_wp2_with fail
  refine (HNODE.out _ _ HK1.out).mono ?_
  rintro e w2 ⟨hA, k2⟩
  have HK2 := toHid (HK1.out.trans (k2.mono HK1.out.size))
  have HQ2 := toHid ((k2.block w.heap.size (by omega)).trans HQ1.out)
  have s2 : w.heap.size + 1 ≤ w2.heap.size := Nat.le_trans s1 k2.size
  clear v2 v3 v4 v10 k2 HK1 HQ1 s1
  obtain ⟨v2, v3, v4, v10⟩ := HS.out w2 w2 HQ2.out (Below.refl _ _)
  rcases hA with ⟨h1, rfl⟩ | ⟨h1, g, go, rfl⟩
  · have H2 := toHid h1
    clear h1
    go_wp2_with fail
    go_ret
    have hE : er = 5 := by rw [HER.out, addEE, if_pos (.inr H2.out)]
    exact ⟨by rw [hE]; rfl, Rest.of_below HK2.out, fun h => by rw [hE] at h; cases h⟩
  have H2 := toHid h1
  clear h1
  go_wp2_with fail
  refine (HYtdlmlpddkfnfmaaGreatDoor.out _).mono ?_
  rintro e w3 ⟨rfl, k3⟩
  have HK3 := toHid (HK2.out.trans (k3.mono HK2.out.size))
  have HQ3 := toHid ((k3.block w.heap.size (by omega)).trans HQ2.out)
  have s3 : w.heap.size + 1 ≤ w3.heap.size := Nat.le_trans s2 k3.size
  clear v2 v3 v4 v10 k3 HK2 HQ2 s2
  obtain ⟨v2, v3, v4, v10⟩ := HS.out w3 w3 HQ3.out (Below.refl _ _)
  have hno : ¬ (hasA S.N frm = false ∨ hasA S.N dst = false) := by
    rintro (h | h)
    · rw [H1.out] at h; cases h
    · rw [H2.out] at h; cases h
  have HNO := toHid hno
  clear hno
  cases hnm : nm name with
  | false =>
    go_wp2_with fail
    go_ret
    have hE : er = 6 := by rw [HER.out, addEE, if_neg HNO.out, if_pos hnm]
    exact ⟨by rw [hE]; rfl, Rest.of_below HK3.out, fun h => by rw [hE] at h; cases h⟩
  | true =>
  have HNM := toHid hnm
  go_wp2_with fail
  refine (HP.out _ (HK3.out.mono hB)).mono ?_
  rintro e w4 ⟨rfl, k4⟩
  have HK4 := toHid (HK3.out.trans (k4.mono HK3.out.size))
  have HQ4 := toHid ((k4.block w.heap.size (by omega)).trans HQ3.out)
  have s4 : w.heap.size + 1 ≤ w4.heap.size := Nat.le_trans s3 k4.size
  clear v2 v3 v4 v10 k4 HK3 HQ3 s3
  obtain ⟨v2, v3, v4, v10⟩ := HS.out w4 w4 HQ4.out (Below.refl _ _)
  have HWC := toHid (HW.out.below HK4.out)
  by_cases hz : eP = 0
  · subst hz
    have HX0 := toHid (HX.out rfl)
    obtain ⟨na, nc, ea, ec, ma, mc, PN, PE, PM, hw⟩ := HWC.out
    obtain ⟨el, hel⟩ : ∃ z, z = S.E.length := ⟨_, rfl⟩
    obtain ⟨nx, hnx⟩ : ∃ z, z = S.next := ⟨_, rfl⟩
    have hblk := hw.blk
    rw [← hel, ← hnx] at hblk
    have c0 := cell_of hblk 1
    simp at c0
    have HNL := toHid hel
    have HNX := toHid hnx
    rw [← hnx] at hn0
    have HFULL : Hid (Calls Tryz.prog 115 #[.pointer (some ⟨b, 0, none⟩)] w4 fun e w' => e = .returned (.bool (decide (1099511627776 ≤ nx))) ∧ w' = w4) := full_any b _ _ _ nx w4 hblk
    clear hblk hel hnx hw
    by_cases h40 : 60 ≤ el
    · have h40i : (60 : Int) ≤ el := by omega
      go_wp2_with fail
      go_ret
      have hE : er = 10 := by rw [HER.out, addEE, if_neg HNO.out, if_neg (by simp only; rw [HNM.out]; decide), if_neg (by simp), if_pos (.inl (by rw [← HNL.out]; exact h40))]
      exact ⟨by rw [hE]; rfl, Rest.of_below HK4.out, fun h => by rw [hE] at h; cases h⟩
    · have h40i : ¬ ((60 : Int) ≤ el) := by omega
      go_wp2_with fail
      refine HFULL.out.mono ?_
      rintro e w4 ⟨rfl, rfl⟩
      by_cases hfl : 1099511627776 ≤ nx
      · have hd : decide (1099511627776 ≤ nx) = true := by simp [hfl]
        go_wp2_with fail
        go_ret
        have hE : er = 10 := by rw [HER.out, addEE, if_neg HNO.out, if_neg (by simp only; rw [HNM.out]; decide), if_neg (by simp), if_pos (.inr (by rw [← HNX.out]; exact hfl))]
        exact ⟨by rw [hE]; rfl, Rest.of_below HK4.out, fun h => by rw [hE] at h; cases h⟩
      · have hd : decide (1099511627776 ≤ nx) = false := by simp [hfl]
        have hE : er = 0 := by
          rw [HER.out, addEE, if_neg HNO.out, if_neg (by simp only; rw [HNM.out]; decide), if_neg (by simp), if_neg]
          rintro (h | h)
          · rw [← HNL.out] at h; exact h40 h
          · rw [← HNX.out] at h; exact hfl h
        have HE0 := toHid hE
        clear hE
        have HNUM : Hid (∀ W, Below w4.heap.size w4 W → Calls Tryz.prog 116 #[.pointer (some ⟨b, 0, none⟩)] W fun e w' => e = .returned (.int .i64 nx) ∧ StepEnd O W w' b S.numbered) := fun W kW => by
          rw [HNX.out]
          exact number_any O b S W (HWC.out.below kW) hm (by rw [← HNX.out]; exact hn0) (by rw [← HNX.out]; omega)
        go_upto_region 10 with fail
        have D6 : Below w4.heap.size w4 w4.drew := (Below.refl _ _).drew
        have R0 : Rest O w4 w4.drew := Rest.of_below D6
        have nO : ¬ O w4.heap.size := fun q => Nat.lt_irrefl _ (HWC.out.lts _ q)
        have HSR : Hid (∀ W', Rest O w4 W' → W'.cell? ⟨w.heap.size, 2, none⟩ = some (.int .i64 frm) ∧ W'.cell? ⟨w.heap.size, 3, none⟩ = some (.int .i64 dst) ∧ W'.cell? ⟨w.heap.size, 4, none⟩ = some (.string name) ∧ W'.cell? ⟨w.heap.size, 10, none⟩ = some (.slice pa pl pc)) := fun W' r => by
          have hq : W'.heap[w.heap.size]? = w4.heap[w.heap.size]? := r.block _ (by omega) (fun q => Nat.lt_irrefl _ (HW.out.lts _ q))
          exact ⟨(cell_same hq 2).trans v2, (cell_same hq 3).trans v3, (cell_same hq 4).trans v4, (cell_same hq 10).trans v10⟩
        go_cut [6] (fun s6 wx => BoxCut O w4 b S.numbered #[.int .i64 nx, .int .i64 frm, .int .i64 dst, .string name, .slice pa pl pc] 53 s6 wx)
        case first =>
          go_region_held3 (fun w' => w'.cell? ⟨w.heap.size, 2, none⟩ = some (.int .i64 frm) ∧ w'.cell? ⟨w.heap.size, 3, none⟩ = some (.int .i64 dst) ∧ w'.cell? ⟨w.heap.size, 4, none⟩ = some (.string name) ∧ w'.cell? ⟨w.heap.size, 10, none⟩ = some (.slice pa pl pc))
            (first
              | with_reducible exact HSR.out _ R1
              | with_reducible exact HSR.out _ R0
              | with_reducible exact HSR.out _ (R0.alloc _)
              | with_reducible exact HSR.out _ (R1.alloc _)
              | exact HSR.out _ (((((R1.set ⟨w4.heap.size, 0, none⟩ (Nat.le_refl _) _).set ⟨w4.heap.size, 1, none⟩ (Nat.le_refl _) _).set ⟨w4.heap.size, 2, none⟩ (Nat.le_refl _) _).set ⟨w4.heap.size, 3, none⟩ (Nat.le_refl _) _).set ⟨w4.heap.size, 4, none⟩ (Nat.le_refl _) _)
              | go_keep)
            (first
              | (go_at_call 116; refine (HNUM.out _ (by first | exact D6 | exact D6.alloc (Nat.le_refl _) _)).mono ?_; rintro e u1 ⟨rfl, h1⟩; have R1 : Rest O w4 u1 := (by first | exact R0.trans h1.2 (fun _ _ q => q) | exact (R0.alloc _).trans h1.2 (fun _ _ q => q)); try (have hp := (h1.far (i := w4.heap.size) (by simp) nO).trans (alloc_new w4.drew _); have p0 := cell_of hp 0; have p1 := cell_of hp 1; have p2 := cell_of hp 2; have p3 := cell_of hp 3; have p4 := cell_of hp 4; have f0 := free_of hp 0; have f1 := free_of hp 1; have f2 := free_of hp 2; have f3 := free_of hp 3; have f4 := free_of hp 4; simp at p0 p1 p2 p3 p4)))
          all_goals
            go_wp2_with fail
            go_meet
            first
              | exact boxA h1 _ _
              | exact boxB HWC.out.lts h1 [.int .i64 nx, .int .i64 frm, .int .i64 dst, .string name, .slice pa pl pc] _ rfl
        case rest =>
          obtain ⟨p, O1, rfl, hp, hnp, hw1, hr1, ho1⟩ := hcut
          have HW1 := toHid hw1
          have HR1 := toHid hr1
          have HO1 := toHid ho1
          obtain ⟨na1, nc1, ea1, ec1, ma1, mc1, PN1, PE1, PM1, hwa⟩ := hw1
          obtain ⟨hob, L, hrow, hpair⟩ := hwa.es
          have hll : L.length = S.E.length := hpair.1
          have hblk1 : wc.heap[b]? = some (.cells #[.slice na1 S.N.length nc1, .slice ea1 S.E.length ec1, .int .i64 (S.next + 1), .slice ma1 (S.made ++ [S.next]).length mc1] 69 (0, 0)) := hwa.blk
          have hrow' : wc.ownsRow 0 53 5 (.slice ea1 S.E.length ec1) S.E.length (rowX L) := by
            have := hrow
            rw [hll] at this
            exact this
          have hbl : b < wc.heap.size := hwa.lt b hwa.ob
          have hgb : ∀ g, (Value.slice ea1 S.E.length ec1).ownBlock = some g → g ≠ b := fun g hg => (hwa.pe g (hob g hg)).2.1
          rw [← HNL.out] at hblk1 hrow' hgb
          have HBLK1 := toHid hblk1
          have HROW := toHid hrow'
          have HGB := toHid hgb
          have HPAIR := toHid hpair
          have HWA := toHid hwa
          have p0 := cell_of hp 0
          have p1 := cell_of hp 1
          have p2 := cell_of hp 2
          have p3 := cell_of hp 3
          have p4 := cell_of hp 4
          simp at p0 p1 p2 p3 p4
          have HND : Hid (∀ W, Below wc.heap.size wc W → Calls Tryz.prog 65 #[.agg #[.int .i64 nx, .int .i64 frm, .int .i64 dst, .string name, .slice pa pl pc]] W fun e w' => (∃ y : Ed, e = .returned (.agg #[.int .i64 y.id, .int .i64 y.frm, .int .i64 y.dst, .string y.typ, .slice y.pa y.pl y.pc]) ∧ EdOwn (fun i => W.heap.size ≤ i) w' y ⟨nx, frm, dst, name, X⟩) ∧ Below W.heap.size W w') := fun W kW => by
            have hx := HX0.out
            rw [HNX.out]
            have k1 : Below B w W := ((HK4.out.mono hB).trans (HR1.out.below (Nat.le_trans hB HK4.out.size) HO.out)).trans (kW.mono (Nat.le_trans hB (Nat.le_trans HK4.out.size HR1.out.size)))
            exact (edge_any ⟨S.next, frm, dst, name, P, pa, pl, pc⟩ ⟨S.next, frm, dst, name, X⟩ W (hx.2 W k1) hx.1).mono fun e w' ⟨⟨y, he, hy⟩, kk⟩ => ⟨⟨y, he, hy⟩, kk⟩
          obtain ⟨i0, hi0, hiz, his, hib⟩ := info_Edge
          have HI0 := toHid hi0
          have HIZ := toHid hiz
          have HIS := toHid his
          have HIB := toHid hib
          have HBy : (el + 1) * 64 ≤ 140737488355328 := by omega
          have HBm : el + 1 ≤ maxLen := by unfold maxLen; omega
          clear hi0 hiz his hib hp hnp hr1 ho1 hob hrow hpair hll hblk1 hrow' hgb hwa HSR nO R0 D6 v2 v3 v4 v10 c0 HNUM HFULL
          have c0 := cell_of HBLK1.out 1
          simp at c0
          have D7 : Below wc.heap.size wc wc.drew := (Below.refl _ _).drew
          go_upto_region 11 with fail
          go_region_law (first
            | (refine step_append_lies _ (by rfl) _ _ _ (by rfl) 0 53 i0 _ 5 64 Tryz.underlying23 HI0.out HIZ.out HIS.out HIB.out rfl (by omega) (.slice ea1 el ec1) el (rowX L) (by rfl) (hown2.alloc _) ⟨u2.heap.size, 0, none⟩ 1 1 [.int .i64 y.id, .int .i64 y.frm, .int .i64 y.dst, .string y.typ, .slice y.pa y.pl y.pc] (by rfl) (by rfl) (World.news_of_block (cs := #[.int .i64 y.id, .int .i64 y.frm, .int .i64 y.dst, .string y.typ, .slice y.pa y.pl y.pc]) (t := 53) (fr := (0, 0)) (alloc_new u2 _)) (by simp [Value.oneCell']) (by omega) HBm HBy (Nat.zero_le _) (u2.heap.size + 1) (by simp) ?_; intro gg cap w5 hown5 hgrow hat5 hlt5
               have hb5 : w5.heap[b]? = some (.cells #[.slice na1 S.N.length nc1, .slice ea1 el ec1, .int .i64 (S.next + 1), .slice ma1 (S.made ++ [S.next]).length mc1] 69 (0, 0)) := by
                 rw [hgrow.block b (by simp; omega) (fun e => HGB.out b e.symm rfl), Below.heap_alloc u2 _ b (by omega), k2.block b hbl]
                 exact HBLK1.out
               have d0 := cell_of hb5 1
               have f5 := free_of hb5 1
               simp at d0
               clear hb5)
            | (go_simp
               go_at_call 65
               refine (HND.out _ D7).mono ?_
               rintro e u2 ⟨⟨y, rfl, hy⟩, h2⟩
               have k2 : Below wc.heap.size wc u2 := D7.trans h2
               have hs2 : wc.heap.size ≤ u2.heap.size := k2.size
               have c0' : u2.cell? ⟨b, 1, none⟩ = some (.slice ea1 el ec1) := (k2.cell (p := ⟨b, 1, none⟩) hbl).trans c0
               have c0'' : ∀ o, (u2.alloc o).cell? ⟨b, 1, none⟩ = some (.slice ea1 el ec1) := fun o => by rw [cell_past _ _ _ _ (by omega)]; exact c0'
               have hown2 : u2.ownsRow 0 53 5 (.slice ea1 el ec1) el (rowX L) := row_keep HROW.out fun g _ hl => k2.block g hl))
          all_goals
            go_wp2_with fail
            go_ret
            have hnl := HNL.out
            have hnx := HNX.out
            subst hnl hnx
            have hst := BoxCut.step HW.out HK4.out HW.out.lts HR1.out HW1.out HO1.out (HWA.out.putE k2 hy _ HROW.out HPAIR.out hgrow hown5 hat5 hlt5)
            exact ⟨by rw [HE0.out]; rfl, hst.2, fun _ => hst⟩
  · have hz' : (eP != 0) = true := by simp [hz]
    go_wp2_with fail
    go_ret
    have hE : er = eP := by rw [HER.out, addEE, if_neg HNO.out, if_neg (by simp only; rw [HNM.out]; decide), if_pos hz]
    exact ⟨by rw [hE]; rfl, Rest.of_below HK4.out, fun h => absurd (hE ▸ h) hz⟩

/-- Is an edge from there or to there? -/
def touchE (id : Int) (y : AE) : Bool := (y.frm == id) || (y.dst == id)

set_option maxHeartbeats 1000000 in
theorem touch_one (id : Int) (p : Ed) (y : AE) (q : Nat) (w : World) (hp : EdIn w p y) (hq : w.cell? ⟨q, 1, none⟩ = some (.int .i64 id)) :
    Calls Tryz.prog 119 #[.agg #[.int .i64 p.id, .int .i64 p.frm, .int .i64 p.dst, .string p.typ, .slice p.pa p.pl p.pc], .pointer (some ⟨q, 0, none⟩)] w fun e w' => e = .returned (.bool (touchE id y)) ∧ Below w.heap.size w w' := by
  have hql : q < w.heap.size := World.block_lt_of_cell? w _ hq
  have q1 : (w.alloc (.cells #[.int .i64 p.id, .int .i64 p.frm, .int .i64 p.dst, .string p.typ, .slice p.pa p.pl p.pc] 53)).cell? ⟨q, 1, none⟩ = some (.int .i64 id) := by rw [cell_past _ _ _ _ hql]; exact hq
  have b0 : Below w.heap.size w (w.alloc (.cells #[.int .i64 p.id, .int .i64 p.frm, .int .i64 p.dst, .string p.typ, .slice p.pa p.pl p.pc] 53)) := (Below.refl _ _).alloc (Nat.le_refl _) _
  have HB := toHid b0
  have HY := toHid (show y.frm = p.frm ∧ y.dst = p.dst from ⟨hp.2.1.symm, hp.2.2.1.symm⟩)
  clear hp hq b0
  by_cases h1 : p.frm = id
  · have h1' : (p.frm == id) = true := by simp [h1]
    have H := toHid (show touchE id y = true by unfold touchE; rw [HY.out.1, h1']; rfl)
    clear h1
    go_enter Tryz.func119, Tryz.ntmps119
    go_wp2_with fail
    go_ret
    exact ⟨ret_bool (by rw [H.out]), HB.out⟩
  · have h1' : (p.frm == id) = false := by simp [h1]
    have H := toHid (show touchE id y = (p.dst == id) by unfold touchE; rw [HY.out.1, HY.out.2, h1']; rfl)
    clear h1
    go_enter Tryz.func119, Tryz.ntmps119
    go_wp2_with fail
    go_ret
    exact ⟨ret_bool (by rw [H.out]), HB.out⟩

set_option maxHeartbeats 4000000 in
set_option maxRecDepth 100000 in
theorem touch_index (id : Int) (Y : List AE) (a : Option Addr) (l c : Nat) (q : Nat) (w : World) (hY : EsAt w Y a l) (hqc : w.cell? ⟨q, 1, none⟩ = some (.int .i64 id)) (hql : q < w.heap.size) :
    Calls Tryz.prog 95 #[.slice a l c, .func (.func 119) #[] #[.pointer (some ⟨q, 0, none⟩)]] w fun e w' => e = .returned (.int .i64 (idxF (touchE id) 0 Y)) ∧ Below w.heap.size w w' := by
  obtain ⟨R, hR⟩ : ∃ R, R = idxF (touchE id) 0 Y := ⟨_, rfl⟩
  rw [← hR]
  obtain ⟨Q, ⟨hl, hmx, hat⟩, hq⟩ := hY
  have HL := toHid hl
  have HAT := toHid hat
  have HQ := toHid hq
  have HYL : Hid (Y.length = l) := by rw [HL.out]; exact HQ.out.1.symm
  have HONE : Hid (∀ W p y, Below w.heap.size w W → y ∈ Y → EdIn w p y → Calls Tryz.prog 119 #[.agg #[.int .i64 p.id, .int .i64 p.frm, .int .i64 p.dst, .string p.typ, .slice p.pa p.pl p.pc], .pointer (some ⟨q, 0, none⟩)] W fun e w' => e = .returned (.bool (touchE id y)) ∧ Below W.heap.size W w') := fun W p y kW hm hqy => touch_one id p y q W (hqy.below kW) ((kW.cell (p := ⟨q, 1, none⟩) hql).trans hqc)
  have H3 := toHid (show R = idxF (touchE id) 0 (Y.drop 0) from hR)
  clear hR hl hat hq hqc hql
  go_enter Tryz.func95, Tryz.ntmps95
  go_wp2_with fail
  go_loopg [8] l (fun g s8 wr => ∃ i : Nat, i ≤ l ∧ l - i ≤ g ∧ s8 = .int .i64 i ∧ Below w.heap.size w wr ∧ R = idxF (touchE id) i (Y.drop i))
  case atStart => exact ⟨0, Nat.zero_le _, by omega, rfl, Below.refl _ _, H3.out⟩
  case round =>
    clear H3
    obtain ⟨i, hi, hg, rfl, hbw, hfe⟩ := hrel
    have HFE := toHid hfe
    clear hfe
    by_cases hlt : i < l
    · obtain ⟨b, off, ha, hb, hc⟩ := HAT.out (by omega)
      subst ha
      obtain ⟨p, hq, _⟩ := drop_get (L := Q) (i := i) (by have := HL.out; omega)
      obtain ⟨y, hy, hqy⟩ := HQ.out.left hq
      obtain ⟨hsz, c0, c1, c2, c3, c4⟩ := hc i p hq
      have qq : ∀ o, wr.cell? ⟨b, o, none⟩ = w.cell? ⟨b, o, none⟩ := fun o => hbw.cell (p := ⟨b, o, none⟩) hb
      have d0 := (qq _).trans c0
      have d1 := (qq _).trans c1
      have d2 := (qq _).trans c2
      have d3 := (qq _).trans c3
      have d4 := (qq _).trans c4
      have hdy : Y.drop i = y :: Y.drop (i + 1) := by
        obtain ⟨z, hz, hd⟩ := drop_get (L := Y) (i := i) (by have := HYL.out; omega)
        rw [hy] at hz
        injection hz with hz
        rw [hz]
        exact hd
      have H4 := toHid (show R = if touchE id y = true then (i : Int) else idxF (touchE id) (i + 1) (Y.drop (i + 1)) by rw [HFE.out, hdy]; rfl)
      have HC := toHid (HONE.out wr p y hbw (List.mem_of_getElem? hy) hqy)
      clear hc hq hy hqy c0 c1 c2 c3 c4 qq hdy HFE
      have hil : (i : Int) < l := by omega
      go_wp2_with fail
      refine HC.out.mono ?_
      rintro e w2 ⟨rfl, k2⟩
      have hb2 := hbw.trans (k2.mono hbw.size)
      clear k2 d0 d1 d2 d3 d4
      cases hs : touchE id y with
      | true =>
        have H5 := toHid (show R = (i : Int) by rw [H4.out, if_pos hs])
        clear H4 hs
        go_wp2_with fail
        go_ret
        exact ⟨ret_int (by rw [H5.out]), hb2⟩
      | false =>
        have H5 := toHid (show R = idxF (touchE id) (i + 1) (Y.drop (i + 1)) by rw [H4.out, if_neg (by rw [hs]; decide)])
        clear H4 hs
        go_wp2_with fail
        go_roundg (l - (i + 1))
        case measure => omega
        case rel => exact ⟨i + 1, by omega, by omega, by go_num, hb2, H5.out⟩
    · have H3 := toHid (show R = -1 by rw [HFE.out, List.drop_eq_nil_of_le (by have := HYL.out; omega)]; rfl)
      clear HFE
      go_wp2_with fail
      go_ret
      exact ⟨ret_int (by rw [H3.out]), hbw⟩

set_option maxHeartbeats 2000000 in
theorem touch_has (id : Int) (Y : List AE) (a : Option Addr) (l c : Nat) (q : Nat) (w : World) (hY : EsAt w Y a l) (hqc : w.cell? ⟨q, 1, none⟩ = some (.int .i64 id)) (hql : q < w.heap.size) :
    Calls Tryz.prog 54 #[.slice a l c, .func (.func 119) #[] #[.pointer (some ⟨q, 0, none⟩)]] w fun e w' => e = .returned (.bool (Y.any (touchE id))) ∧ Below w.heap.size w w' := by
  have HC := toHid (touch_index id Y a l c q w hY hqc hql)
  have HI := toHid (idxF_any (touchE id) Y 0)
  clear hY hqc hql
  obtain ⟨z, hz⟩ : ∃ z, z = idxF (touchE id) 0 Y := ⟨_, rfl⟩
  obtain ⟨R, hR⟩ : ∃ R, R = Y.any (touchE id) := ⟨_, rfl⟩
  rw [← hz] at HC HI
  rw [← hR] at HI ⊢
  clear hz hR
  go_enter Tryz.func54, Tryz.ntmps54
  go_wp2_with fail
  refine HC.out.mono ?_
  rintro e w1 ⟨rfl, k1⟩
  rcases HI.out with ⟨h1, h2⟩ | ⟨h1, h2⟩
  · have h3 : z ≥ 0 := h2
    have H1 := toHid h1
    clear h1 h2
    go_wp2_with fail
    go_ret
    exact ⟨ret_bool (by rw [H1.out]), k1⟩
  · have h3 : ¬ z ≥ 0 := by omega
    have H1 := toHid h1
    clear h1 h2
    go_wp2_with fail
    go_ret
    exact ⟨ret_bool (by rw [H1.out]; exact decide_eq_false (by omega)), k1⟩

def dropNE (S : WS) (id : Int) : Int := if id ∈ S.N.map AN.id then (if S.E.any (touchE id) = true then 8 else 0) else 5

set_option maxHeartbeats 8000000 in
set_option maxRecDepth 100000 in
theorem dropNode_any (O : Nat → Prop) (b : Nat) (S : WS) (o : Om) (w : World) (hW : WorkIn O w b S) (h60 : S.N.length ≤ 60) (hri : Rise (S.N.map AN.id)) :
    Calls Tryz.prog 68 #[.pointer (some ⟨b, 0, none⟩), o.val] w fun e w' => ActEnd O w w' b ⟨S.N.filter (fun x => x.id != o.id), S.E, S.next, S.made⟩ (dropNE S o.id) e := by
  obtain ⟨k, id, frm, dst, name, vk, vn, vs, va, vl, vc, la, ll, lc, pa, pl, pc⟩ := o
  simp only [Om.val]
  have HW := toHid hW
  have HRI := toHid hri
  clear hW hri
  obtain ⟨ez, hEZ⟩ : ∃ z, z = dropNE S id := ⟨_, rfl⟩
  rw [← hEZ]
  have HEZ := toHid hEZ
  clear hEZ
  have b0 : Below w.heap.size w (w.alloc (.cells #[.int .i64 k, .int .i64 id, .int .i64 frm, .int .i64 dst, .string name, .int .i64 vk, .int .i64 vn, .string vs, .slice va vl vc, .slice la ll lc, .slice pa pl pc] 65)) := (Below.refl _ _).alloc (Nat.le_refl _) _
  have q0 := alloc_new w (.cells #[.int .i64 k, .int .i64 id, .int .i64 frm, .int .i64 dst, .string name, .int .i64 vk, .int .i64 vn, .string vs, .slice va vl vc, .slice la ll lc, .slice pa pl pc] 65)
  have z0 : (w.alloc (.cells #[.int .i64 k, .int .i64 id, .int .i64 frm, .int .i64 dst, .string name, .int .i64 vk, .int .i64 vn, .string vs, .slice va vl vc, .slice la ll lc, .slice pa pl pc] 65)).heap.size = w.heap.size + 1 := by simp
  have HB0 := toHid b0
  have HQ := toHid q0
  have HZ := toHid z0
  clear b0 q0 z0
  go_enter Tryz.func68, Tryz.ntmps68
  go_upto_region 1 with fail
  generalize w.alloc (.cells #[.int .i64 k, .int .i64 id, .int .i64 frm, .int .i64 dst, .string name, .int .i64 vk, .int .i64 vn, .string vs, .slice va vl vc, .slice la ll lc, .slice pa pl pc] 65) = W at HB0 HQ HZ ⊢
  obtain ⟨na, nc, ea, ec, ma, mc, PN, PE, PM, hw⟩ := HW.out.below HB0.out
  obtain ⟨_, L0, hl0, hp0⟩ := hw.ns.reads2
  have hids := pair_ids hp0
  obtain ⟨el, hel⟩ : ∃ z, z = S.N.length := ⟨_, rfl⟩
  have hblk := hw.blk
  rw [← hel] at hblk hl0 h60
  have c1 := cell_of hblk 0
  have y1 := cell_of HQ.out 1
  simp at c1 y1
  have hbl : b < W.heap.size := hw.lt b hw.ob
  have D0 : Below W.heap.size W W.drew := (Below.refl _ _).drew
  have HF : Hid (∀ V, Below W.heap.size W V → Calls Tryz.prog 118 #[.slice na el nc, .int .i64 id] V fun e w' => FoundEnd (S.N.map AN.id) id e ∧ Below V.heap.size V w') := fun V kV => by
    have := node_find L0 na el nc id V (hl0.below kV) h60 (by rw [hids]; exact HRI.out)
    rw [hids] at this
    exact this
  have HS : Hid (∀ W' : World, Below W.heap.size W W' → W'.cell? ⟨b, 0, none⟩ = some (.slice na el nc) ∧ W'.cell? ⟨w.heap.size, 1, none⟩ = some (.int .i64 id)) := fun W' kk =>
    ⟨(kk.cell (p := ⟨b, 0, none⟩) hbl).trans c1, (kk.cell (p := ⟨w.heap.size, 1, none⟩) (by rw [HZ.out]; show w.heap.size < _; omega)).trans y1⟩
  have HEL := toHid hel
  clear hw hl0 hp0 hids hblk hel
  go_cut [5, 6] (fun s5 s6 wx => ∃ (i : Nat) (f : Bool), s5 = .int .i64 i ∧ s6 = .bool f ∧ (f = true → (S.N.map AN.id)[i]? = some id) ∧ (f = false → id ∉ S.N.map AN.id) ∧ Below W.heap.size W wx)
  case first =>
    go_region_held3 (fun W' => W'.cell? ⟨b, 0, none⟩ = some (.slice na el nc) ∧ W'.cell? ⟨w.heap.size, 1, none⟩ = some (.int .i64 id))
      (first
        | with_reducible exact HS.out _ k1
        | with_reducible exact HS.out _ D0
        | exact ⟨c1, y1⟩
        | go_keep)
      (first
        | (go_at_call 118; refine (HF.out _ D0).mono ?_; rintro e u1 ⟨⟨i, f, rfl, hy, hn⟩, h1⟩; have k1 : Below W.heap.size W u1 := D0.trans h1; have HYN := toHid (And.intro hy hn); clear hy hn))
    all_goals
      go_wp2_with fail
      go_meet
      exact ⟨i, f, rfl, rfl, HYN.out.1, HYN.out.2, k1⟩
  case rest =>
    obtain ⟨i, f, rfl, rfl, hy, hn, kc⟩ := hcut
    have k0 := HB0.out.trans (kc.mono HB0.out.size)
    have HK0 := toHid k0
    have HQC := toHid ((kc.block w.heap.size (by rw [HZ.out]; omega)).trans HQ.out)
    have HYN := toHid (And.intro hy hn)
    clear hy hn k0 kc c1 y1 D0 HF HS
    cases f
    · have HNN := toHid (HYN.out.2 rfl)
      clear HYN
      go_wp2_with fail
      go_ret
      have hE : ez = 5 := by rw [HEZ.out, dropNE, if_neg HNN.out]
      exact ⟨by rw [hE]; rfl, Rest.of_below HK0.out, fun h => by rw [hE] at h; cases h⟩
    · have hid := HYN.out.1 rfl
      have HMEM := toHid (List.mem_of_getElem? hid)
      have hil : i < S.N.length := by have := (List.getElem?_eq_some_iff.1 hid).1; simpa using this
      obtain ⟨x, hx⟩ : ∃ x, S.N[i]? = some x := ⟨S.N[i], List.getElem?_eq_getElem hil⟩
      have hxid : x.id = id := by
        rw [List.getElem?_map, hx] at hid
        exact Option.some.inj hid
      have hfil : S.N.eraseIdx i = S.N.filter (fun y => y.id != id) := by
        rw [erase_filter AN.id S.N i x hx (rise_nodup HRI.out), hxid]
      have HFIL := toHid hfil
      obtain ⟨r, hr⟩ : ∃ r, S.N.length = i + 1 + r := ⟨S.N.length - (i + 1), by omega⟩
      have HR := toHid hr
      have hsum : (i : Int) + 1 ≤ 9223372036854775807 := by have := HEL.out; omega
      have h1000 : i + 1 + r ≤ 1000 := by have := HEL.out; omega
      clear hid hil hx hxid hfil hr HYN
      obtain ⟨em, hem⟩ : ∃ z, z = S.E.length := ⟨_, rfl⟩
      obtain ⟨R, hR⟩ : ∃ z, z = S.E.any (touchE id) := ⟨_, rfl⟩
      obtain ⟨na3, nc3, ea3, ec3, ma3, mc3, PN3, PE3, PM3, hw3⟩ := HW.out.below HK0.out
      have hblk3 := hw3.blk
      rw [← hem] at hblk3
      have c3 := cell_of hblk3 1
      simp at c3
      have hes3 := hw3.es.reads2.2
      have HHAS : Hid (Calls Tryz.prog 54 #[.slice ea3 em ec3, .func (.func 119) #[] #[.pointer (some ⟨w.heap.size, 0, none⟩)]] wc fun e w' => e = .returned (.bool R) ∧ Below wc.heap.size wc w') := by
        rw [hem, hR]
        exact touch_has id S.E ea3 S.E.length ec3 w.heap.size wc hes3 (cell_of HQC.out 1) (lt_of_some HQC.out)
      have HRR := toHid hR
      clear hw3 hblk3 hes3 hem hR
      go_wp2_with fail
      refine HHAS.out.mono ?_
      rintro e w5 ⟨rfl, k5⟩
      have HK5 := toHid (below3 HK0.out HK0.out.size k5)
      clear k5 c3 HHAS
      cases R
      · have hE : ez = 0 := by rw [HEZ.out, dropNE, if_pos HMEM.out, if_neg (by rw [← HRR.out]; decide)]
        have HE0 := toHid hE
        clear hE
        obtain ⟨na, nc, ea, ec, ma, mc, PN, PE, PM, hw⟩ := HW.out.below HK5.out
        obtain ⟨hob, L, hrow, hpair⟩ := hw.ns
        have hLl : L.length = i + 1 + r := by rw [hpair.1, HR.out]
        obtain ⟨g, cap, hv, _, hg⟩ := hrow.form (by omega)
        injection hv with hv1 hv2 hv3
        subst hv3
        have hblk := hw.blk
        rw [hLl] at hrow
        rw [HR.out] at hrow
        rw [HR.out, hv1] at hblk
        rw [hv1] at hrow
        have HDEL := toHid (deleteN_any L g nc i r w5 hLl hrow h1000)
        have hgb : g ≠ b := (hw.pn g (hob g (by rw [hv1]; rfl))).2
        have hbl5 : b < w5.heap.size := hw.lt b hw.ob
        have c1 := cell_of hblk 0
        simp at c1
        have HBLK := toHid hblk
        have HWA := toHid hw
        have HPAIR := toHid hpair
        have HV1 := toHid hv1
        have HGB := toHid hgb
        clear hw hob hrow hpair hLl hv1 hv2 hblk hgb
        go_wp2_with fail
        refine HDEL.out.mono ?_
        rintro e u ⟨rfl, hown, hrest⟩
        have hbu := (hrest.block b hbl5 (fun e => HGB.out e.symm)).trans HBLK.out
        have d1 := cell_of hbu 0
        have f1 := free_of hbu 0
        simp at d1
        have hbl2 : b < u.heap.size := Nat.lt_of_lt_of_le hbl5 hrest.size
        have HOWN := toHid hown
        have HREST := toHid hrest
        clear hown hrest hbu HDEL
        go_wp2_with fail
        go_ret
        have hst := StepEnd.behind HW.out HK5.out (HWA.out.eraseN HV1.out HPAIR.out (by rw [HR.out]; omega) (by rw [HR.out]; omega) HOWN.out HREST.out)
        rw [HFIL.out] at hst
        exact ⟨by rw [HE0.out]; rfl, hst.2, fun _ => hst⟩
      · have hE : ez = 8 := by rw [HEZ.out, dropNE, if_pos HMEM.out, if_pos HRR.out.symm]
        have HE0 := toHid hE
        clear hE
        go_wp2_with fail
        go_ret
        exact ⟨by rw [HE0.out]; rfl, Rest.of_below HK5.out, fun h => by rw [HE0.out] at h; cases h⟩

set_option maxHeartbeats 4000000 in
set_option maxRecDepth 100000 in
theorem do_range (kk : Int) (hk : kk < 1 ∨ 8 ≤ kk) (O : Nat → Prop) (b : Nat) (S' : WS) (id frm dst : Int) (name : ByteArray) (vk vn : Int) (vs : ByteArray) (va : Option Addr) (vl vc : Nat) (la : Option Addr) (ll lc : Nat) (pa : Option Addr) (pl pc : Nat) (w : World) :
    Calls Tryz.prog 32 #[.pointer (some ⟨b, 0, none⟩), .agg #[.int .i64 kk, .int .i64 id, .int .i64 frm, .int .i64 dst, .string name, .int .i64 vk, .int .i64 vn, .string vs, .slice va vl vc, .slice la ll lc, .slice pa pl pc]] w fun e w' => ActEnd O w w' b S' 9 e := by
  rcases hk with hk | hk
  · go_enter Tryz.func32, Tryz.ntmps32
    go_wp2_with fail
    go_ret
    exact ⟨rfl, Rest.of_below (((Below.refl _ _).alloc (Nat.le_refl _) _).alloc (by simp) _), fun h => by cases h⟩
  · have h1 : ¬ kk < 1 := by omega
    go_enter Tryz.func32, Tryz.ntmps32
    go_wp2_with fail
    go_ret
    exact ⟨rfl, Rest.of_below (((Below.refl _ _).alloc (Nat.le_refl _) _).alloc (by simp) _), fun h => by cases h⟩

/-- What an operation holds: itself, its labels, its properties, its value's list, and what is wrong with each. -/
structure OpD where
  o : Om
  labs : List ByteArray
  P : List Pr
  X : List AP
  Lv : List T
  eL : Int
  eP : Int
  eC : Int

/-- The operation with the numbers that are meant. -/
def OpD.at (d : OpD) (made : List Int) : Om := ⟨d.o.k, meantI made d.o.id, meantI made d.o.frm, meantI made d.o.dst, d.o.name, d.o.vk, d.o.vn, d.o.vs, d.o.va, d.o.vl, d.o.vc, d.o.la, d.o.ll, d.o.lc, d.o.pa, d.o.pl, d.o.pc⟩

def OpD.ap (d : OpD) : AP := ⟨d.o.name, .node d.o.vk d.o.vn d.o.vs d.Lv⟩

/-- The work behind it. -/
def stepS (S : WS) (d : OpD) : WS :=
  if d.o.k = 1 then ⟨S.N ++ [⟨S.next, d.labs, d.X⟩], S.E, S.next + 1, S.made ++ [S.next]⟩
  else if d.o.k = 2 then ⟨S.N, S.E ++ [⟨S.next, (d.at S.made).frm, (d.at S.made).dst, d.o.name, d.X⟩], S.next + 1, S.made ++ [S.next]⟩
  else if d.o.k = 3 then ⟨S.N.filter (fun x => x.id != (d.at S.made).id), S.E, S.next, S.made⟩
  else if d.o.k = 4 then ⟨S.N, S.E.filter (fun x => x.id != (d.at S.made).id), S.next, S.made⟩
  else if d.o.k = 5 then setS S (d.at S.made).id d.ap (d.o.vk != 0)
  else ⟨labN S.N (d.at S.made).id d.o.name (d.o.k == 6), S.E, S.next, S.made⟩

/-- What is wrong with it. -/
noncomputable def stepE (S : WS) (d : OpD) : Int :=
  if d.o.k = 1 then addNE S (if d.eL = 0 then d.eP else d.eL)
  else if d.o.k = 2 then addEE S (d.at S.made) d.eP
  else if d.o.k = 3 then dropNE S (d.at S.made).id
  else if d.o.k = 4 then dropEE S (d.at S.made).id
  else if d.o.k = 5 then setEr S (d.at S.made).id d.ap (d.o.vk != 0) d.eC
  else if d.o.k = 6 ∨ d.o.k = 7 then labEr S.N (d.at S.made).id d.o.name (d.o.k == 6)
  else 9

/-- What is asked of an operation that lies in memory at w. -/
structure OpIn (w : World) (d : OpD) : Prop where
  id : -9223372036854775808 ≤ d.o.id
  frm : -9223372036854775808 ≤ d.o.frm
  dst : -9223372036854775808 ≤ d.o.dst
  nms : d.o.name.size ≤ 9223372036854775807
  vss : d.o.vs.size ≤ 9223372036854775807
  labels : ∀ W, Below w.heap.size w W → Calls Tryz.prog 109 #[.slice d.o.la d.o.ll d.o.lc] W fun e w' => e = .returned (.int .i64 d.eL) ∧ Below W.heap.size W w'
  props : ∀ W, Below w.heap.size w W → Calls Tryz.prog 110 #[.slice d.o.pa d.o.pl d.o.pc] W fun e w' => e = .returned (.int .i64 d.eP) ∧ Below W.heap.size W w'
  node : d.eL = 0 → d.eP = 0 → ∀ n, AN.ok ⟨n, d.labs, d.X⟩ ∧ ∀ W, Below w.heap.size w W → NdIn W ⟨n, d.labs, d.o.la, d.o.ll, d.o.lc, d.P, d.o.pa, d.o.pl, d.o.pc⟩ ⟨n, d.labs, d.X⟩
  edge : d.eP = 0 → ∀ n f t, AE.ok ⟨n, f, t, d.o.name, d.X⟩ ∧ ∀ W, Below w.heap.size w W → EdIn W ⟨n, f, t, d.o.name, d.P, d.o.pa, d.o.pl, d.o.pc⟩ ⟨n, f, t, d.o.name, d.X⟩
  check : ∀ W, Below w.heap.size w W → Calls Tryz.prog 122 #[.agg #[.int .i64 d.o.vk, .int .i64 d.o.vn, .string d.o.vs, .slice d.o.va d.o.vl d.o.vc]] W fun e w' => e = .returned (.int .i64 d.eC) ∧ Below W.heap.size W w'
  fresh : d.eC = 0 → ∀ W, Below w.heap.size w W → Calls Tryz.prog 123 #[.agg #[.int .i64 d.o.vk, .int .i64 d.o.vn, .string d.o.vs, .slice d.o.va d.o.vl d.o.vc]] W fun e w' => ValEnd W w' d.o.vk d.o.vn d.o.vs d.Lv d.o.vl e ∧ Below W.heap.size W w'

/-- What the acts ask of the work. -/
structure Fit (S : WS) : Prop where
  n60 : S.N.length ≤ 60
  e60 : S.E.length ≤ 60
  nri : Rise (S.N.map AN.id)
  eri : Rise (S.E.map AE.id)
  labs : ∀ X ∈ S.N, RiseS X.labs ∧ X.labs.length ≤ 60
  nps : ∀ X ∈ S.N, RiseS (X.props.map AP.name) ∧ X.props.length ≤ 60
  eps : ∀ X ∈ S.E, RiseS (X.props.map AP.name) ∧ X.props.length ≤ 60
  made : S.made.length ≤ 1000
  next : 0 ≤ S.next

theorem do_any (d : OpD) (O : Nat → Prop) (b : Nat) (S : WS) (w W : World) (hd : OpIn w d) (hF : Fit S) (hW : WorkIn O W b S) (hO : ∀ j, O j → w.heap.size ≤ j) (hk : Below w.heap.size w W) :
    Calls Tryz.prog 32 #[.pointer (some ⟨b, 0, none⟩), .agg #[.int .i64 d.o.k, .int .i64 d.o.id, .int .i64 d.o.frm, .int .i64 d.o.dst, .string d.o.name, .int .i64 d.o.vk, .int .i64 d.o.vn, .string d.o.vs, .slice d.o.va d.o.vl d.o.vc, .slice d.o.la d.o.ll d.o.lc, .slice d.o.pa d.o.pl d.o.pc]] W fun e w' => ActEnd O W w' b (stepS S d) (stepE S d) e := by
  have hB := hk.size
  by_cases h1 : d.o.k = 1
  · rw [stepS, stepE, if_pos h1, if_pos h1]
    refine do_of d.o.k _ (.inl ⟨h1, rfl⟩) O b S _ d.o.id d.o.frm d.o.dst d.o.name d.o.vk d.o.vn d.o.vs d.o.va d.o.vl d.o.vc d.o.la d.o.ll d.o.lc d.o.pa d.o.pl d.o.pc _ W hW hF.made hd.id hd.frm hd.dst fun V kV => ?_
    exact addNode_any O b S (d.at S.made) d.labs d.P d.X d.eL d.eP _ w.heap.size V (hW.below kV) (Nat.le_trans hB kV.size) hO hF.made hF.next (fun U kU => hd.labels U ((hk.trans (kV.mono hB)).trans kU)) (fun U kU => hd.props U ((hk.trans (kV.mono hB)).trans kU)) rfl (fun h0 => by
      have hl : d.eL = 0 := by
        by_cases hl : d.eL = 0
        · exact hl
        · rw [if_neg hl] at h0; exact absurd h0 hl
      rw [if_pos hl] at h0
      exact ⟨(hd.node hl h0 S.next).1, fun U kU => (hd.node hl h0 S.next).2 U ((hk.trans (kV.mono hB)).trans kU)⟩)
  · by_cases h2 : d.o.k = 2
    · rw [stepS, stepE, if_neg h1, if_neg h1, if_pos h2, if_pos h2]
      refine do_of d.o.k _ (.inr (.inl ⟨h2, rfl⟩)) O b S _ d.o.id d.o.frm d.o.dst d.o.name d.o.vk d.o.vn d.o.vs d.o.va d.o.vl d.o.vc d.o.la d.o.ll d.o.lc d.o.pa d.o.pl d.o.pc _ W hW hF.made hd.id hd.frm hd.dst fun V kV => ?_
      exact addEdge_any O b S (d.at S.made) d.P d.X d.eP w.heap.size V (hW.below kV) (Nat.le_trans hB kV.size) hO hF.made hF.next hF.n60 hF.nri hd.nms (fun U kU => hd.props U ((hk.trans (kV.mono hB)).trans kU)) (fun h0 => ⟨(hd.edge h0 _ _ _).1, fun U kU => (hd.edge h0 _ _ _).2 U ((hk.trans (kV.mono hB)).trans kU)⟩)
    · by_cases h3 : d.o.k = 3
      · rw [stepS, stepE, if_neg h1, if_neg h1, if_neg h2, if_neg h2, if_pos h3, if_pos h3]
        refine do_of d.o.k _ (.inr (.inr (.inl ⟨h3, rfl⟩))) O b S _ d.o.id d.o.frm d.o.dst d.o.name d.o.vk d.o.vn d.o.vs d.o.va d.o.vl d.o.vc d.o.la d.o.ll d.o.lc d.o.pa d.o.pl d.o.pc _ W hW hF.made hd.id hd.frm hd.dst fun V kV => ?_
        exact dropNode_any O b S (d.at S.made) V (hW.below kV) hF.n60 hF.nri
      · by_cases h4 : d.o.k = 4
        · rw [stepS, stepE, if_neg h1, if_neg h1, if_neg h2, if_neg h2, if_neg h3, if_neg h3, if_pos h4, if_pos h4]
          refine do_of d.o.k _ (.inr (.inr (.inr (.inl ⟨h4, rfl⟩)))) O b S _ d.o.id d.o.frm d.o.dst d.o.name d.o.vk d.o.vn d.o.vs d.o.va d.o.vl d.o.vc d.o.la d.o.ll d.o.lc d.o.pa d.o.pl d.o.pc _ W hW hF.made hd.id hd.frm hd.dst fun V kV => ?_
          exact dropEdge_any O b S (d.at S.made) V (hW.below kV) hF.e60 hF.eri
        · by_cases h5 : d.o.k = 5
          · rw [stepS, stepE, if_neg h1, if_neg h1, if_neg h2, if_neg h2, if_neg h3, if_neg h3, if_neg h4, if_neg h4, if_pos h5, if_pos h5]
            refine do_of d.o.k _ (.inr (.inr (.inr (.inr (.inl ⟨h5, rfl⟩))))) O b S _ d.o.id d.o.frm d.o.dst d.o.name d.o.vk d.o.vn d.o.vs d.o.va d.o.vl d.o.vc d.o.la d.o.ll d.o.lc d.o.pa d.o.pl d.o.pc _ W hW hF.made hd.id hd.frm hd.dst fun V kV => ?_
            exact set_any O b S (d.at S.made) d.Lv d.eC V (hW.below kV) hF.n60 hF.nri hF.e60 hF.eri hF.nps hF.eps ⟨hd.nms, hd.vss⟩ (fun U => name_any d.o.name U hd.nms) (fun U kU => hd.check U ((hk.trans (kV.mono hB)).trans (kU.mono (Nat.le_trans hB kV.size)))) (fun h0 U kU => hd.fresh h0 U ((hk.trans (kV.mono hB)).trans (kU.mono (Nat.le_trans hB kV.size))))
          · by_cases h6 : d.o.k = 6
            · rw [stepS, stepE, if_neg h1, if_neg h1, if_neg h2, if_neg h2, if_neg h3, if_neg h3, if_neg h4, if_neg h4, if_neg h5, if_neg h5, if_pos (.inl h6)]
              refine do_of d.o.k _ (.inr (.inr (.inr (.inr (.inr (.inl ⟨h6, rfl⟩)))))) O b S _ d.o.id d.o.frm d.o.dst d.o.name d.o.vk d.o.vn d.o.vs d.o.va d.o.vl d.o.vc d.o.la d.o.ll d.o.lc d.o.pa d.o.pl d.o.pc _ W hW hF.made hd.id hd.frm hd.dst fun V kV => ?_
              have e6 : (d.o.k == 6) = true := by simp [h6]
              rw [e6]
              exact tag_any O b (d.at S.made) V S _ _ (hW.below kV) fun U kU => label_any O b S (d.at S.made) true U ((hW.below kV).below kU) hF.n60 hF.nri hF.labs hd.nms (fun Z => name_any d.o.name Z hd.nms)
            · by_cases h7 : d.o.k = 7
              · rw [stepS, stepE, if_neg h1, if_neg h1, if_neg h2, if_neg h2, if_neg h3, if_neg h3, if_neg h4, if_neg h4, if_neg h5, if_neg h5, if_pos (.inr h7)]
                refine do_of d.o.k _ (.inr (.inr (.inr (.inr (.inr (.inr ⟨h7, rfl⟩)))))) O b S _ d.o.id d.o.frm d.o.dst d.o.name d.o.vk d.o.vn d.o.vs d.o.va d.o.vl d.o.vc d.o.la d.o.ll d.o.lc d.o.pa d.o.pl d.o.pc _ W hW hF.made hd.id hd.frm hd.dst fun V kV => ?_
                have e6 : (d.o.k == 6) = false := by simp [h7]
                rw [e6]
                exact untag_any O b (d.at S.made) V S _ _ (hW.below kV) fun U kU => label_any O b S (d.at S.made) false U ((hW.below kV).below kU) hF.n60 hF.nri hF.labs hd.nms (fun Z => name_any d.o.name Z hd.nms)
              · rw [stepE, if_neg h1, if_neg h2, if_neg h3, if_neg h4, if_neg h5, if_neg (by omega)]
                exact do_range d.o.k (by omega) O b _ d.o.id d.o.frm d.o.dst d.o.name d.o.vk d.o.vn d.o.vs d.o.va d.o.vl d.o.vc d.o.la d.o.ll d.o.lc d.o.pa d.o.pl d.o.pc W
end Go.Proofs.YtdlmlpddkfnfmaaGreatDoor
