/-
  What is proved here: what the texts HAddE, GProp, GProp2, GKnows, GDrawn1, GDrawn, GIsName, GLawNames, GNodeAt, GRefG, GLawCheck, GLabelled prove, in one text.
-/
import Derived.Test.YtaehecajihgggaaDoorQMAN
import Derived.Test.YtaehecajihgggaaDoorQMAM
import Derived.Test.YtaehecajihgggaaDoorQMAE
import Derived.Test.YtaehecajihgggaaDoorQMAC
import Derived.Test.YtaehecajihgggaaDoorQMAB
import Derived.Test.YtaehecajihgggaaDoorQMAD
namespace Go.Proofs.YtaehecajihgggaaDoor
open Go.RowKit
set_option linter.unusedVariables false

def hasA (N : List AN) (t : Int) : Bool := decide (t ∈ N.map AN.id)

theorem pair_ids {w : World} {L : List Nd} {N : List AN} (h : Pair2 (NdIn w) L N) : L.map Nd.id = N.map AN.id := by
  apply List.ext_getElem?
  intro i
  rw [List.getElem?_map, List.getElem?_map]
  cases hx : L[i]? with
  | none =>
    have : N[i]? = none := by
      rw [List.getElem?_eq_none_iff] at hx ⊢
      rw [← h.1]
      exact hx
    rw [this]
    rfl
  | some x =>
    obtain ⟨y, hy, hxy⟩ := h.left hx
    rw [hy]
    show some x.id = some y.id
    rw [hxy.1]

/-- Somewhere, or nowhere. -/
def PtrEnd (has : Bool) (e : Ending) : Prop := (has = false ∧ e = .returned (.pointer none)) ∨ (has = true ∧ ∃ g o, e = .returned (.pointer (some ⟨g, o, none⟩)))

theorem wnode_in (O : Nat → Prop) (b : Nat) (S : WS) (t : Int) (w : World) (h : WorkIn O w b S) (h60 : S.N.length ≤ 60) (hr : Rise (S.N.map AN.id)) :
    Calls Tryd.prog 42 #[.pointer (some ⟨b, 0, none⟩), .int .i64 t] w fun e w' => PtrEnd (hasA S.N t) e ∧ Below w.heap.size w w' := by
  obtain ⟨na, nc, ea, ec, ma, mc, PN, PE, PM, hw⟩ := h
  obtain ⟨_, L, hl, hp⟩ := hw.ns.reads2
  have hids := pair_ids hp
  refine (wnode_any L b na S.N.length nc _ _ S.next t w hw.blk hl h60 (by rw [hids]; exact hr)).mono ?_
  rintro e w' ⟨hA, k⟩
  refine ⟨?_, k⟩
  have he : hasA S.N t = hasN L t := by unfold hasA hasN; rw [hids]
  rw [he]
  rcases hA with ⟨h1, h2⟩ | ⟨h1, i, g, o, x, _, h2, _⟩
  · exact .inl ⟨h1, h2⟩
  · exact .inr ⟨h1, g, _, h2⟩

def addEE (S : WS) (o : Om) (eP : Int) : Int := if hasA S.N o.frm = false ∨ hasA S.N o.dst = false then 5 else if nm o.name = false then 6 else if eP ≠ 0 then eP else if 60 ≤ S.E.length ∨ 1099511627776 ≤ S.next then 10 else 0

set_option maxHeartbeats 16000000 in
set_option maxRecDepth 100000 in
theorem addEdge_any (O : Nat → Prop) (b : Nat) (S : WS) (o : Om) (P : List Pr) (X : List AP) (eP : Int) (B : Nat) (w : World)
    (hW : WorkIn O w b S) (hB : B ≤ w.heap.size) (hO : ∀ i, O i → B ≤ i) (hm : S.made.length ≤ 1000) (hn0 : 0 ≤ S.next) (h60 : S.N.length ≤ 60) (hri : Rise (S.N.map AN.id)) (hns : o.name.size ≤ 9223372036854775807)
    (hP : ∀ W, Below B w W → Calls Tryd.prog 33 #[.slice o.pa o.pl o.pc] W fun e w' => e = .returned (.int .i64 eP) ∧ Below W.heap.size W w')
    (hX : eP = 0 → AE.ok ⟨S.next, o.frm, o.dst, o.name, X⟩ ∧ ∀ W, Below B w W → EdIn W ⟨S.next, o.frm, o.dst, o.name, P, o.pa, o.pl, o.pc⟩ ⟨S.next, o.frm, o.dst, o.name, X⟩) :
    Calls Tryd.prog 24 #[.pointer (some ⟨b, 0, none⟩), o.val] w fun e w' => ActEnd O w w' b ⟨S.N, S.E ++ [⟨S.next, o.frm, o.dst, o.name, X⟩], S.next + 1, S.made ++ [S.next]⟩ (addEE S o eP) e := by
  obtain ⟨k, id, frm, dst, name, vk, vn, vs, va, vl, vc, la, ll, lc, pa, pl, pc⟩ := o
  simp only [Om.val] at hP hX hns ⊢
  have HP := toHid hP
  have HX := toHid hX
  have HW := toHid hW
  have HO := toHid hO
  have HRI := toHid hri
  clear hP hX hW hO hri
  obtain ⟨er, hER⟩ : ∃ z, z = addEE S ⟨k, id, frm, dst, name, vk, vn, vs, va, vl, vc, la, ll, lc, pa, pl, pc⟩ eP := ⟨_, rfl⟩
  rw [← hER]
  have HER := toHid hER
  clear hER
  have b0 : Below w.heap.size w (w.alloc (.cells #[.int .i64 k, .int .i64 id, .int .i64 frm, .int .i64 dst, .string name, .int .i64 vk, .int .i64 vn, .string vs, .slice va vl vc, .slice la ll lc, .slice pa pl pc] 33)) := (Below.refl _ _).alloc (Nat.le_refl _) _
  have q0 := alloc_new w (.cells #[.int .i64 k, .int .i64 id, .int .i64 frm, .int .i64 dst, .string name, .int .i64 vk, .int .i64 vn, .string vs, .slice va vl vc, .slice la ll lc, .slice pa pl pc] 33)
  have z0 : (w.alloc (.cells #[.int .i64 k, .int .i64 id, .int .i64 frm, .int .i64 dst, .string name, .int .i64 vk, .int .i64 vn, .string vs, .slice va vl vc, .slice la ll lc, .slice pa pl pc] 33)).heap.size = w.heap.size + 1 := by simp
  have HB0 := toHid b0
  have HQ := toHid q0
  have HZ := toHid z0
  clear b0 q0 z0
  have HS : Hid (∀ (W W' : World), W.heap[w.heap.size]? = some (.cells #[.int .i64 k, .int .i64 id, .int .i64 frm, .int .i64 dst, .string name, .int .i64 vk, .int .i64 vn, .string vs, .slice va vl vc, .slice la ll lc, .slice pa pl pc] 33 (0, 0)) → Below W.heap.size W W' → W'.cell? ⟨w.heap.size, 2, none⟩ = some (.int .i64 frm) ∧ W'.cell? ⟨w.heap.size, 3, none⟩ = some (.int .i64 dst) ∧ W'.cell? ⟨w.heap.size, 4, none⟩ = some (.string name) ∧ W'.cell? ⟨w.heap.size, 10, none⟩ = some (.slice pa pl pc)) := by
    intro W W' hq kk
    have hlt : w.heap.size < W.heap.size := (Array.getElem?_eq_some_iff.1 hq).1
    have q : ∀ o, W'.cell? ⟨w.heap.size, o, none⟩ = _ := fun o => (kk.cell (p := ⟨w.heap.size, o, none⟩) hlt).trans (cell_of hq o)
    exact ⟨q 2, q 3, q 4, q 10⟩
  have HNODE : Hid (∀ t W, Below w.heap.size w W → Calls Tryd.prog 42 #[.pointer (some ⟨b, 0, none⟩), .int .i64 t] W fun e w' => PtrEnd (hasA S.N t) e ∧ Below W.heap.size W w') := fun t W kW => wnode_in O b S t W (HW.out.below kW) h60 HRI.out
  have HYtaehecajihgggaaDoor : Hid (∀ W, Calls Tryd.prog 35 #[.string name] W fun e w' => e = .returned (.bool (nm name)) ∧ Below W.heap.size W w') := fun W => name_any name W hns
  go_enter Tryd.func24, Tryd.ntmps24
  go_wp2_with fail
  refine (HNODE.out _ _ HB0.out).mono ?_
  generalize w.alloc (.cells #[.int .i64 k, .int .i64 id, .int .i64 frm, .int .i64 dst, .string name, .int .i64 vk, .int .i64 vn, .string vs, .slice va vl vc, .slice la ll lc, .slice pa pl pc] 33) = W at HB0 HQ HZ ⊢
  rintro e w1 ⟨hA, k1⟩
  have HK1 := toHid (HB0.out.trans (k1.mono HB0.out.size))
  have HQ1 := toHid ((k1.block w.heap.size (by rw [HZ.out]; omega)).trans HQ.out)
  have s1 : w.heap.size + 1 ≤ w1.heap.size := by have := k1.size; rw [HZ.out] at this; exact this
  obtain ⟨v2, v3, v4, v10⟩ := HS.out w1 w1 HQ1.out (Below.refl _ _)
  clear k1 HB0 HQ HZ
  rcases hA with ⟨h1, rfl⟩ | ⟨h1, g, go, rfl⟩
  · have H1 := toHid h1
    clear h1
    go_wp2_with fail
    go_ret
    have hE : er = 5 := by rw [HER.out, addEE, if_pos (.inl H1.out)]
    exact ⟨by rw [hE]; rfl, Rest.of_below HK1.out, fun h => by rw [hE] at h; cases h⟩
  have H1 := toHid h1
  clear h1
  go_wp2_with fail
  refine (HNODE.out _ _ HK1.out).mono ?_
  rintro e w2 ⟨hA, k2⟩
  have HK2 := toHid (HK1.out.trans (k2.mono HK1.out.size))
  have HQ2 := toHid ((k2.block w.heap.size (by omega)).trans HQ1.out)
  have s2 : w.heap.size + 1 ≤ w2.heap.size := Nat.le_trans s1 k2.size
  clear v2 v3 v4 v10 k2 HK1 HQ1 s1
  obtain ⟨v2, v3, v4, v10⟩ := HS.out w2 w2 HQ2.out (Below.refl _ _)
  rcases hA with ⟨h1, rfl⟩ | ⟨h1, g, go, rfl⟩
  · have H2 := toHid h1
    clear h1
    go_wp2_with fail
    go_ret
    have hE : er = 5 := by rw [HER.out, addEE, if_pos (.inr H2.out)]
    exact ⟨by rw [hE]; rfl, Rest.of_below HK2.out, fun h => by rw [hE] at h; cases h⟩
  have H2 := toHid h1
  clear h1
  go_wp2_with fail
  refine (HYtaehecajihgggaaDoor.out _).mono ?_
  rintro e w3 ⟨rfl, k3⟩
  have HK3 := toHid (HK2.out.trans (k3.mono HK2.out.size))
  have HQ3 := toHid ((k3.block w.heap.size (by omega)).trans HQ2.out)
  have s3 : w.heap.size + 1 ≤ w3.heap.size := Nat.le_trans s2 k3.size
  clear v2 v3 v4 v10 k3 HK2 HQ2 s2
  obtain ⟨v2, v3, v4, v10⟩ := HS.out w3 w3 HQ3.out (Below.refl _ _)
  have hno : ¬ (hasA S.N frm = false ∨ hasA S.N dst = false) := by
    rintro (h | h)
    · rw [H1.out] at h; cases h
    · rw [H2.out] at h; cases h
  have HNO := toHid hno
  clear hno
  cases hnm : nm name with
  | false =>
    go_wp2_with fail
    go_ret
    have hE : er = 6 := by rw [HER.out, addEE, if_neg HNO.out, if_pos hnm]
    exact ⟨by rw [hE]; rfl, Rest.of_below HK3.out, fun h => by rw [hE] at h; cases h⟩
  | true =>
  have HNM := toHid hnm
  go_wp2_with fail
  refine (HP.out _ (HK3.out.mono hB)).mono ?_
  rintro e w4 ⟨rfl, k4⟩
  have HK4 := toHid (HK3.out.trans (k4.mono HK3.out.size))
  have HQ4 := toHid ((k4.block w.heap.size (by omega)).trans HQ3.out)
  have s4 : w.heap.size + 1 ≤ w4.heap.size := Nat.le_trans s3 k4.size
  clear v2 v3 v4 v10 k4 HK3 HQ3 s3
  obtain ⟨v2, v3, v4, v10⟩ := HS.out w4 w4 HQ4.out (Below.refl _ _)
  have HWC := toHid (HW.out.below HK4.out)
  by_cases hz : eP = 0
  · subst hz
    have HX0 := toHid (HX.out rfl)
    obtain ⟨na, nc, ea, ec, ma, mc, PN, PE, PM, hw⟩ := HWC.out
    obtain ⟨el, hel⟩ : ∃ z, z = S.E.length := ⟨_, rfl⟩
    obtain ⟨nx, hnx⟩ : ∃ z, z = S.next := ⟨_, rfl⟩
    have hblk := hw.blk
    rw [← hel, ← hnx] at hblk
    have c0 := cell_of hblk 1
    simp at c0
    have HNL := toHid hel
    have HNX := toHid hnx
    rw [← hnx] at hn0
    have HFULL : Hid (Calls Tryd.prog 40 #[.pointer (some ⟨b, 0, none⟩)] w4 fun e w' => e = .returned (.bool (decide (1099511627776 ≤ nx))) ∧ w' = w4) := full_any b _ _ _ nx w4 hblk
    clear hblk hel hnx hw
    by_cases h40 : 60 ≤ el
    · have h40i : (60 : Int) ≤ el := by omega
      go_wp2_with fail
      go_ret
      have hE : er = 10 := by rw [HER.out, addEE, if_neg HNO.out, if_neg (by simp only; rw [HNM.out]; decide), if_neg (by simp), if_pos (.inl (by rw [← HNL.out]; exact h40))]
      exact ⟨by rw [hE]; rfl, Rest.of_below HK4.out, fun h => by rw [hE] at h; cases h⟩
    · have h40i : ¬ ((60 : Int) ≤ el) := by omega
      go_wp2_with fail
      refine HFULL.out.mono ?_
      rintro e w4 ⟨rfl, rfl⟩
      by_cases hfl : 1099511627776 ≤ nx
      · have hd : decide (1099511627776 ≤ nx) = true := by simp [hfl]
        go_wp2_with fail
        go_ret
        have hE : er = 10 := by rw [HER.out, addEE, if_neg HNO.out, if_neg (by simp only; rw [HNM.out]; decide), if_neg (by simp), if_pos (.inr (by rw [← HNX.out]; exact hfl))]
        exact ⟨by rw [hE]; rfl, Rest.of_below HK4.out, fun h => by rw [hE] at h; cases h⟩
      · have hd : decide (1099511627776 ≤ nx) = false := by simp [hfl]
        have hE : er = 0 := by
          rw [HER.out, addEE, if_neg HNO.out, if_neg (by simp only; rw [HNM.out]; decide), if_neg (by simp), if_neg]
          rintro (h | h)
          · rw [← HNL.out] at h; exact h40 h
          · rw [← HNX.out] at h; exact hfl h
        have HE0 := toHid hE
        clear hE
        have HNUM : Hid (∀ W, Below w4.heap.size w4 W → Calls Tryd.prog 41 #[.pointer (some ⟨b, 0, none⟩)] W fun e w' => e = .returned (.int .i64 nx) ∧ StepEnd O W w' b S.numbered) := fun W kW => by
          rw [HNX.out]
          exact number_any O b S W (HWC.out.below kW) hm (by rw [← HNX.out]; exact hn0) (by rw [← HNX.out]; omega)
        go_upto_region 10 with fail
        have D6 : Below w4.heap.size w4 w4.drew := (Below.refl _ _).drew
        have R0 : Rest O w4 w4.drew := Rest.of_below D6
        have nO : ¬ O w4.heap.size := fun q => Nat.lt_irrefl _ (HWC.out.lts _ q)
        have HSR : Hid (∀ W', Rest O w4 W' → W'.cell? ⟨w.heap.size, 2, none⟩ = some (.int .i64 frm) ∧ W'.cell? ⟨w.heap.size, 3, none⟩ = some (.int .i64 dst) ∧ W'.cell? ⟨w.heap.size, 4, none⟩ = some (.string name) ∧ W'.cell? ⟨w.heap.size, 10, none⟩ = some (.slice pa pl pc)) := fun W' r => by
          have hq : W'.heap[w.heap.size]? = w4.heap[w.heap.size]? := r.block _ (by omega) (fun q => Nat.lt_irrefl _ (HW.out.lts _ q))
          exact ⟨(cell_same hq 2).trans v2, (cell_same hq 3).trans v3, (cell_same hq 4).trans v4, (cell_same hq 10).trans v10⟩
        go_cut [6] (fun s6 wx => BoxCut O w4 b S.numbered #[.int .i64 nx, .int .i64 frm, .int .i64 dst, .string name, .slice pa pl pc] 45 s6 wx)
        case first =>
          go_region_held3 (fun w' => w'.cell? ⟨w.heap.size, 2, none⟩ = some (.int .i64 frm) ∧ w'.cell? ⟨w.heap.size, 3, none⟩ = some (.int .i64 dst) ∧ w'.cell? ⟨w.heap.size, 4, none⟩ = some (.string name) ∧ w'.cell? ⟨w.heap.size, 10, none⟩ = some (.slice pa pl pc))
            (first
              | with_reducible exact HSR.out _ R1
              | with_reducible exact HSR.out _ R0
              | with_reducible exact HSR.out _ (R0.alloc _)
              | with_reducible exact HSR.out _ (R1.alloc _)
              | exact HSR.out _ (((((R1.set ⟨w4.heap.size, 0, none⟩ (Nat.le_refl _) _).set ⟨w4.heap.size, 1, none⟩ (Nat.le_refl _) _).set ⟨w4.heap.size, 2, none⟩ (Nat.le_refl _) _).set ⟨w4.heap.size, 3, none⟩ (Nat.le_refl _) _).set ⟨w4.heap.size, 4, none⟩ (Nat.le_refl _) _)
              | go_keep)
            (first
              | (go_at_call 41; refine (HNUM.out _ (by first | exact D6 | exact D6.alloc (Nat.le_refl _) _)).mono ?_; rintro e u1 ⟨rfl, h1⟩; have R1 : Rest O w4 u1 := (by first | exact R0.trans h1.2 (fun _ _ q => q) | exact (R0.alloc _).trans h1.2 (fun _ _ q => q)); try (have hp := (h1.far (i := w4.heap.size) (by simp) nO).trans (alloc_new w4.drew _); have p0 := cell_of hp 0; have p1 := cell_of hp 1; have p2 := cell_of hp 2; have p3 := cell_of hp 3; have p4 := cell_of hp 4; have f0 := free_of hp 0; have f1 := free_of hp 1; have f2 := free_of hp 2; have f3 := free_of hp 3; have f4 := free_of hp 4; simp at p0 p1 p2 p3 p4)))
          all_goals
            go_wp2_with fail
            go_meet
            first
              | exact boxA h1 _ _
              | exact boxB HWC.out.lts h1 [.int .i64 nx, .int .i64 frm, .int .i64 dst, .string name, .slice pa pl pc] _ rfl
        case rest =>
          obtain ⟨p, O1, rfl, hp, hnp, hw1, hr1, ho1⟩ := hcut
          have HW1 := toHid hw1
          have HR1 := toHid hr1
          have HO1 := toHid ho1
          obtain ⟨na1, nc1, ea1, ec1, ma1, mc1, PN1, PE1, PM1, hwa⟩ := hw1
          obtain ⟨hob, L, hrow, hpair⟩ := hwa.es
          have hll : L.length = S.E.length := hpair.1
          have hblk1 : wc.heap[b]? = some (.cells #[.slice na1 S.N.length nc1, .slice ea1 S.E.length ec1, .int .i64 (S.next + 1), .slice ma1 (S.made ++ [S.next]).length mc1] 49 (0, 0)) := hwa.blk
          have hrow' : wc.ownsRow 0 45 5 (.slice ea1 S.E.length ec1) S.E.length (rowX L) := by
            have := hrow
            rw [hll] at this
            exact this
          have hbl : b < wc.heap.size := hwa.lt b hwa.ob
          have hgb : ∀ g, (Value.slice ea1 S.E.length ec1).ownBlock = some g → g ≠ b := fun g hg => (hwa.pe g (hob g hg)).2.1
          rw [← HNL.out] at hblk1 hrow' hgb
          have HBLK1 := toHid hblk1
          have HROW := toHid hrow'
          have HGB := toHid hgb
          have HPAIR := toHid hpair
          have HWA := toHid hwa
          have p0 := cell_of hp 0
          have p1 := cell_of hp 1
          have p2 := cell_of hp 2
          have p3 := cell_of hp 3
          have p4 := cell_of hp 4
          simp at p0 p1 p2 p3 p4
          have HND : Hid (∀ W, Below wc.heap.size wc W → Calls Tryd.prog 22 #[.agg #[.int .i64 nx, .int .i64 frm, .int .i64 dst, .string name, .slice pa pl pc]] W fun e w' => (∃ y : Ed, e = .returned (.agg #[.int .i64 y.id, .int .i64 y.frm, .int .i64 y.dst, .string y.typ, .slice y.pa y.pl y.pc]) ∧ EdOwn (fun i => W.heap.size ≤ i) w' y ⟨nx, frm, dst, name, X⟩) ∧ Below W.heap.size W w') := fun W kW => by
            have hx := HX0.out
            rw [HNX.out]
            have k1 : Below B w W := ((HK4.out.mono hB).trans (HR1.out.below (Nat.le_trans hB HK4.out.size) HO.out)).trans (kW.mono (Nat.le_trans hB (Nat.le_trans HK4.out.size HR1.out.size)))
            exact (edge_any ⟨S.next, frm, dst, name, P, pa, pl, pc⟩ ⟨S.next, frm, dst, name, X⟩ W (hx.2 W k1) hx.1).mono fun e w' ⟨⟨y, he, hy⟩, kk⟩ => ⟨⟨y, he, hy⟩, kk⟩
          obtain ⟨i0, hi0, hiz, his, hib⟩ := info_Edge
          have HI0 := toHid hi0
          have HIZ := toHid hiz
          have HIS := toHid his
          have HIB := toHid hib
          have HBy : (el + 1) * 64 ≤ 140737488355328 := by omega
          have HBm : el + 1 ≤ maxLen := by unfold maxLen; omega
          clear hi0 hiz his hib hp hnp hr1 ho1 hob hrow hpair hll hblk1 hrow' hgb hwa HSR nO R0 D6 v2 v3 v4 v10 c0 HNUM HFULL
          have c0 := cell_of HBLK1.out 1
          simp at c0
          have D7 : Below wc.heap.size wc wc.drew := (Below.refl _ _).drew
          go_upto_region 11 with fail
          go_region_law (first
            | (refine step_append_lies _ (by rfl) _ _ _ (by rfl) 0 45 i0 _ 5 64 Tryd.underlying23 HI0.out HIZ.out HIS.out HIB.out rfl (by omega) (.slice ea1 el ec1) el (rowX L) (by rfl) (hown2.alloc _) ⟨u2.heap.size, 0, none⟩ 1 1 [.int .i64 y.id, .int .i64 y.frm, .int .i64 y.dst, .string y.typ, .slice y.pa y.pl y.pc] (by rfl) (by rfl) (World.news_of_block (cs := #[.int .i64 y.id, .int .i64 y.frm, .int .i64 y.dst, .string y.typ, .slice y.pa y.pl y.pc]) (t := 45) (fr := (0, 0)) (alloc_new u2 _)) (by simp [Value.oneCell']) (by omega) HBm HBy (Nat.zero_le _) (u2.heap.size + 1) (by simp) ?_; intro gg cap w5 hown5 hgrow hat5 hlt5
               have hb5 : w5.heap[b]? = some (.cells #[.slice na1 S.N.length nc1, .slice ea1 el ec1, .int .i64 (S.next + 1), .slice ma1 (S.made ++ [S.next]).length mc1] 49 (0, 0)) := by
                 rw [hgrow.block b (by simp; omega) (fun e => HGB.out b e.symm rfl), Below.heap_alloc u2 _ b (by omega), k2.block b hbl]
                 exact HBLK1.out
               have d0 := cell_of hb5 1
               have f5 := free_of hb5 1
               simp at d0
               clear hb5)
            | (go_simp
               go_at_call 22
               refine (HND.out _ D7).mono ?_
               rintro e u2 ⟨⟨y, rfl, hy⟩, h2⟩
               have k2 : Below wc.heap.size wc u2 := D7.trans h2
               have hs2 : wc.heap.size ≤ u2.heap.size := k2.size
               have c0' : u2.cell? ⟨b, 1, none⟩ = some (.slice ea1 el ec1) := (k2.cell (p := ⟨b, 1, none⟩) hbl).trans c0
               have c0'' : ∀ o, (u2.alloc o).cell? ⟨b, 1, none⟩ = some (.slice ea1 el ec1) := fun o => by rw [cell_past _ _ _ _ (by omega)]; exact c0'
               have hown2 : u2.ownsRow 0 45 5 (.slice ea1 el ec1) el (rowX L) := row_keep HROW.out fun g _ hl => k2.block g hl))
          all_goals
            go_wp2_with fail
            go_ret
            have hnl := HNL.out
            have hnx := HNX.out
            subst hnl hnx
            have hst := BoxCut.step HW.out HK4.out HW.out.lts HR1.out HW1.out HO1.out (HWA.out.putE k2 hy _ HROW.out HPAIR.out hgrow hown5 hat5 hlt5)
            exact ⟨by rw [HE0.out]; rfl, hst.2, fun _ => hst⟩
  · have hz' : (eP != 0) = true := by simp [hz]
    go_wp2_with fail
    go_ret
    have hE : er = eP := by rw [HER.out, addEE, if_neg HNO.out, if_neg (by simp only; rw [HNM.out]; decide), if_pos hz]
    exact ⟨by rw [hE]; rfl, Rest.of_below HK4.out, fun h => absurd (hE ▸ h) hz⟩

/-- The properties of the node or edge of that number, and where they lie. -/
def Owner (N : List Nd) (E : List Ed) (id : Int) (P : List Pr) (pa : Option Addr) (pl pc : Nat) : Prop :=
  (∃ x ∈ N, x.id = id ∧ x.props = P ∧ x.pa = pa ∧ x.pl = pl ∧ x.pc = pc) ∨ (hasN N id = false ∧ ∃ x ∈ E, x.id = id ∧ x.props = P ∧ x.pa = pa ∧ x.pl = pl ∧ x.pc = pc)

def PoEnd (N : List Nd) (E : List Ed) (id : Int) (e : Ending) : Prop :=
  (∃ P pa pl pc, Owner N E id P pa pl pc ∧ e = .returned (.tuple #[.slice pa pl pc, .bool true])) ∨ (hasN N id = false ∧ id ∉ E.map Ed.id ∧ e = .returned (.tuple #[.slice none 0 0, .bool false]))

def findP (P : List Pr) (name : ByteArray) : Option Pr := P.find? (fun p => p.name.toList == name.toList)

def zvV : Value := .agg #[.int .i64 0, .int .i64 0, .string ⟨#[]⟩, .slice none 0 0]

def PropEnd (w' : World) (er : Int) (N : List Nd) (E : List Ed) (id : Int) (name : ByteArray) (tr : Pr → List T) (e : Ending) : Prop :=
  (er ≠ 0 ∧ e = .returned (.tuple #[zvV, .int .i64 er])) ∨ (er = 0 ∧ hasN N id = false ∧ id ∉ E.map Ed.id ∧ e = .returned (.tuple #[zvV, .int .i64 5])) ∨
  (er = 0 ∧ ∃ P pa pl pc, Owner N E id P pa pl pc ∧ ((findP P name = none ∧ e = .returned (.tuple #[zvV, .int .i64 0])) ∨ ∃ p a' c', findP P name = some p ∧ p ∈ P ∧ e = .returned (.tuple #[.agg #[.int .i64 p.k, .int .i64 p.n, .string p.s, .slice a' p.l c'], .int .i64 0]) ∧ p.l ≤ c' ∧ LiesS w' (tr p) a' p.l))

def SofEnd (P : List Pr) (name : ByteArray) (e : Ending) : Prop := (findP P name = none ∧ e = .returned zvV) ∨ ∃ p, findP P name = some p ∧ p ∈ P ∧ e = .returned (.agg #[.int .i64 p.k, .int .i64 p.n, .string p.s, .slice p.a p.l p.c])

set_option maxHeartbeats 4000000 in
set_option maxRecDepth 100000 in
theorem fresh_zero (w : World) : Calls Tryd.prog 51 #[.agg #[.int .i64 0, .int .i64 0, .string ⟨#[]⟩, .slice none 0 0]] w fun e w' => e = .returned zvV ∧ Below w.heap.size w w' := by
  have HV : Hid (∀ W, Calls Tryd.prog 66 #[.slice none 0 0] W fun e w' => e = .returned (.slice none 0 0) ∧ Below W.heap.size W w') := fun W => values_none none 0 W
  have b0 : Below w.heap.size w ((w.alloc (.cells #[.int .i64 0, .int .i64 0, .string ⟨#[]⟩, .slice none 0 0] 29)).alloc (.cells #[.int .i64 0, .int .i64 0, .string ⟨#[]⟩, .slice none 0 0] 29)) := ((Below.refl _ _).alloc (Nat.le_refl _) _).alloc (by simp) _
  have hx := (Below.heap_alloc (w.alloc (.cells #[.int .i64 0, .int .i64 0, .string ⟨#[]⟩, .slice none 0 0] 29)) (.cells #[.int .i64 0, .int .i64 0, .string ⟨#[]⟩, .slice none 0 0] 29) w.heap.size (by simp)).trans (alloc_new w (.cells #[.int .i64 0, .int .i64 0, .string ⟨#[]⟩, .slice none 0 0] 29))
  have hy := alloc_two w (.cells #[.int .i64 0, .int .i64 0, .string ⟨#[]⟩, .slice none 0 0] 29) (.cells #[.int .i64 0, .int .i64 0, .string ⟨#[]⟩, .slice none 0 0] 29)
  have z0 : ((w.alloc (.cells #[.int .i64 0, .int .i64 0, .string ⟨#[]⟩, .slice none 0 0] 29)).alloc (.cells #[.int .i64 0, .int .i64 0, .string ⟨#[]⟩, .slice none 0 0] 29)).heap.size = w.heap.size + 2 := by simp
  have HB := toHid b0
  have HX := toHid hx
  have HY := toHid hy
  have HZ := toHid z0
  clear b0 hx hy z0
  go_enter Tryd.func51, Tryd.ntmps51
  go_wp2_with fail
  refine (HV.out _).mono ?_
  generalize (w.alloc (.cells #[.int .i64 0, .int .i64 0, .string ⟨#[]⟩, .slice none 0 0] 29)).alloc (.cells #[.int .i64 0, .int .i64 0, .string ⟨#[]⟩, .slice none 0 0] 29) = W at HB HX HY HZ ⊢
  rintro e w1 ⟨rfl, k1⟩
  have s1 : w.heap.size + 2 ≤ w1.heap.size := by have := k1.size; rw [HZ.out] at this; exact this
  have c1 := HB.out.trans (k1.mono HB.out.size)
  have hv1 := (k1.block w.heap.size (by rw [HZ.out]; omega)).trans HX.out
  have hr1 := (k1.block (w.heap.size + 1) (by rw [HZ.out]; omega)).trans HY.out
  have hv2 := cell3_here hv1 (.slice none 0 0)
  have hr2 := (Below.heap_setCell w1 ⟨w.heap.size, 3, none⟩ (.slice none 0 0) (w.heap.size + 1) (by show w.heap.size + 1 ≠ w.heap.size; omega)).trans hr1
  have c2 : Below w.heap.size w (w1.setCell ⟨w.heap.size, 3, none⟩ (.slice none 0 0)) := c1.setCell (p := ⟨w.heap.size, 3, none⟩) (Nat.le_refl _) _
  have s2 : (w1.setCell ⟨w.heap.size, 3, none⟩ (.slice none 0 0)).heap.size = w1.heap.size := by simp [World.setCell]
  have x3 := cell_of hv1 3
  have f3 := free_of hv1 3
  simp at x3
  have hl1 : w.heap.size < w1.heap.size := by omega
  have HV2 := toHid hv2
  have HR2 := toHid hr2
  have HC2 := toHid c2
  have HS2 := toHid s2
  clear hv1 hr1 hv2 hr2 c2 s2 k1 c1
  obtain ⟨X, hX⟩ : ∃ X, X = w1.setCell ⟨w.heap.size, 3, none⟩ (.slice none 0 0) := ⟨_, rfl⟩
  rw [← hX] at HV2 HR2 HC2 HS2
  have q0 := cell_of HV2.out 0
  have q1 := cell_of HV2.out 1
  have q2 := cell_of HV2.out 2
  have q3 := cell_of HV2.out 3
  simp at q0 q1 q2 q3
  have r0 := cell_of HR2.out 0
  have r1 := cell_of HR2.out 1
  have r2 := cell_of HR2.out 2
  have r3 := cell_of HR2.out 3
  simp at r0 r1 r2 r3
  have g0 := free_of HR2.out 0
  have g1 := free_of HR2.out 1
  have g2 := free_of HR2.out 2
  have g3 := free_of HR2.out 3
  have hXs : w1.setCell ⟨w.heap.size, 3, none⟩ (.slice none 0 0) = X := hX.symm
  have HE := toHid (put4_here HR2.out (.int .i64 0) (.int .i64 0) (.string ⟨#[]⟩) (.slice none 0 0))
  have HBB := toHid (HC2.out.trans ((put4_bel X (w.heap.size + 1) (.int .i64 0) (.int .i64 0) (.string ⟨#[]⟩) (.slice none 0 0)).mono (by omega)))
  clear hX HV2 HR2 HC2 HS2
  go_wp2_with fail
  have eP : ∀ X : World, (((X.setCell ⟨w.heap.size + 1, 0, none⟩ (.int .i64 0)).setCell ⟨w.heap.size + 1, 1, none⟩ (.int .i64 0)).setCell ⟨w.heap.size + 1, 2, none⟩ (.string ⟨#[]⟩)).setCell ⟨w.heap.size + 1, 3, none⟩ (.slice none 0 0) = put4 X (w.heap.size + 1) (.int .i64 0) (.int .i64 0) (.string ⟨#[]⟩) (.slice none 0 0) := fun _ => rfl
  rw [eP]
  have E := HE.out
  have hbb := HBB.out
  clear HE HBB
  generalize put4 X (w.heap.size + 1) (.int .i64 0) (.int .i64 0) (.string ⟨#[]⟩) (.slice none 0 0) = Y at E hbb ⊢
  have t0 := cell_of E 0
  have t1 := cell_of E 1
  have t2 := cell_of E 2
  have t3 := cell_of E 3
  simp at t0 t1 t2 t3
  exact bodyPost_ret (v := zvV) (by simp [zvV, results, Tryd.results51, go_sem, t0, t1, t2, t3]) rfl ⟨rfl, hbb⟩

/-- How that graph lies in memory. -/
def KnowsAt (w : World) (lb pb nb eb : Nat) : Prop :=
  w.heap[lb]? = some (.cells #[.string ⟨#[65]⟩] 9 (0, 0)) ∧ w.heap[pb]? = some (.cells #[.string ⟨#[110]⟩, .int .i64 2, .int .i64 5, .string ⟨#[]⟩, .slice none 0 0] 61 (0, 0)) ∧
  w.heap[nb]? = some (.cells #[.int .i64 1, .slice (some ⟨lb, 0, none⟩) 1 1, .slice (some ⟨pb, 0, none⟩) 1 1, .int .i64 2, .slice none 0 0, .slice none 0 0] 52 (0, 0)) ∧
  w.heap[eb]? = some (.cells #[.int .i64 3, .int .i64 1, .int .i64 2, .string ⟨#[75]⟩, .slice none 0 0] 45 (0, 0))

def KnowsEnd (w' : World) (e : Ending) : Prop := ∃ lb pb nb eb, e = .returned (.agg #[.slice (some ⟨nb, 0, none⟩) 2 2, .slice (some ⟨eb, 0, none⟩) 1 1, .int .i64 4]) ∧ KnowsAt w' lb pb nb eb

set_option maxHeartbeats 4000000 in
set_option maxRecDepth 100000 in
theorem knows_any (w : World) : Calls Tryd.prog 9 #[] w fun e w' => KnowsEnd w' e ∧ Below w.heap.size w w' := by
  go_enter Tryd.func9, Tryd.ntmps9
  go_wp2_with fail
  refine (num_any _ _).mono ?_
  rintro e w1 ⟨rfl, k1⟩
  have s1 : w.heap.size + 2 ≤ w1.heap.size := by have := k1.size; simpa using this
  have hv1 := (k1.block w.heap.size (by simp <;> omega)).trans ((Below.heap_alloc _ _ w.heap.size (by simp <;> omega)).trans (alloc_new w _))
  have hl1 := (k1.block (w.heap.size + 1) (by simp <;> omega)).trans (alloc_two w _ _)
  have c1 : Below w.heap.size w w1 := (((Below.refl w.heap.size w).alloc (Nat.le_refl _) _).alloc (by simp <;> omega) _).trans (k1.mono (by simp <;> omega))
  have z4 : (((w1.alloc (.cells #[.string ⟨#[110]⟩, .int .i64 2, .int .i64 5, .string ⟨#[]⟩, .slice none 0 0] 61)).alloc (.cells #[.int .i64 1, .slice (some ⟨w.heap.size + 1, 0, none⟩) 1 1, .slice (some ⟨w1.heap.size, 0, none⟩) 1 1, .int .i64 2, .slice none 0 0, .slice none 0 0] 52)).alloc (.cells #[.int .i64 3, .int .i64 1, .int .i64 2, .string ⟨#[75]⟩, .slice none 0 0] 45)).heap.size = w1.heap.size + 3 := by simp
  have e4 := alloc_new ((w1.alloc (.cells #[.string ⟨#[110]⟩, .int .i64 2, .int .i64 5, .string ⟨#[]⟩, .slice none 0 0] 61)).alloc (.cells #[.int .i64 1, .slice (some ⟨w.heap.size + 1, 0, none⟩) 1 1, .slice (some ⟨w1.heap.size, 0, none⟩) 1 1, .int .i64 2, .slice none 0 0, .slice none 0 0] 52)) (.cells #[.int .i64 3, .int .i64 1, .int .i64 2, .string ⟨#[75]⟩, .slice none 0 0] 45)
  have z3 : ((w1.alloc (.cells #[.string ⟨#[110]⟩, .int .i64 2, .int .i64 5, .string ⟨#[]⟩, .slice none 0 0] 61)).alloc (.cells #[.int .i64 1, .slice (some ⟨w.heap.size + 1, 0, none⟩) 1 1, .slice (some ⟨w1.heap.size, 0, none⟩) 1 1, .int .i64 2, .slice none 0 0, .slice none 0 0] 52)).heap.size = w1.heap.size + 2 := by simp
  rw [z3] at e4
  have n4 := (Below.heap_alloc ((w1.alloc (.cells #[.string ⟨#[110]⟩, .int .i64 2, .int .i64 5, .string ⟨#[]⟩, .slice none 0 0] 61)).alloc (.cells #[.int .i64 1, .slice (some ⟨w.heap.size + 1, 0, none⟩) 1 1, .slice (some ⟨w1.heap.size, 0, none⟩) 1 1, .int .i64 2, .slice none 0 0, .slice none 0 0] 52)) (.cells #[.int .i64 3, .int .i64 1, .int .i64 2, .string ⟨#[75]⟩, .slice none 0 0] 45) (w1.heap.size + 1) (by simp <;> omega)).trans (alloc_two w1 (.cells #[.string ⟨#[110]⟩, .int .i64 2, .int .i64 5, .string ⟨#[]⟩, .slice none 0 0] 61) (.cells #[.int .i64 1, .slice (some ⟨w.heap.size + 1, 0, none⟩) 1 1, .slice (some ⟨w1.heap.size, 0, none⟩) 1 1, .int .i64 2, .slice none 0 0, .slice none 0 0] 52))
  have q4 : ∀ j, j < w1.heap.size → (((w1.alloc (.cells #[.string ⟨#[110]⟩, .int .i64 2, .int .i64 5, .string ⟨#[]⟩, .slice none 0 0] 61)).alloc (.cells #[.int .i64 1, .slice (some ⟨w.heap.size + 1, 0, none⟩) 1 1, .slice (some ⟨w1.heap.size, 0, none⟩) 1 1, .int .i64 2, .slice none 0 0, .slice none 0 0] 52)).alloc (.cells #[.int .i64 3, .int .i64 1, .int .i64 2, .string ⟨#[75]⟩, .slice none 0 0] 45)).heap[j]? = w1.heap[j]? := fun j hj => (Below.heap_alloc _ _ j (by simp <;> omega)).trans ((Below.heap_alloc _ _ j (by simp <;> omega)).trans (Below.heap_alloc _ _ j hj))
  have p4 := (Below.heap_alloc ((w1.alloc (.cells #[.string ⟨#[110]⟩, .int .i64 2, .int .i64 5, .string ⟨#[]⟩, .slice none 0 0] 61)).alloc (.cells #[.int .i64 1, .slice (some ⟨w.heap.size + 1, 0, none⟩) 1 1, .slice (some ⟨w1.heap.size, 0, none⟩) 1 1, .int .i64 2, .slice none 0 0, .slice none 0 0] 52)) (.cells #[.int .i64 3, .int .i64 1, .int .i64 2, .string ⟨#[75]⟩, .slice none 0 0] 45) w1.heap.size (by simp <;> omega)).trans ((Below.heap_alloc (w1.alloc (.cells #[.string ⟨#[110]⟩, .int .i64 2, .int .i64 5, .string ⟨#[]⟩, .slice none 0 0] 61)) (.cells #[.int .i64 1, .slice (some ⟨w.heap.size + 1, 0, none⟩) 1 1, .slice (some ⟨w1.heap.size, 0, none⟩) 1 1, .int .i64 2, .slice none 0 0, .slice none 0 0] 52) w1.heap.size (by simp <;> omega)).trans (alloc_new w1 (.cells #[.string ⟨#[110]⟩, .int .i64 2, .int .i64 5, .string ⟨#[]⟩, .slice none 0 0] 61)))
  have v4 := (q4 w.heap.size (by omega)).trans hv1
  have l4 := (q4 (w.heap.size + 1) (by omega)).trans hl1
  have c4 : Below w.heap.size w (((w1.alloc (.cells #[.string ⟨#[110]⟩, .int .i64 2, .int .i64 5, .string ⟨#[]⟩, .slice none 0 0] 61)).alloc (.cells #[.int .i64 1, .slice (some ⟨w.heap.size + 1, 0, none⟩) 1 1, .slice (some ⟨w1.heap.size, 0, none⟩) 1 1, .int .i64 2, .slice none 0 0, .slice none 0 0] 52)).alloc (.cells #[.int .i64 3, .int .i64 1, .int .i64 2, .string ⟨#[75]⟩, .slice none 0 0] 45)) := ((c1.alloc c1.size _).alloc (by simp <;> omega) _).alloc (by simp <;> omega) _
  have hlt : w.heap.size < w1.heap.size := by omega
  have r0 := cell_of v4 0
  have r1 := cell_of v4 1
  have r2 := cell_of v4 2
  have g0 := free_of v4 0
  have g1 := free_of v4 1
  have g2 := free_of v4 2
  have V4 := toHid v4
  have L4 := toHid l4
  have P4 := toHid p4
  have N4 := toHid n4
  have E4 := toHid e4
  have C4 := toHid c4
  clear hv1 hl1 q4 v4 l4 p4 n4 e4 c4 z3 z4 k1 c1
  simp at r0 r1 r2
  go_wp2_with fail
  generalize (((w1.alloc (.cells #[.string ⟨#[110]⟩, .int .i64 2, .int .i64 5, .string ⟨#[]⟩, .slice none 0 0] 61)).alloc (.cells #[.int .i64 1, .slice (some ⟨w.heap.size + 1, 0, none⟩) 1 1, .slice (some ⟨w1.heap.size, 0, none⟩) 1 1, .int .i64 2, .slice none 0 0, .slice none 0 0] 52)).alloc (.cells #[.int .i64 3, .int .i64 1, .int .i64 2, .string ⟨#[75]⟩, .slice none 0 0] 45)) = X at V4 L4 P4 N4 E4 C4 ⊢
  have hsz : w.heap.size < X.heap.size := (Array.getElem?_eq_some_iff.1 V4.out).1
  have o : ∀ i, i ≠ w.heap.size → (((X.setCell ⟨w.heap.size, 0, none⟩ (.slice (some ⟨w1.heap.size + 1, 0, none⟩) 2 2)).setCell ⟨w.heap.size, 1, none⟩ (.slice (some ⟨w1.heap.size + 2, 0, none⟩) 1 1)).setCell ⟨w.heap.size, 2, none⟩ (.int .i64 4)).heap[i]? = X.heap[i]? := fun i hi => (Below.heap_setCell _ _ _ i hi).trans ((Below.heap_setCell _ _ _ i hi).trans (Below.heap_setCell _ _ _ i hi))
  have h : (((X.setCell ⟨w.heap.size, 0, none⟩ (.slice (some ⟨w1.heap.size + 1, 0, none⟩) 2 2)).setCell ⟨w.heap.size, 1, none⟩ (.slice (some ⟨w1.heap.size + 2, 0, none⟩) 1 1)).setCell ⟨w.heap.size, 2, none⟩ (.int .i64 4)).heap[w.heap.size]? = some (.cells #[.slice (some ⟨w1.heap.size + 1, 0, none⟩) 2 2, .slice (some ⟨w1.heap.size + 2, 0, none⟩) 1 1, .int .i64 4] 25 (0, 0)) := by
    simp [World.setCell, Array.getElem?_modify, V4.out]
  have hbb : Below w.heap.size w (((X.setCell ⟨w.heap.size, 0, none⟩ (.slice (some ⟨w1.heap.size + 1, 0, none⟩) 2 2)).setCell ⟨w.heap.size, 1, none⟩ (.slice (some ⟨w1.heap.size + 2, 0, none⟩) 1 1)).setCell ⟨w.heap.size, 2, none⟩ (.int .i64 4)) := ((C4.out.setCell (p := ⟨w.heap.size, 0, none⟩) (Nat.le_refl _) _).setCell (p := ⟨w.heap.size, 1, none⟩) (Nat.le_refl _) _).setCell (p := ⟨w.heap.size, 2, none⟩) (Nat.le_refl _) _
  generalize ((X.setCell ⟨w.heap.size, 0, none⟩ (.slice (some ⟨w1.heap.size + 1, 0, none⟩) 2 2)).setCell ⟨w.heap.size, 1, none⟩ (.slice (some ⟨w1.heap.size + 2, 0, none⟩) 1 1)).setCell ⟨w.heap.size, 2, none⟩ (.int .i64 4) = Y at o h hbb ⊢
  have t0 := cell_of h 0
  have t1 := cell_of h 1
  have t2 := cell_of h 2
  simp at t0 t1 t2
  exact bodyPost_ret (v := .agg #[.slice (some ⟨w1.heap.size + 1, 0, none⟩) 2 2, .slice (some ⟨w1.heap.size + 2, 0, none⟩) 1 1, .int .i64 4]) (by simp [results, Tryd.results9, go_sem, t0, t1, t2]) rfl ⟨⟨w.heap.size + 1, w1.heap.size, w1.heap.size + 1, w1.heap.size + 2, rfl, (o _ (by omega)).trans L4.out, (o _ (by omega)).trans P4.out, (o _ (by omega)).trans N4.out, (o _ (by omega)).trans E4.out⟩, hbb⟩

def prK : Pr := ⟨⟨#[110]⟩, 2, 5, ⟨#[]⟩, none, 0, 0, 0⟩
def ndsK (lb pb : Nat) : List Nd := [⟨1, [⟨#[65]⟩], some ⟨lb, 0, none⟩, 1, 1, [prK], some ⟨pb, 0, none⟩, 1, 1⟩, ⟨2, [], none, 0, 0, [], none, 0, 0⟩]
def edsK : List Ed := [⟨3, 1, 2, ⟨#[75]⟩, [], none, 0, 0⟩]

theorem lt_of_some {w : World} {b : Nat} {o : Obj} (h : w.heap[b]? = some o) : b < w.heap.size := (Array.getElem?_eq_some_iff.1 h).1

theorem KnowsAt.below {w w' : World} {lb pb nb eb : Nat} (h : KnowsAt w lb pb nb eb) (k : Below w.heap.size w w') : KnowsAt w' lb pb nb eb := by
  obtain ⟨h1, h2, h3, h4⟩ := h
  exact ⟨(k.block _ (lt_of_some h1)).trans h1, (k.block _ (lt_of_some h2)).trans h2, (k.block _ (lt_of_some h3)).trans h3, (k.block _ (lt_of_some h4)).trans h4⟩

theorem strs_none (w : World) (a : Option Addr) : StrsAt w [] a 0 := ⟨rfl, by omega, fun h => absurd h (Nat.lt_irrefl _)⟩
theorem props_none (w : World) (a : Option Addr) : PropsAt w [] a 0 := ⟨rfl, by omega, fun h => absurd h (Nat.lt_irrefl _)⟩

theorem KnowsAt.strs {w : World} {lb pb nb eb : Nat} (h : KnowsAt w lb pb nb eb) : StrsAt w [⟨#[65]⟩] (some ⟨lb, 0, none⟩) 1 := by
  refine ⟨rfl, by omega, fun _ => ⟨lb, 0, rfl, lt_of_some h.1, fun i s hs => ?_⟩⟩
  cases i with
  | zero =>
    simp at hs
    subst hs
    exact ⟨by decide, cell_of h.1 0⟩
  | succ i => simp at hs

theorem KnowsAt.props {w : World} {lb pb nb eb : Nat} (h : KnowsAt w lb pb nb eb) : PropsAt w [prK] (some ⟨pb, 0, none⟩) 1 := by
  refine ⟨rfl, by omega, fun _ => ⟨pb, 0, rfl, lt_of_some h.2.1, fun i s hs => ?_⟩⟩
  cases i with
  | zero =>
    simp at hs
    subst hs
    exact ⟨by decide, cell_of h.2.1 0, cell_of h.2.1 1, cell_of h.2.1 2, cell_of h.2.1 3, cell_of h.2.1 4⟩
  | succ i => simp at hs

theorem KnowsAt.nodes {w : World} {lb pb nb eb : Nat} (h : KnowsAt w lb pb nb eb) : NodesAt w (ndsK lb pb) (some ⟨nb, 0, none⟩) 2 := by
  refine ⟨rfl, by omega, fun _ => ⟨nb, 0, rfl, lt_of_some h.2.2.1, fun i s hs => ?_⟩⟩
  match i, hs with
  | 0, hs =>
    simp [ndsK] at hs
    subst hs
    exact ⟨cell_of h.2.2.1 0, cell_of h.2.2.1 1, cell_of h.2.2.1 2⟩
  | 1, hs =>
    simp [ndsK] at hs
    subst hs
    exact ⟨cell_of h.2.2.1 3, cell_of h.2.2.1 4, cell_of h.2.2.1 5⟩
  | i + 2, hs => simp [ndsK] at hs

theorem KnowsAt.edges {w : World} {lb pb nb eb : Nat} (h : KnowsAt w lb pb nb eb) : EdgesAt w edsK (some ⟨eb, 0, none⟩) 1 := by
  refine ⟨rfl, by omega, fun _ => ⟨eb, 0, rfl, lt_of_some h.2.2.2, fun i s hs => ?_⟩⟩
  cases i with
  | zero =>
    simp [edsK] at hs
    subst hs
    exact ⟨by decide, cell_of h.2.2.2 0, cell_of h.2.2.2 1, cell_of h.2.2.2 2, cell_of h.2.2.2 3, cell_of h.2.2.2 4⟩
  | succ i => simp [edsK] at hs

theorem leS_lit (s t : ByteArray) : leS s t = (Op.bytesLess s.data.toList t.data.toList || s.data.toList == t.data.toList) := by
  unfold leS
  rw [ByteArray.toList_eq, ByteArray.toList_eq]

theorem labs_K : labsE [⟨#[65]⟩] = 0 := by
  have h1 : nm ⟨#[65]⟩ = true := by decide
  have h2 : leS ⟨#[65]⟩ ⟨#[]⟩ = false := by rw [leS_lit]; decide
  simp [labsE, labE, h1, h2]

theorem prs_K : prsE [prK] = 0 := by
  have h1 : nm prK.name = true := by decide
  have h2 : leS prK.name ⟨#[]⟩ = false := by rw [leS_lit]; decide
  have h3 : prK.k ≠ 0 := by decide
  have h4 : prK.e = 0 := rfl
  simp [prsE, prE, h1, h2, h3, h4]

theorem gE_K (lb pb : Nat) : gE (ndsK lb pb) edsK 4 = 0 := by
  have a1 := labs_K
  have a2 := prs_K
  have a3 : labsE [] = 0 := by simp [labsE, labE]
  have a4 : prsE [] = 0 := by simp [prsE, prE]
  have a5 : nm ⟨#[75]⟩ = true := by decide
  have n1 : ndE 0 (ndsK lb pb) = 0 := by simp [ndE, ndOne, ndsK, a1, a2, a3, a4]
  have e1 : edE (ndsK lb pb) 0 edsK = 0 := by simp [edE, edOne, edsK, hasN, ndsK, a4, a5]
  have l1 : lastI 0 ((ndsK lb pb).map Nd.id) = 2 := rfl
  have l2 : lastI 0 (edsK.map Ed.id) = 3 := rfl
  rw [gE, n1, e1, l1, l2]
  simp [ndsK, edsK]

theorem val_K (w : World) : Calls Tryd.prog 50 #[prK.val] w fun e w' => e = .returned (.int .i64 prK.e) ∧ Below w.heap.size w w' :=
  check_of 2 5 ⟨#[]⟩ none 0 0 0 w fun w' k => within_plain 2 5 ⟨#[]⟩ none 0 0 0 0 w' rfl rfl fun w2 k2 => checkPlain_any 2 5 ⟨#[]⟩ none 0 0 0 w2 (fun _ _ _ => rfl) (fun h => absurd (.inr (.inr rfl)) h) (fun h => absurd rfl h) (fun h => absurd rfl h) (by omega)

theorem props_K {w : World} {lb pb nb eb : Nat} (h : KnowsAt w lb pb nb eb) (w' : World) (k : Below w.heap.size w w') (c : Nat) : Calls Tryd.prog 33 #[.slice (some ⟨pb, 0, none⟩) 1 c] w' fun e w'' => e = .returned (.int .i64 (prsE [prK])) ∧ Below w'.heap.size w' w'' :=
  props_of name_any [prK] _ 1 c w' (h.props.below k) fun p hp w2 k2 => by
    obtain rfl := List.mem_singleton.1 hp
    exact val_K w2

theorem props_E (w' : World) (a : Option Addr) (c : Nat) : Calls Tryd.prog 33 #[.slice a 0 c] w' fun e w'' => e = .returned (.int .i64 (prsE [])) ∧ Below w'.heap.size w' w'' :=
  props_of name_any [] _ 0 c w' (props_none _ _) fun p hp => by cases hp

theorem check_K {w : World} {lb pb nb eb : Nat} (h : KnowsAt w lb pb nb eb) : Calls Tryd.prog 6 #[.agg #[.slice (some ⟨nb, 0, none⟩) 2 2, .slice (some ⟨eb, 0, none⟩) 1 1, .int .i64 4]] w fun e w' => e = .returned (.int .i64 0) ∧ Below w.heap.size w w' := by
  have := check_graph (ndsK lb pb) edsK (some ⟨nb, 0, none⟩) 2 2 (some ⟨eb, 0, none⟩) 1 1 4 w h.nodes h.edges (fun x hx w' k => by
    rcases List.mem_cons.1 hx with rfl | hx
    · exact ⟨labels_of name_any _ _ _ _ w' (h.strs.below k), props_K h w' k 1⟩
    · obtain rfl := List.mem_singleton.1 hx
      exact ⟨labels_of name_any _ _ _ _ w' (strs_none _ _), props_E w' none 0⟩) (fun x hx w' k => by
    obtain rfl := List.mem_singleton.1 hx
    exact props_E w' none 0)
  rw [gE_K] at this
  exact this

theorem rise_N (lb pb : Nat) : Rise ((ndsK lb pb).map Nd.id) := by
  have h := gE_K lb pb
  have n1 : ndE 0 (ndsK lb pb) = 0 := by
    have a1 := labs_K
    have a2 := prs_K
    have a3 : labsE [] = 0 := by simp [labsE, labE]
    have a4 : prsE [] = 0 := by simp [prsE, prE]
    simp [ndE, ndOne, ndsK, a1, a2, a3, a4]
  exact (ndE_ok _ _ n1).1

theorem rise_E : Rise (edsK.map Ed.id) := by
  intro i j x y hij hx hy
  have h1 : j < 1 := (List.getElem?_eq_some_iff.1 hy).1
  omega

theorem owner_K {lb pb : Nat} {P : List Pr} {pa : Option Addr} {pl pc : Nat} (h : Owner (ndsK lb pb) edsK 1 P pa pl pc) : P = [prK] ∧ pa = some ⟨pb, 0, none⟩ ∧ pl = 1 ∧ pc = 1 := by
  rcases h with ⟨x, hx, h1, h2, h3, h4, h5⟩ | ⟨h1, _⟩
  · rcases List.mem_cons.1 hx with rfl | hx
    · exact ⟨h2.symm, h3.symm, h4.symm, h5.symm⟩
    · obtain rfl := List.mem_singleton.1 hx
      exact absurd h1 (by decide)
  · simp [hasN, ndsK] at h1

theorem fresh_K (w : World) : Calls Tryd.prog 51 #[.agg #[.int .i64 prK.k, .int .i64 prK.n, .string prK.s, .slice prK.a prK.l prK.c]] w fun e w' => ValEnd w w' prK.k prK.n prK.s [] prK.l e ∧ Below w.heap.size w w' := by
  refine value_of _ _ _ _ _ _ [] w fun W k => ?_
  refine (values_none none 0 W).mono ?_
  rintro e w' ⟨rfl, k'⟩
  exact ⟨⟨none, 0, rfl, Nat.le_refl _, by unfold LieA; rfl⟩, k'⟩

theorem same5 (a : Option Addr) (c : Nat) (w : World) : Calls Tryd.prog 59 #[.agg #[.int .i64 2, .int .i64 5, .string ⟨#[]⟩, .slice a 0 c], .agg #[.int .i64 2, .int .i64 5, .string ⟨#[]⟩, .slice none 0 0]] w fun e w' => e = .returned (.bool true) ∧ Below w.heap.size w w' :=
  same_of 2 5 ⟨#[]⟩ a 0 c 2 5 ⟨#[]⟩ none 0 0 0 w fun w' k => order_empty 2 5 ⟨#[]⟩ a none 0 c 0 0 0 w' (by omega) (by omega) (.inl rfl) (fun _ => rfl) (fun h => absurd h (Nat.lt_irrefl _)) (fun h => absurd h (Nat.lt_irrefl _))

theorem equal3 (a : Option Addr) (c b : Nat) (w : World) (h : IntsAt w [3] a 1) (h' : IntsAt w [3] (some ⟨b, 0, none⟩) 1) : Calls Tryd.prog 8 #[.slice a 1 c, .slice (some ⟨b, 0, none⟩) 1 1] w fun e w' => e = .returned (.bool true) ∧ Below w.heap.size w w' :=
  equal_ints [3] [3] a 1 c (some ⟨b, 0, none⟩) 1 1 w h h'

theorem ints3 (w : World) : IntsAt (w.alloc (.cells #[.int .i64 3] 3)) [3] (some ⟨w.heap.size, 0, none⟩) 1 := by
  refine ⟨rfl, by omega, fun _ => ⟨w.heap.size, 0, rfl, by simp, fun i s hs => ?_⟩⟩
  cases i with
  | zero =>
    simp at hs
    subst hs
    exact cell_of (alloc_new w _) 0
  | succ i => simp at hs



theorem props_ok {w : World} {P : List Pr} {pa : Option Addr} {pl : Nat} (pc : Nat) (hP : PropsAt w P pa pl) (hO : ∀ p ∈ P, PrOk w p) (W : World) (k : Below w.heap.size w W) : Calls Tryd.prog 33 #[.slice pa pl pc] W fun e w' => e = .returned (.int .i64 (prsE P)) ∧ Below W.heap.size W w' :=
  props_of name_any P pa pl pc W (hP.below k) fun p hp w2 k2 => by
    obtain ⟨hs, L, _, _, hb, _⟩ := hO p hp
    exact check_of p.k p.n p.s p.a p.l p.c p.e w2 fun w3 k3 => (hb w3 (below2 (below2 k k2) k3)).1

/-- The answer: nil, or the place of the first of that number. -/
def NdAtEnd (L : List Nd) (a : Option Addr) (id : Int) (e : Ending) : Prop :=
  (id ∉ L.map Nd.id ∧ e = .returned (.pointer none)) ∨ ∃ (i : Nat) (x : Nd) (b off : Nat), a = some ⟨b, off, none⟩ ∧ L[i]? = some x ∧ x.id = id ∧ e = .returned (.pointer (some ⟨b, off + i * 3, none⟩))

/-- The answer: nil, or the place of the first of that number. -/
def EdAtEnd (L : List Ed) (a : Option Addr) (id : Int) (e : Ending) : Prop :=
  (id ∉ L.map Ed.id ∧ e = .returned (.pointer none)) ∨ ∃ (i : Nat) (x : Ed) (b off : Nat), a = some ⟨b, off, none⟩ ∧ L[i]? = some x ∧ x.id = id ∧ e = .returned (.pointer (some ⟨b, off + i * 5, none⟩))

/-- NodeAt's answer against nil. -/
def NilEnd (has : Bool) (e : Ending) : Prop := (has = false ∧ e = .returned (.pointer none)) ∨ (has = true ∧ ∃ q : Addr, e = .returned (.pointer (some q)))

theorem drew_then {W w' : World} {n : Nat} (k : Below (W.drewN n).heap.size (W.drewN n) w') : Below W.heap.size W w' := (below_drewN W n).trans (k.mono (by simp))

theorem check_ok {w : World} {N : List Nd} {E : List Ed} {na : Option Addr} {nl : Nat} {ea : Option Addr} {el : Nat} (h : GrOk w N E na nl ea el) (nc ec : Nat) (next : Int) (W : World) (k : Below w.heap.size w W) :
    Calls Tryd.prog 6 #[.agg #[.slice na nl nc, .slice ea el ec, .int .i64 next]] W fun e w' => e = .returned (.int .i64 (gE N E next)) ∧ Below W.heap.size W w' := by
  have h' := h.below k
  exact check_graph N E na nl nc ea el ec next W h'.1 h'.2.1 (fun x hx w' k' => ⟨labels_of name_any _ _ _ _ w' ((h'.2.2.1 x hx).1.below k'), props_ok x.pc (h'.2.2.1 x hx).2.1 (h'.2.2.1 x hx).2.2 w' k'⟩) (fun x hx w' k' => props_ok x.pc (h'.2.2.2 x hx).1 (h'.2.2.2 x hx).2 w' k')

/-- Has it that label, or is none asked for? -/
def selN (label : ByteArray) (x : Nd) : Bool := label.toList.isEmpty || hasS x.labs label

def lbL (label : ByteArray) (N : List Nd) : List Int := (N.filter (selN label)).map Nd.id

theorem lbL_yes {label : ByteArray} {x : Nd} {N : List Nd} (h : selN label x = true) : lbL label (x :: N) = x.id :: lbL label N := by
  simp [lbL, h]

theorem lbL_no {label : ByteArray} {x : Nd} {N : List Nd} (h : selN label x = false) : lbL label (x :: N) = lbL label N := by
  simp [lbL, h]

/-- What Labelled answers. -/
def LabEnd (w w' : World) (er : Int) (L : List Int) (e : Ending) : Prop :=
  (er ≠ 0 ∧ e = .returned (.tuple #[.slice none 0 0, .int .i64 er])) ∨ (er = 0 ∧ ∃ v, e = .returned (.tuple #[v, .int .i64 0]) ∧ w'.ownsRow w.heap.size 3 1 v L.length (ints L))
end Go.Proofs.YtaehecajihgggaaDoor
