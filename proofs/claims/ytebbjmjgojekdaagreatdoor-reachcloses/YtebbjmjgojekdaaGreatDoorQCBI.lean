/-
  What is proved here: what the texts HAddE, GSame, HSame, HSameN, HLackT prove, in one text.
-/
import Derived.Test.YtebbjmjgojekdaaGreatDoorQCBD
import Derived.Test.YtebbjmjgojekdaaGreatDoorQCBC
import Derived.Test.YtebbjmjgojekdaaGreatDoorQCAT
import Derived.Test.YtebbjmjgojekdaaGreatDoorQCAN
import Derived.Test.YtebbjmjgojekdaaGreatDoorQCAU
import Derived.Test.YtebbjmjgojekdaaGreatDoorQCAX
import Derived.Test.YtebbjmjgojekdaaGreatDoorQCAV
namespace Go.Proofs.YtebbjmjgojekdaaGreatDoor
open Go.RowKit
set_option linter.unusedVariables false

def hasA (N : List AN) (t : Int) : Bool := decide (t ∈ N.map AN.id)

theorem pair_ids {w : World} {L : List Nd} {N : List AN} (h : Pair2 (NdIn w) L N) : L.map Nd.id = N.map AN.id := by
  apply List.ext_getElem?
  intro i
  rw [List.getElem?_map, List.getElem?_map]
  cases hx : L[i]? with
  | none =>
    have : N[i]? = none := by
      rw [List.getElem?_eq_none_iff] at hx ⊢
      rw [← h.1]
      exact hx
    rw [this]
    rfl
  | some x =>
    obtain ⟨y, hy, hxy⟩ := h.left hx
    rw [hy]
    show some x.id = some y.id
    rw [hxy.1]

/-- Somewhere, or nowhere. -/
def PtrEnd (has : Bool) (e : Ending) : Prop := (has = false ∧ e = .returned (.pointer none)) ∨ (has = true ∧ ∃ g o, e = .returned (.pointer (some ⟨g, o, none⟩)))

theorem wnode_in (O : Nat → Prop) (b : Nat) (S : WS) (t : Int) (w : World) (h : WorkIn O w b S) (h60 : S.N.length ≤ 60) (hr : Rise (S.N.map AN.id)) :
    Calls Tryz.prog 119 #[.pointer (some ⟨b, 0, none⟩), .int .i64 t] w fun e w' => PtrEnd (hasA S.N t) e ∧ Below w.heap.size w w' := by
  obtain ⟨na, nc, ea, ec, ma, mc, PN, PE, PM, hw⟩ := h
  obtain ⟨_, L, hl, hp⟩ := hw.ns.reads2
  have hids := pair_ids hp
  refine (wnode_any L b na S.N.length nc _ _ S.next t w hw.blk hl h60 (by rw [hids]; exact hr)).mono ?_
  rintro e w' ⟨hA, k⟩
  refine ⟨?_, k⟩
  have he : hasA S.N t = hasN L t := by unfold hasA hasN; rw [hids]
  rw [he]
  rcases hA with ⟨h1, h2⟩ | ⟨h1, i, g, o, x, _, h2, _⟩
  · exact .inl ⟨h1, h2⟩
  · exact .inr ⟨h1, g, _, h2⟩

def addEE (S : WS) (o : Om) (eP : Int) : Int := if hasA S.N o.frm = false ∨ hasA S.N o.dst = false then 5 else if nm o.name = false then 6 else if eP ≠ 0 then eP else if 60 ≤ S.E.length ∨ 1099511627776 ≤ S.next then 10 else 0

set_option maxHeartbeats 16000000 in
set_option maxRecDepth 100000 in
theorem addEdge_any (O : Nat → Prop) (b : Nat) (S : WS) (o : Om) (P : List Pr) (X : List AP) (eP : Int) (B : Nat) (w : World)
    (hW : WorkIn O w b S) (hB : B ≤ w.heap.size) (hO : ∀ i, O i → B ≤ i) (hm : S.made.length ≤ 1000) (hn0 : 0 ≤ S.next) (h60 : S.N.length ≤ 60) (hri : Rise (S.N.map AN.id)) (hns : o.name.size ≤ 9223372036854775807)
    (hP : ∀ W, Below B w W → Calls Tryz.prog 80 #[.slice o.pa o.pl o.pc] W fun e w' => e = .returned (.int .i64 eP) ∧ Below W.heap.size W w')
    (hX : eP = 0 → AE.ok ⟨S.next, o.frm, o.dst, o.name, X⟩ ∧ ∀ W, Below B w W → EdIn W ⟨S.next, o.frm, o.dst, o.name, P, o.pa, o.pl, o.pc⟩ ⟨S.next, o.frm, o.dst, o.name, X⟩) :
    Calls Tryz.prog 72 #[.pointer (some ⟨b, 0, none⟩), o.val] w fun e w' => ActEnd O w w' b ⟨S.N, S.E ++ [⟨S.next, o.frm, o.dst, o.name, X⟩], S.next + 1, S.made ++ [S.next]⟩ (addEE S o eP) e := by
  obtain ⟨k, id, frm, dst, name, vk, vn, vs, va, vl, vc, la, ll, lc, pa, pl, pc⟩ := o
  simp only [Om.val] at hP hX hns ⊢
  have HP := toHid hP
  have HX := toHid hX
  have HW := toHid hW
  have HO := toHid hO
  have HRI := toHid hri
  clear hP hX hW hO hri
  obtain ⟨er, hER⟩ : ∃ z, z = addEE S ⟨k, id, frm, dst, name, vk, vn, vs, va, vl, vc, la, ll, lc, pa, pl, pc⟩ eP := ⟨_, rfl⟩
  rw [← hER]
  have HER := toHid hER
  clear hER
  have b0 : Below w.heap.size w (w.alloc (.cells #[.int .i64 k, .int .i64 id, .int .i64 frm, .int .i64 dst, .string name, .int .i64 vk, .int .i64 vn, .string vs, .slice va vl vc, .slice la ll lc, .slice pa pl pc] 68)) := (Below.refl _ _).alloc (Nat.le_refl _) _
  have q0 := alloc_new w (.cells #[.int .i64 k, .int .i64 id, .int .i64 frm, .int .i64 dst, .string name, .int .i64 vk, .int .i64 vn, .string vs, .slice va vl vc, .slice la ll lc, .slice pa pl pc] 68)
  have z0 : (w.alloc (.cells #[.int .i64 k, .int .i64 id, .int .i64 frm, .int .i64 dst, .string name, .int .i64 vk, .int .i64 vn, .string vs, .slice va vl vc, .slice la ll lc, .slice pa pl pc] 68)).heap.size = w.heap.size + 1 := by simp
  have HB0 := toHid b0
  have HQ := toHid q0
  have HZ := toHid z0
  clear b0 q0 z0
  have HS : Hid (∀ (W W' : World), W.heap[w.heap.size]? = some (.cells #[.int .i64 k, .int .i64 id, .int .i64 frm, .int .i64 dst, .string name, .int .i64 vk, .int .i64 vn, .string vs, .slice va vl vc, .slice la ll lc, .slice pa pl pc] 68 (0, 0)) → Below W.heap.size W W' → W'.cell? ⟨w.heap.size, 2, none⟩ = some (.int .i64 frm) ∧ W'.cell? ⟨w.heap.size, 3, none⟩ = some (.int .i64 dst) ∧ W'.cell? ⟨w.heap.size, 4, none⟩ = some (.string name) ∧ W'.cell? ⟨w.heap.size, 10, none⟩ = some (.slice pa pl pc)) := by
    intro W W' hq kk
    have hlt : w.heap.size < W.heap.size := (Array.getElem?_eq_some_iff.1 hq).1
    have q : ∀ o, W'.cell? ⟨w.heap.size, o, none⟩ = _ := fun o => (kk.cell (p := ⟨w.heap.size, o, none⟩) hlt).trans (cell_of hq o)
    exact ⟨q 2, q 3, q 4, q 10⟩
  have HNODE : Hid (∀ t W, Below w.heap.size w W → Calls Tryz.prog 119 #[.pointer (some ⟨b, 0, none⟩), .int .i64 t] W fun e w' => PtrEnd (hasA S.N t) e ∧ Below W.heap.size W w') := fun t W kW => wnode_in O b S t W (HW.out.below kW) h60 HRI.out
  have HYtebbjmjgojekdaaGreatDoor : Hid (∀ W, Calls Tryz.prog 82 #[.string name] W fun e w' => e = .returned (.bool (nm name)) ∧ Below W.heap.size W w') := fun W => name_any name W hns
  go_enter Tryz.func72, Tryz.ntmps72
  go_wp2_with fail
  refine (HNODE.out _ _ HB0.out).mono ?_
  generalize w.alloc (.cells #[.int .i64 k, .int .i64 id, .int .i64 frm, .int .i64 dst, .string name, .int .i64 vk, .int .i64 vn, .string vs, .slice va vl vc, .slice la ll lc, .slice pa pl pc] 68) = W at HB0 HQ HZ ⊢
  rintro e w1 ⟨hA, k1⟩
  have HK1 := toHid (HB0.out.trans (k1.mono HB0.out.size))
  have HQ1 := toHid ((k1.block w.heap.size (by rw [HZ.out]; omega)).trans HQ.out)
  have s1 : w.heap.size + 1 ≤ w1.heap.size := by have := k1.size; rw [HZ.out] at this; exact this
  obtain ⟨v2, v3, v4, v10⟩ := HS.out w1 w1 HQ1.out (Below.refl _ _)
  clear k1 HB0 HQ HZ
  rcases hA with ⟨h1, rfl⟩ | ⟨h1, g, go, rfl⟩
  · have H1 := toHid h1
    clear h1
    go_wp2_with fail
    go_ret
    have hE : er = 5 := by rw [HER.out, addEE, if_pos (.inl H1.out)]
    exact ⟨by rw [hE]; rfl, Rest.of_below HK1.out, fun h => by rw [hE] at h; cases h⟩
  have H1 := toHid h1
  clear h1
  go_wp2_with fail
  refine (HNODE.out _ _ HK1.out).mono ?_
  rintro e w2 ⟨hA, k2⟩
  have HK2 := toHid (HK1.out.trans (k2.mono HK1.out.size))
  have HQ2 := toHid ((k2.block w.heap.size (by omega)).trans HQ1.out)
  have s2 : w.heap.size + 1 ≤ w2.heap.size := Nat.le_trans s1 k2.size
  clear v2 v3 v4 v10 k2 HK1 HQ1 s1
  obtain ⟨v2, v3, v4, v10⟩ := HS.out w2 w2 HQ2.out (Below.refl _ _)
  rcases hA with ⟨h1, rfl⟩ | ⟨h1, g, go, rfl⟩
  · have H2 := toHid h1
    clear h1
    go_wp2_with fail
    go_ret
    have hE : er = 5 := by rw [HER.out, addEE, if_pos (.inr H2.out)]
    exact ⟨by rw [hE]; rfl, Rest.of_below HK2.out, fun h => by rw [hE] at h; cases h⟩
  have H2 := toHid h1
  clear h1
  go_wp2_with fail
  refine (HYtebbjmjgojekdaaGreatDoor.out _).mono ?_
  rintro e w3 ⟨rfl, k3⟩
  have HK3 := toHid (HK2.out.trans (k3.mono HK2.out.size))
  have HQ3 := toHid ((k3.block w.heap.size (by omega)).trans HQ2.out)
  have s3 : w.heap.size + 1 ≤ w3.heap.size := Nat.le_trans s2 k3.size
  clear v2 v3 v4 v10 k3 HK2 HQ2 s2
  obtain ⟨v2, v3, v4, v10⟩ := HS.out w3 w3 HQ3.out (Below.refl _ _)
  have hno : ¬ (hasA S.N frm = false ∨ hasA S.N dst = false) := by
    rintro (h | h)
    · rw [H1.out] at h; cases h
    · rw [H2.out] at h; cases h
  have HNO := toHid hno
  clear hno
  cases hnm : nm name with
  | false =>
    go_wp2_with fail
    go_ret
    have hE : er = 6 := by rw [HER.out, addEE, if_neg HNO.out, if_pos hnm]
    exact ⟨by rw [hE]; rfl, Rest.of_below HK3.out, fun h => by rw [hE] at h; cases h⟩
  | true =>
  have HNM := toHid hnm
  go_wp2_with fail
  refine (HP.out _ (HK3.out.mono hB)).mono ?_
  rintro e w4 ⟨rfl, k4⟩
  have HK4 := toHid (HK3.out.trans (k4.mono HK3.out.size))
  have HQ4 := toHid ((k4.block w.heap.size (by omega)).trans HQ3.out)
  have s4 : w.heap.size + 1 ≤ w4.heap.size := Nat.le_trans s3 k4.size
  clear v2 v3 v4 v10 k4 HK3 HQ3 s3
  obtain ⟨v2, v3, v4, v10⟩ := HS.out w4 w4 HQ4.out (Below.refl _ _)
  have HWC := toHid (HW.out.below HK4.out)
  by_cases hz : eP = 0
  · subst hz
    have HX0 := toHid (HX.out rfl)
    obtain ⟨na, nc, ea, ec, ma, mc, PN, PE, PM, hw⟩ := HWC.out
    obtain ⟨el, hel⟩ : ∃ z, z = S.E.length := ⟨_, rfl⟩
    obtain ⟨nx, hnx⟩ : ∃ z, z = S.next := ⟨_, rfl⟩
    have hblk := hw.blk
    rw [← hel, ← hnx] at hblk
    have c0 := cell_of hblk 1
    simp at c0
    have HNL := toHid hel
    have HNX := toHid hnx
    rw [← hnx] at hn0
    have HFULL : Hid (Calls Tryz.prog 117 #[.pointer (some ⟨b, 0, none⟩)] w4 fun e w' => e = .returned (.bool (decide (1099511627776 ≤ nx))) ∧ w' = w4) := full_any b _ _ _ nx w4 hblk
    clear hblk hel hnx hw
    by_cases h40 : 60 ≤ el
    · have h40i : (60 : Int) ≤ el := by omega
      go_wp2_with fail
      go_ret
      have hE : er = 10 := by rw [HER.out, addEE, if_neg HNO.out, if_neg (by simp only; rw [HNM.out]; decide), if_neg (by simp), if_pos (.inl (by rw [← HNL.out]; exact h40))]
      exact ⟨by rw [hE]; rfl, Rest.of_below HK4.out, fun h => by rw [hE] at h; cases h⟩
    · have h40i : ¬ ((60 : Int) ≤ el) := by omega
      go_wp2_with fail
      refine HFULL.out.mono ?_
      rintro e w4 ⟨rfl, rfl⟩
      by_cases hfl : 1099511627776 ≤ nx
      · have hd : decide (1099511627776 ≤ nx) = true := by simp [hfl]
        go_wp2_with fail
        go_ret
        have hE : er = 10 := by rw [HER.out, addEE, if_neg HNO.out, if_neg (by simp only; rw [HNM.out]; decide), if_neg (by simp), if_pos (.inr (by rw [← HNX.out]; exact hfl))]
        exact ⟨by rw [hE]; rfl, Rest.of_below HK4.out, fun h => by rw [hE] at h; cases h⟩
      · have hd : decide (1099511627776 ≤ nx) = false := by simp [hfl]
        have hE : er = 0 := by
          rw [HER.out, addEE, if_neg HNO.out, if_neg (by simp only; rw [HNM.out]; decide), if_neg (by simp), if_neg]
          rintro (h | h)
          · rw [← HNL.out] at h; exact h40 h
          · rw [← HNX.out] at h; exact hfl h
        have HE0 := toHid hE
        clear hE
        have HNUM : Hid (∀ W, Below w4.heap.size w4 W → Calls Tryz.prog 118 #[.pointer (some ⟨b, 0, none⟩)] W fun e w' => e = .returned (.int .i64 nx) ∧ StepEnd O W w' b S.numbered) := fun W kW => by
          rw [HNX.out]
          exact number_any O b S W (HWC.out.below kW) hm (by rw [← HNX.out]; exact hn0) (by rw [← HNX.out]; omega)
        go_upto_region 10 with fail
        have D6 : Below w4.heap.size w4 w4.drew := (Below.refl _ _).drew
        have R0 : Rest O w4 w4.drew := Rest.of_below D6
        have nO : ¬ O w4.heap.size := fun q => Nat.lt_irrefl _ (HWC.out.lts _ q)
        have HSR : Hid (∀ W', Rest O w4 W' → W'.cell? ⟨w.heap.size, 2, none⟩ = some (.int .i64 frm) ∧ W'.cell? ⟨w.heap.size, 3, none⟩ = some (.int .i64 dst) ∧ W'.cell? ⟨w.heap.size, 4, none⟩ = some (.string name) ∧ W'.cell? ⟨w.heap.size, 10, none⟩ = some (.slice pa pl pc)) := fun W' r => by
          have hq : W'.heap[w.heap.size]? = w4.heap[w.heap.size]? := r.block _ (by omega) (fun q => Nat.lt_irrefl _ (HW.out.lts _ q))
          exact ⟨(cell_same hq 2).trans v2, (cell_same hq 3).trans v3, (cell_same hq 4).trans v4, (cell_same hq 10).trans v10⟩
        go_cut [6] (fun s6 wx => BoxCut O w4 b S.numbered #[.int .i64 nx, .int .i64 frm, .int .i64 dst, .string name, .slice pa pl pc] 47 s6 wx)
        case first =>
          go_region_held3 (fun w' => w'.cell? ⟨w.heap.size, 2, none⟩ = some (.int .i64 frm) ∧ w'.cell? ⟨w.heap.size, 3, none⟩ = some (.int .i64 dst) ∧ w'.cell? ⟨w.heap.size, 4, none⟩ = some (.string name) ∧ w'.cell? ⟨w.heap.size, 10, none⟩ = some (.slice pa pl pc))
            (first
              | with_reducible exact HSR.out _ R1
              | with_reducible exact HSR.out _ R0
              | with_reducible exact HSR.out _ (R0.alloc _)
              | with_reducible exact HSR.out _ (R1.alloc _)
              | exact HSR.out _ (((((R1.set ⟨w4.heap.size, 0, none⟩ (Nat.le_refl _) _).set ⟨w4.heap.size, 1, none⟩ (Nat.le_refl _) _).set ⟨w4.heap.size, 2, none⟩ (Nat.le_refl _) _).set ⟨w4.heap.size, 3, none⟩ (Nat.le_refl _) _).set ⟨w4.heap.size, 4, none⟩ (Nat.le_refl _) _)
              | go_keep)
            (first
              | (go_at_call 118; refine (HNUM.out _ (by first | exact D6 | exact D6.alloc (Nat.le_refl _) _)).mono ?_; rintro e u1 ⟨rfl, h1⟩; have R1 : Rest O w4 u1 := (by first | exact R0.trans h1.2 (fun _ _ q => q) | exact (R0.alloc _).trans h1.2 (fun _ _ q => q)); try (have hp := (h1.far (i := w4.heap.size) (by simp) nO).trans (alloc_new w4.drew _); have p0 := cell_of hp 0; have p1 := cell_of hp 1; have p2 := cell_of hp 2; have p3 := cell_of hp 3; have p4 := cell_of hp 4; have f0 := free_of hp 0; have f1 := free_of hp 1; have f2 := free_of hp 2; have f3 := free_of hp 3; have f4 := free_of hp 4; simp at p0 p1 p2 p3 p4)))
          all_goals
            go_wp2_with fail
            go_meet
            first
              | exact boxA h1 _ _
              | exact boxB HWC.out.lts h1 [.int .i64 nx, .int .i64 frm, .int .i64 dst, .string name, .slice pa pl pc] _ rfl
        case rest =>
          obtain ⟨p, O1, rfl, hp, hnp, hw1, hr1, ho1⟩ := hcut
          have HW1 := toHid hw1
          have HR1 := toHid hr1
          have HO1 := toHid ho1
          obtain ⟨na1, nc1, ea1, ec1, ma1, mc1, PN1, PE1, PM1, hwa⟩ := hw1
          obtain ⟨hob, L, hrow, hpair⟩ := hwa.es
          have hll : L.length = S.E.length := hpair.1
          have hblk1 : wc.heap[b]? = some (.cells #[.slice na1 S.N.length nc1, .slice ea1 S.E.length ec1, .int .i64 (S.next + 1), .slice ma1 (S.made ++ [S.next]).length mc1] 95 (0, 0)) := hwa.blk
          have hrow' : wc.ownsRow 0 47 5 (.slice ea1 S.E.length ec1) S.E.length (rowX L) := by
            have := hrow
            rw [hll] at this
            exact this
          have hbl : b < wc.heap.size := hwa.lt b hwa.ob
          have hgb : ∀ g, (Value.slice ea1 S.E.length ec1).ownBlock = some g → g ≠ b := fun g hg => (hwa.pe g (hob g hg)).2.1
          rw [← HNL.out] at hblk1 hrow' hgb
          have HBLK1 := toHid hblk1
          have HROW := toHid hrow'
          have HGB := toHid hgb
          have HPAIR := toHid hpair
          have HWA := toHid hwa
          have p0 := cell_of hp 0
          have p1 := cell_of hp 1
          have p2 := cell_of hp 2
          have p3 := cell_of hp 3
          have p4 := cell_of hp 4
          simp at p0 p1 p2 p3 p4
          have HND : Hid (∀ W, Below wc.heap.size wc W → Calls Tryz.prog 70 #[.agg #[.int .i64 nx, .int .i64 frm, .int .i64 dst, .string name, .slice pa pl pc]] W fun e w' => (∃ y : Ed, e = .returned (.agg #[.int .i64 y.id, .int .i64 y.frm, .int .i64 y.dst, .string y.typ, .slice y.pa y.pl y.pc]) ∧ EdOwn (fun i => W.heap.size ≤ i) w' y ⟨nx, frm, dst, name, X⟩) ∧ Below W.heap.size W w') := fun W kW => by
            have hx := HX0.out
            rw [HNX.out]
            have k1 : Below B w W := ((HK4.out.mono hB).trans (HR1.out.below (Nat.le_trans hB HK4.out.size) HO.out)).trans (kW.mono (Nat.le_trans hB (Nat.le_trans HK4.out.size HR1.out.size)))
            exact (edge_any ⟨S.next, frm, dst, name, P, pa, pl, pc⟩ ⟨S.next, frm, dst, name, X⟩ W (hx.2 W k1) hx.1).mono fun e w' ⟨⟨y, he, hy⟩, kk⟩ => ⟨⟨y, he, hy⟩, kk⟩
          obtain ⟨i0, hi0, hiz, his, hib⟩ := info_Edge
          have HI0 := toHid hi0
          have HIZ := toHid hiz
          have HIS := toHid his
          have HIB := toHid hib
          have HBy : (el + 1) * 64 ≤ 140737488355328 := by omega
          have HBm : el + 1 ≤ maxLen := by unfold maxLen; omega
          clear hi0 hiz his hib hp hnp hr1 ho1 hob hrow hpair hll hblk1 hrow' hgb hwa HSR nO R0 D6 v2 v3 v4 v10 c0 HNUM HFULL
          have c0 := cell_of HBLK1.out 1
          simp at c0
          have D7 : Below wc.heap.size wc wc.drew := (Below.refl _ _).drew
          go_upto_region 11 with fail
          go_region_law (first
            | (refine step_append_lies _ (by rfl) _ _ _ (by rfl) 0 47 i0 _ 5 64 Tryz.underlying23 HI0.out HIZ.out HIS.out HIB.out rfl (by omega) (.slice ea1 el ec1) el (rowX L) (by rfl) (hown2.alloc _) ⟨u2.heap.size, 0, none⟩ 1 1 [.int .i64 y.id, .int .i64 y.frm, .int .i64 y.dst, .string y.typ, .slice y.pa y.pl y.pc] (by rfl) (by rfl) (World.news_of_block (cs := #[.int .i64 y.id, .int .i64 y.frm, .int .i64 y.dst, .string y.typ, .slice y.pa y.pl y.pc]) (t := 47) (fr := (0, 0)) (alloc_new u2 _)) (by simp [Value.oneCell']) (by omega) HBm HBy (Nat.zero_le _) (u2.heap.size + 1) (by simp) ?_; intro gg cap w5 hown5 hgrow hat5 hlt5
               have hb5 : w5.heap[b]? = some (.cells #[.slice na1 S.N.length nc1, .slice ea1 el ec1, .int .i64 (S.next + 1), .slice ma1 (S.made ++ [S.next]).length mc1] 95 (0, 0)) := by
                 rw [hgrow.block b (by simp; omega) (fun e => HGB.out b e.symm rfl), Below.heap_alloc u2 _ b (by omega), k2.block b hbl]
                 exact HBLK1.out
               have d0 := cell_of hb5 1
               have f5 := free_of hb5 1
               simp at d0
               clear hb5)
            | (go_simp
               go_at_call 70
               refine (HND.out _ D7).mono ?_
               rintro e u2 ⟨⟨y, rfl, hy⟩, h2⟩
               have k2 : Below wc.heap.size wc u2 := D7.trans h2
               have hs2 : wc.heap.size ≤ u2.heap.size := k2.size
               have c0' : u2.cell? ⟨b, 1, none⟩ = some (.slice ea1 el ec1) := (k2.cell (p := ⟨b, 1, none⟩) hbl).trans c0
               have c0'' : ∀ o, (u2.alloc o).cell? ⟨b, 1, none⟩ = some (.slice ea1 el ec1) := fun o => by rw [cell_past _ _ _ _ (by omega)]; exact c0'
               have hown2 : u2.ownsRow 0 47 5 (.slice ea1 el ec1) el (rowX L) := row_keep HROW.out fun g _ hl => k2.block g hl))
          all_goals
            go_wp2_with fail
            go_ret
            have hnl := HNL.out
            have hnx := HNX.out
            subst hnl hnx
            have hst := BoxCut.step HW.out HK4.out HW.out.lts HR1.out HW1.out HO1.out (HWA.out.putE k2 hy _ HROW.out HPAIR.out hgrow hown5 hat5 hlt5)
            exact ⟨by rw [HE0.out]; rfl, hst.2, fun _ => hst⟩
  · have hz' : (eP != 0) = true := by simp [hz]
    go_wp2_with fail
    go_ret
    have hE : er = eP := by rw [HER.out, addEE, if_neg HNO.out, if_neg (by simp only; rw [HNM.out]; decide), if_pos hz]
    exact ⟨by rw [hE]; rfl, Rest.of_below HK4.out, fun h => absurd (hE ▸ h) hz⟩

mutual
theorem ordT_self : ∀ t : T, ordT t t = 0
  | .node k n s L => by rw [ordT_lex, cmpP_lex, cmpI_self, cmpI_self, cmpB_self, ordL_self L]; rfl
theorem ordL_self : ∀ L : List T, ordL L L = 0
  | [] => by unfold ordL; rfl
  | t :: ts => by rw [ordL_lex, ordT_self t, ordL_self ts]; rfl
end

theorem wtL_le (b : Nat) : ∀ L : List T, (∀ t ∈ L, wtT t ≤ b) → wtL L ≤ L.length * b + 1
  | [], _ => by simp [wtL]
  | t :: ts, h => by
    have h1 := wtL_le b ts (fun u hu => h u (List.mem_cons_of_mem _ hu))
    have h2 := h t (List.mem_cons_self ..)
    rw [wtL, List.length_cons, Nat.add_mul]
    omega

theorem ck_wt : ∀ (d : Nat) (t : T), Ck d t → wtT t ≤ 2 * 32 ^ d := by
  intro d
  induction d with
  | zero =>
    intro t h
    cases h <;> simp [wtT, wtL]
  | succ d ih =>
    intro t h
    have hp : 0 < 32 ^ d := Nat.pow_pos (by decide)
    have e : 2 * 32 ^ (d + 1) = 64 * 32 ^ d := by rw [Nat.pow_succ]; omega
    rw [e]
    cases h with
    | null => simp only [wtT, wtL]; omega
    | bool => simp only [wtT, wtL]; omega
    | int => simp only [wtT, wtL]; omega
    | text => simp only [wtT, wtL]; omega
    | list _ L h0 h1 =>
      have h2 := wtL_le (2 * 32 ^ d) L (fun t ht => ih t (h1 t ht))
      have h3 : L.length * (2 * 32 ^ d) ≤ 30 * (2 * 32 ^ d) := Nat.mul_le_mul_right _ h0
      simp only [wtT]
      omega

theorem ck_wtL {k n : Int} {s : ByteArray} {L : List T} (h : Ck 6 (.node k n s L)) : wtL L ≤ 1099511627776 := by
  have := ck_wt 6 _ h
  simp only [wtT] at this
  have e : 2 * 32 ^ 6 = 2147483648 := by decide
  omega

def PofEnd (P : List Pr) (name : ByteArray) (e : Ending) : Prop := (findP P name = none ∧ e = .returned zvV) ∨ ∃ p, findP P name = some p ∧ p ∈ P ∧ e = .returned (.agg #[.int .i64 p.k, .int .i64 p.n, .string p.s, .slice p.a p.l p.c])

/-- Two lists of one length, the same one by one. -/
def eqB {α β : Type} (r : α → β → Bool) : List α → List β → Bool
  | [], [] => true
  | x :: xs, y :: ys => r x y && eqB r xs ys
  | _, _ => false

theorem eqB_length {α β : Type} (r : α → β → Bool) : ∀ (X : List α) (Y : List β), X.length ≠ Y.length → eqB r X Y = false
  | [], [], h => absurd rfl h
  | [], _ :: _, _ => rfl
  | _ :: _, [], _ => rfl
  | x :: xs, y :: ys, h => by
    show (r x y && eqB r xs ys) = false
    rw [eqB_length r xs ys (fun e => h (by simp [e]))]
    simp

def sameP (x y : AP) : Bool := (x.name.toList == y.name.toList) && (ordT x.t y.t == 0)

def eqS (L M : List ByteArray) : Bool := eqB (fun x y => x.toList == y.toList) L M
def sameN (x y : AN) : Bool := (x.id == y.id) && (eqS x.labs y.labs && eqB sameP x.props y.props)
def sameE (x y : AE) : Bool := (x.id == y.id) && ((x.frm == y.frm) && ((x.dst == y.dst) && ((x.typ.toList == y.typ.toList) && eqB sameP x.props y.props)))

theorem lt_block {w : World} {b : Nat} {o : Obj} (h : w.heap[b]? = some o) : b < w.heap.size := (Array.getElem?_eq_some_iff.1 h).1

/-- Where the first one stands that is meant; -1: none. -/
def idxF {α : Type} (s : α → Bool) : Nat → List α → Int
  | _, [] => -1
  | i, y :: ys => if s y = true then (i : Int) else idxF s (i + 1) ys

theorem idxF_any {α : Type} (s : α → Bool) : ∀ (Y : List α) (i : Nat), (Y.any s = true ∧ 0 ≤ idxF s i Y) ∨ (Y.any s = false ∧ idxF s i Y = -1)
  | [], i => .inr ⟨rfl, rfl⟩
  | y :: ys, i => by
    unfold idxF
    by_cases h : s y = true
    · exact .inl ⟨by simp [h], by rw [if_pos h]; omega⟩
    · rw [if_neg h]
      rcases idxF_any s ys (i + 1) with ⟨h1, h2⟩ | ⟨h1, h2⟩
      · exact .inl ⟨by simp [h1], h2⟩
      · exact .inr ⟨by simp [h1]; simpa using h, h2⟩

/-- Those of A of which B has none the same. -/
def lackL {α : Type} (s : α → α → Bool) (A B : List α) : List α := A.filter fun x => !(B.any (s x))

theorem lackL_cons {α : Type} (s : α → α → Bool) (x : α) (A B : List α) : lackL s (x :: A) B = if B.any (s x) = true then lackL s A B else x :: lackL s A B := by
  unfold lackL
  rw [List.filter_cons]
  cases h : B.any (s x) <;> simp

def LackEndN (W w' : World) (X : List AN) (e : Ending) : Prop := ∃ v, e = .returned v ∧ ∃ N, w'.ownsRow W.heap.size 72 3 v N.length (rowN N) ∧ Pair2 (NdIn W) N X
def LackEndE (W w' : World) (X : List AE) (e : Ending) : Prop := ∃ v, e = .returned v ∧ ∃ N, w'.ownsRow W.heap.size 47 5 v N.length (rowX N) ∧ Pair2 (EdIn W) N X

/-- What lacks can be read. -/
theorem LackEndN.reads {W w' : World} {X : List AN} {e : Ending} (h : LackEndN W w' X e) (k : Below W.heap.size W w') : ∃ a c, e = .returned (.slice a X.length c) ∧ X.length ≤ c ∧ NsAt w' X a X.length := by
  obtain ⟨v, rfl, N, h1, h2⟩ := h
  obtain ⟨a, c, rfl, hc⟩ := slice_of_row h1
  have e1 := h2.1
  refine ⟨a, c, by rw [← e1], by omega, N, ?_, h2.mono fun p x _ _ hp => hp.below k⟩
  rw [← e1]
  exact row_nodes h1

theorem LackEndE.reads {W w' : World} {X : List AE} {e : Ending} (h : LackEndE W w' X e) (k : Below W.heap.size W w') : ∃ a c, e = .returned (.slice a X.length c) ∧ X.length ≤ c ∧ EsAt w' X a X.length := by
  obtain ⟨v, rfl, N, h1, h2⟩ := h
  obtain ⟨a, c, rfl, hc⟩ := slice_of_row h1
  have e1 := h2.1
  refine ⟨a, c, by rw [← e1], by omega, N, ?_, h2.mono fun p x _ _ hp => hp.below k⟩
  rw [← e1]
  refine row_edges h1 fun p hp => ?_
  obtain ⟨i, hi⟩ := List.getElem?_of_mem hp
  obtain ⟨x, _, hx⟩ := h2.left hi
  exact hx.2.2.2.2.1
end Go.Proofs.YtebbjmjgojekdaaGreatDoor
