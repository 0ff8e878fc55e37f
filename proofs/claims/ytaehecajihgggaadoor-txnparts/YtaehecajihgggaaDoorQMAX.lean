/-
  What is proved here: what the texts KLaw, GLaid prove, in one text.
-/
import Derived.Test.YtaehecajihgggaaDoorQMAW
import Derived.Test.YtaehecajihgggaaDoorPM
import Derived.Test.YtaehecajihgggaaDoorShelf
import Derived.PinnedBridge
import Derived.Lib.LaidU8T
import Derived.Lib.LaidTab
import Derived.Lay
namespace Go.Proofs.YtaehecajihgggaaDoor
open Go.RowKit
set_option linter.unusedVariables false

theorem Rt.other {S : WS} (h : Rt S) (m : List Int) : Rt ⟨S.N, S.E, S.next, m⟩ := ⟨h.n40, h.e60, h.nri, h.eri, h.pos, h.next, h.nid, h.eid, h.nds, h.eds⟩

theorem row_at0 {w : World} {B n size : Nat} {e : TypeId} {v : Value} {xs : List Value} (h : w.ownsRow B e size v n xs) {g : Nat} (hg : v.ownBlock = some g) : B ≤ g := by
  rcases h.2 with ⟨h0, _⟩ | ⟨g', cap, cur, h0, h1, h2, h3⟩
  · rw [h0] at hg; cases hg
  · rw [h0] at hg
    have hg : some g' = some g := hg
    injection hg with hg
    omega

theorem bset3 {B : Nat} {a u : World} (k : Below B a u) (p : Nat) (hp : B ≤ p) (v0 v1 v2 : Value) : Below B a (((u.setCell ⟨p, 0, none⟩ v0).setCell ⟨p, 1, none⟩ v1).setCell ⟨p, 2, none⟩ v2) :=
  ((k.setCell (p := ⟨p, 0, none⟩) hp v0).setCell (p := ⟨p, 1, none⟩) hp v1).setCell (p := ⟨p, 2, none⟩) hp v2

/-- The rest of operations, as the slice of them from a place on has them. -/
theorem ops_rest {w : World} {D : List OpD} {a : Option Addr} {l k c : Nat} (h : OpsAt w (D.map OpD.o) a l) (hk : k ≤ l) (hc : l ≤ c) (hD : D.length = l) : OpsAt w ((D.drop k).map OpD.o) (if c = k then a else a.map (·.add (k * 11))) (l - k) := by
  by_cases h0 : l - k = 0
  · have e : D.drop k = [] := List.drop_eq_nil_of_le (by omega)
    rw [e, h0]
    exact ⟨rfl, by omega, fun h => absurd h (Nat.lt_irrefl 0)⟩
  · rw [if_neg (by omega)]
    obtain ⟨b, off, ha, _⟩ := h.2.2 (by omega)
    subst ha
    have := h.rest hk
    by_cases hk0 : k = 0
    · subst hk0
      simpa [Addr.add] using this
    · have h11 : k * 11 ≠ 0 := by omega
      simpa [Addr.add, h11, hk0] using this

theorem ints_cells {w : World} {L : List Int} {a : Option Addr} {l : Nat} (h : IntsAt w L a l) : ∀ j u, (ints L)[j]? = some u → ∃ ad, a = some ad ∧ w.cell? (ad.add j) = some u := by
  intro j u hu
  rw [ints, List.getElem?_map] at hu
  obtain ⟨x, hx, rfl⟩ := Option.map_eq_some_iff.1 hu
  obtain ⟨b, off, ha, hb, hc⟩ := h.2.2 (by have := (List.getElem?_eq_some_iff.1 hx).1; have := h.1; omega)
  refine ⟨_, ha, ?_⟩
  have := hc j x hx
  by_cases hj : j = 0
  · subst hj; simpa [Addr.add] using this
  · simpa [Addr.add, hj] using this

set_option maxHeartbeats 16000000 in
set_option maxRecDepth 100000 in
theorem law_parts (N : List Nd) (E : List Ed) (na : Option Addr) (nl nc : Nat) (ea : Option Addr) (el ec : Nat) (nx : Int) (D : List OpD) (oa : Option Addr) (ol oc : Nat) (at' : Int) (B : Nat) (w : World) (hB : B ≤ w.heap.size) (hT : Tabs B w) (hG : GrOk w N E na nl ea el) (hops : OpsAt w (D.map OpD.o) oa ol) (hoc : ol ≤ oc) (hD : ∀ d ∈ D, OpIn w d ∧ OpRt d) :
    Calls Tryd.prog 3 #[.agg #[.slice na nl nc, .slice ea el ec, .int .i64 nx], .slice oa ol oc, .int .i64 at'] w fun e w' => e = .returned (.bool true) ∧ Below w.heap.size w w' := by
  have HT := toHid hT
  have HG := toHid hG
  have HOPS := toHid hops
  have HD := toHid hD
  have hl63 := hops.2.1
  clear hT hG hops hD
  have b0 : Below w.heap.size w (w.alloc (.cells #[.slice na nl nc, .slice ea el ec, .int .i64 nx] 25)) := (Below.refl _ _).alloc (Nat.le_refl _) _
  have hx := alloc_new w (.cells #[.slice na nl nc, .slice ea el ec, .int .i64 nx] 25)
  have HB := toHid b0
  have HX := toHid hx
  clear b0 hx
  go_enter Tryd.func3, Tryd.ntmps3
  go_wp2_with fail
  generalize w.alloc (.cells #[.slice na nl nc, .slice ea el ec, .int .i64 nx] 25) = W at HB HX ⊢
  go_loopg [22] ol (fun g s22 wr => ∃ (i : Nat), i ≤ ol ∧ ol - i ≤ g ∧ s22 = .int .i64 i ∧ (∀ (j : Nat) (d : OpD), j < i → D[j]? = some d → d.free) ∧ wr.heap[w.heap.size]? = some (.cells #[.slice na nl nc, .slice ea el ec, .int .i64 nx] 25 (0, 0)) ∧ Below w.heap.size w wr)
  case atStart => exact ⟨0, Nat.zero_le _, by omega, rfl, fun j d hj => absurd hj (Nat.not_lt_zero _), HX.out, HB.out⟩
  case round =>
    obtain ⟨i, hi, hg, rfl, hfr, hxr, hbr⟩ := hrel
    have HFR := toHid hfr
    have HXR := toHid hxr
    have HBR := toHid hbr
    have sr : w.heap.size < wr.heap.size := (Array.getElem?_eq_some_iff.1 hxr).1
    clear hfr hxr hbr HB HX
    by_cases hlt : i < ol
    · obtain ⟨ob, off, ha, hb, hc⟩ := HOPS.out.2.2 (by omega)
      subst ha
      have hDl : D.length = ol := by have := HOPS.out.1; rw [List.length_map] at this; exact this.symm
      obtain ⟨d, hd, _⟩ := drop_get (L := D) (i := i) (by omega)
      have ho : (D.map OpD.o)[i]? = some d.o := by rw [List.getElem?_map, hd]; rfl
      obtain ⟨c0, c1, c2, c3, c4, c5, c6, c7, c8, c9, c10⟩ := hc i d.o ho
      have q : ∀ x, wr.cell? ⟨ob, x, none⟩ = w.cell? ⟨ob, x, none⟩ := fun x => HBR.out.cell (p := ⟨ob, x, none⟩) hb
      have d0 := (q _).trans c0
      have d1 := (q _).trans c1
      have d2 := (q _).trans c2
      have d3 := (q _).trans c3
      have d4 := (q _).trans c4
      have d5 := (q _).trans c5
      have d6 := (q _).trans c6
      have d7 := (q _).trans c7
      have d8 := (q _).trans c8
      have d9 := (q _).trans c9
      have d10 := (q _).trans c10
      have hil : (i : Int) < ol := by omega
      have HDI := toHid hd
      obtain ⟨o, hoo⟩ : ∃ o, o = d.o := ⟨_, rfl⟩
      rw [← hoo] at d0 d1 d2 d3 d4 d5 d6 d7 d8 d9 d10
      have HOO := toHid hoo
      clear c0 c1 c2 c3 c4 c5 c6 c7 c8 c9 c10 q hc ho hd hoo
      have kA := HBR.out.alloc (Nat.le_of_lt sr) (.cells #[.int .i64 o.k, .int .i64 o.id, .int .i64 o.frm, .int .i64 o.dst, .string o.name, .int .i64 o.vk, .int .i64 o.vn, .string o.vs, .slice o.va o.vl o.vc, .slice o.la o.ll o.lc, .slice o.pa o.pl o.pc] 33)
      have xA := (Below.heap_alloc wr (.cells #[.int .i64 o.k, .int .i64 o.id, .int .i64 o.frm, .int .i64 o.dst, .string o.name, .int .i64 o.vk, .int .i64 o.vn, .string o.vs, .slice o.va o.vl o.vc, .slice o.la o.ll o.lc, .slice o.pa o.pl o.pc] 33) w.heap.size sr).trans HXR.out
      have HKA := toHid kA
      have HXA := toHid xA
      clear kA xA
      go_wp2_with fail
      all_goals first
        | (refine (changed_true _).mono ?_
           rintro e u1 ⟨rfl, k1⟩
           go_wp2_with fail
           go_ret
           exact ⟨rfl, HKA.out.trans (k1.mono HKA.out.size)⟩)
        | (go_roundg (ol - (i + 1))
           case measure => omega
           case rel =>
             refine ⟨i + 1, by omega, by omega, by go_num, fun j d' hj hd' => ?_, HXA.out, HKA.out⟩
             rcases Nat.lt_or_ge j i with h | h
             · exact HFR.out j d' h hd'
             · have e : j = i := by omega
               rw [e, HDI.out] at hd'
               injection hd' with hd'
               rw [← hd']
               show 0 ≤ d.o.id ∧ 0 ≤ d.o.frm ∧ 0 ≤ d.o.dst
               rw [← HOO.out]
               exact ⟨by omega, by omega, by omega⟩)
    · have hil : i = ol := by omega
      subst hil
      have c0 := cell_of HXR.out 0
      have c1 := cell_of HXR.out 1
      have c2 := cell_of HXR.out 2
      simp at c0 c1 c2
      obtain ⟨k, hk, hkk⟩ : ∃ k : Nat, k ≤ i ∧ (k : Int) = if at' < 0 ∨ (i : Int) < at' then ((i / 2 : Nat) : Int) else at' := by
        by_cases h : at' < 0 ∨ (i : Int) < at'
        · exact ⟨i / 2, Nat.div_le_self _ _, by rw [if_pos h]⟩
        · exact ⟨at'.toNat, by omega, by rw [if_neg h]; omega⟩
      have hq : Int.tdiv (i : Int) 2 = ((i / 2 : Nat) : Int) := by
        rw [Int.tdiv_eq_ediv_of_nonneg (by omega)]
        omega
      rcases apply_two B N E na nl nc ea el ec nx D oa i oc w HG.out HOPS.out HD.out with hno | ⟨h20, XN, XE, hN, hE, hR, h0⟩
      · have HNO := toHid hno
        clear hno
        have h3 : at' < 0 ∨ (¬ at' < 0 ∧ (i : Int) < at') ∨ (¬ at' < 0 ∧ ¬ (i : Int) < at') := by omega
        rcases h3 with hA | ⟨hA, hA2⟩ | ⟨hA, hA2⟩
        all_goals
          go_wp2_with fail
          refine (HNO.out _ HBR.out).mono ?_
          rintro e w1 ⟨⟨a1, er, hne, he⟩, k1⟩
          unfold zeroGr at he
          subst he
          have hne' : (er != 0) = true := by simp [hne]
          have k1' := HBR.out.trans (k1.mono (Nat.le_of_lt sr))
          have k2' := k1'.alloc k1'.size (.cells #[.slice none 0 0, .slice none 0 0, .int .i64 0] 25)
          have HK2 := toHid k2'
          clear k1 k1' k2'
          go_wp2_with fail
          refine (changed_true _).mono ?_
          rintro e w2 ⟨rfl, k2⟩
          have HK3 := toHid (HK2.out.trans (k2.mono HK2.out.size))
          clear k2
          go_wp2_with fail
          refine (changed_true _).mono ?_
          rintro e w3 ⟨rfl, k3⟩
          go_wp2_with fail
          go_ret
          exact ⟨rfl, HK3.out.trans (k3.mono HK3.out.size)⟩
      · have hDl : D.length = i := by have := HOPS.out.1; rw [List.length_map] at this; exact this.symm
        have hfree : ∀ d ∈ D, d.free := fun d hd => by
          obtain ⟨j, hj⟩ := List.getElem?_of_mem hd
          exact HFR.out j d (by have := (List.getElem?_eq_some_iff.1 hj).1; omega) hj
        obtain ⟨p1, p2, p3, p4⟩ := run_parts ⟨XN, XE, nx, []⟩ D hfree k (by omega) (by rw [hDl]; exact h0)
        have hR1 := run_right ⟨XN, XE, nx, []⟩ D hR (fun d hd => (HD.out d hd).2) k (by omega) fun j hj => h0 j (by omega)
        have hR0 := run_right ⟨XN, XE, nx, []⟩ D hR (fun d hd => (HD.out d hd).2) i (by omega) h0
        rw [hDl] at p3 p4
        obtain ⟨S1, hS1⟩ : ∃ S1, S1 = runS ⟨XN, XE, nx, []⟩ D k := ⟨_, rfl⟩
        rw [← hS1] at p2 p3 p4 hR1
        obtain ⟨S2, hS2⟩ : ∃ S2, S2 = runS ⟨S1.N, S1.E, S1.next, []⟩ (D.drop k) (i - k) := ⟨_, rfl⟩
        rw [← hS2] at p4
        rw [p4] at hR0
        have HA1 : Hid (∀ W, Below w.heap.size w W → Calls Tryd.prog 5 #[.agg #[.slice na nl nc, .slice ea el ec, .int .i64 nx], .slice oa i oc] W fun e w' => Done W.heap.size w' (S2.on S1.made) e ∧ Below W.heap.size W w') := fun W q => by
          have := apply_done B ⟨XN, XE, nx, []⟩ na nl nc ea el ec D oa i oc W (Nat.le_trans hB q.size) (HT.out.below (q.mono hB)) hR (hN.below q) (hE.below q) (HOPS.out.later q) h20 (fun d hd => ⟨(HD.out d hd).1.later q, (HD.out d hd).2⟩) h0
          rw [p4] at this
          exact this
        have HA2 : Hid (∀ W, Below w.heap.size w W → Calls Tryd.prog 5 #[.agg #[.slice na nl nc, .slice ea el ec, .int .i64 nx], .slice oa k oc] W fun e w' => Done W.heap.size w' S1 e ∧ Below W.heap.size W w') := fun W q => by
          have := apply_done B ⟨XN, XE, nx, []⟩ na nl nc ea el ec (D.take k) oa k oc W (Nat.le_trans hB q.size) (HT.out.below (q.mono hB)) hR (hN.below q) (hE.below q) ((HOPS.out.later q).first hk) (by omega) (fun d hd => ⟨(HD.out d (List.mem_of_mem_take hd)).1.later q, (HD.out d (List.mem_of_mem_take hd)).2⟩) p1
          rw [p2] at this
          exact this
        have HA3 : Hid (∀ W na1 nc1 ea1 ec1 oa1 oc1, Below w.heap.size w W → NsAt W S1.N na1 S1.N.length → EsAt W S1.E ea1 S1.E.length → OpsAt W ((D.drop k).map OpD.o) oa1 (i - k) → Calls Tryd.prog 5 #[.agg #[.slice na1 S1.N.length nc1, .slice ea1 S1.E.length ec1, .int .i64 S1.next], .slice oa1 (i - k) oc1] W fun e w' => Done W.heap.size w' S2 e ∧ Below W.heap.size W w') := fun W na1 nc1 ea1 ec1 oa1 oc1 q q1 q2 q3 => by
          have := apply_done B S1 na1 _ nc1 ea1 _ ec1 (D.drop k) oa1 (i - k) oc1 W (Nat.le_trans hB q.size) (HT.out.below (q.mono hB)) (hR1.other []) q1 q2 q3 (by omega) (fun d hd => ⟨(HD.out d (List.mem_of_mem_drop hd)).1.later q, (HD.out d (List.mem_of_mem_drop hd)).2⟩) p3
          rw [← hS2] at this
          exact this
        have HCK : Hid (∀ W na1 nc1 ea1 ec1, Below w.heap.size w W → NsAt W S2.N na1 S2.N.length → EsAt W S2.E ea1 S2.E.length → Calls Tryd.prog 6 #[.agg #[.slice na1 S2.N.length nc1, .slice ea1 S2.E.length ec1, .int .i64 S2.next]] W fun e w' => e = .returned (.int .i64 0) ∧ Below W.heap.size W w') := fun W na1 nc1 ea1 ec1 q q1 q2 => by
          obtain ⟨N', E', g1, g2⟩ := gr_back B (Nat.le_trans hB q.size) (HT.out.below (q.mono hB)) hR0 (S := S2.on S1.made) q1 q2
          have := check_ok g1 nc1 ec1 S2.next W (Below.refl _ _)
          rw [show gE N' E' S2.next = 0 from g2] at this
          exact this
        have HSG : Hid (∀ W na1 nc1 ea1 ec1 na2 nc2 ea2 ec2, NsAt W S2.N na1 S2.N.length → EsAt W S2.E ea1 S2.E.length → NsAt W S2.N na2 S2.N.length → EsAt W S2.E ea2 S2.E.length → Calls Tryd.prog 7 #[.agg #[.slice na1 S2.N.length nc1, .slice ea1 S2.E.length ec1, .int .i64 S2.next], .agg #[.slice na2 S2.N.length nc2, .slice ea2 S2.E.length ec2, .int .i64 S2.next]] W fun e w' => e = .returned (.bool true) ∧ Below W.heap.size W w') := fun W na1 nc1 ea1 ec1 na2 nc2 ea2 ec2 q1 q2 q3 q4 => by
          have := sameGraph_ref S2.N S2.N S2.E S2.E na1 _ nc1 ea1 _ ec1 S2.next na2 _ nc2 ea2 _ ec2 S2.next W q1 q2 q3 q4 hR0.nok hR0.eok hR0.nok hR0.eok
          rw [eqB_self _ sameN_self, eqB_self _ sameE_self] at this
          simpa using this
        have hml : (S2.on S1.made).made.length ≤ 20 := by
          have := run_made ⟨XN, XE, nx, []⟩ D i
          rw [p4, hDl] at this
          have e : (⟨XN, XE, nx, []⟩ : WS).made.length = 0 := rfl
          omega
        have HML := toHid hml
        clear p1 p2 p3 p4 hR1 hR0 hR hN hE h0 hS1 hS2 hml hfree HFR HD
        have hki : ((at' < 0 ∨ (i : Int) < at') → (i : Int) / 2 = k) ∧ (¬ (at' < 0 ∨ (i : Int) < at') → at' = k) := by
          constructor
          · intro h; rw [if_pos h] at hkk; omega
          · intro h; rw [if_neg h] at hkk; omega
        have HKI := toHid hki
        have HKL := toHid hk
        clear hkk hki hk
        go_upto_region 7 with fail
        go_cut [43] (fun s43 wx => s43 = .bool (decide (at' < 0 ∨ (i : Int) < at')) ∧ wx = wr)
        case first =>
          have h3 : at' < 0 ∨ (¬ at' < 0 ∧ (i : Int) < at') ∨ (¬ at' < 0 ∧ ¬ (i : Int) < at') := by omega
          rcases h3 with hA | ⟨hA, hA2⟩ | ⟨hA, hA2⟩
          · go_wp2_with fail
            go_meet
            exact ⟨congrArg Value.bool (decide_eq_true (p := at' < 0 ∨ (i : Int) < at') (.inl hA)).symm, rfl⟩
          · go_wp2_with fail
            go_meet
            exact ⟨congrArg Value.bool (decide_eq_true (p := at' < 0 ∨ (i : Int) < at') (.inr hA2)).symm, rfl⟩
          · go_wp2_with fail
            go_meet
            exact ⟨congrArg Value.bool (decide_eq_false (p := at' < 0 ∨ (i : Int) < at') (by omega)).symm, rfl⟩
        case rest =>
        obtain ⟨rfl, hwc⟩ := hcut
        replace hwc := hwc.symm
        subst hwc
        go_upto_if 43 with fail
        go_cut [2] (fun s2 wx => s2 = .int .i64 k ∧ wx = wr)
        case first =>
          by_cases hA : at' < 0 ∨ (i : Int) < at'
          · rw [decide_eq_true hA]
            have hz := HKI.out.1 hA
            go_wp2_with fail
            go_meet
            exact ⟨by rw [← hz], rfl⟩
          · rw [decide_eq_false hA]
            have hz := HKI.out.2 hA
            go_wp2_with fail
            go_meet
            exact ⟨by rw [← hz], rfl⟩
        case rest =>
          obtain ⟨rfl, hwc⟩ := hcut
          replace hwc := hwc.symm
          subst hwc
          go_wp2_with fail
          refine (HA1.out _ HBR.out).mono ?_
          rintro e w1 ⟨⟨na1, nc1, ea1, ec1, ma1, mc1, he, hlo⟩, k1⟩
          obtain ⟨q1, q2, q3, _⟩ := hlo w1 (Nat.le_refl _) fun _ _ _ => rfl
          clear hlo
          change NsAt w1 S2.N na1 S2.N.length at q1
          change EsAt w1 S2.E ea1 S2.E.length at q2
          change IntsAt w1 (S1.made ++ S2.made) ma1 _ at q3
          change e = .returned (.tuple #[.agg #[.slice na1 S2.N.length nc1, .slice ea1 S2.E.length ec1, .int .i64 S2.next], .slice ma1 _ mc1, .int .i64 0, .int .i64 0]) at he
          generalize (S2.on S1.made).made.length = ml at he q3 HML
          subst he
          have k1' := HBR.out.trans (k1.mono (Nat.le_of_lt sr))
          have x1 := (k1.block w.heap.size sr).trans HXR.out
          have s1 : w.heap.size < w1.heap.size := Nat.lt_of_lt_of_le sr k1.size
          have HQ := toHid (show NsAt w1 S2.N na1 S2.N.length ∧ EsAt w1 S2.E ea1 S2.E.length ∧ IntsAt w1 (S1.made ++ S2.made) ma1 ml from ⟨q1, q2, q3⟩)
          have HK1 := toHid k1'
          have HX1 := toHid x1
          clear k1 k1' x1 q1 q2 q3 c0 c1 c2 HBR HXR
          have kA := HK1.out.alloc HK1.out.size (.cells #[.slice na1 S2.N.length nc1, .slice ea1 S2.E.length ec1, .int .i64 S2.next] 25)
          have HKA := toHid kA
          clear kA
          go_wp2_with fail
          refine (changed_true _).mono ?_
          rintro e w2 ⟨rfl, k2⟩
          have hxb := alloc_new w1 (.cells #[.slice na1 S2.N.length nc1, .slice ea1 S2.E.length ec1, .int .i64 S2.next] 25)
          have kw1 : Below w1.heap.size w1 (w1.alloc (.cells #[.slice na1 S2.N.length nc1, .slice ea1 S2.E.length ec1, .int .i64 S2.next] 25)) := (Below.refl _ _).alloc (Nat.le_refl _) _
          have kw2 : Below w1.heap.size w1 w2 := kw1.trans (k2.mono kw1.size)
          have yV := (k2.block w1.heap.size (by simp)).trans hxb
          have xV := (kw2.block w.heap.size s1).trans HX1.out
          have kV := HK1.out.trans (kw2.mono (Nat.le_of_lt s1))
          have qV : NsAt w2 S2.N na1 S2.N.length ∧ EsAt w2 S2.E ea1 S2.E.length ∧ IntsAt w2 (S1.made ++ S2.made) ma1 ml := ⟨HQ.out.1.below kw2, HQ.out.2.1.below kw2, HQ.out.2.2.below kw2⟩
          have HYV := toHid yV
          have HXV := toHid xV
          have HKV := toHid kV
          have HQV := toHid qV
          clear hxb kw1 kw2 yV xV kV qV k2 HQ HX1 HK1 HKA
          generalize w1.heap.size = p1 at HYV s1 ⊢
          have hgl : w.heap.size < w2.heap.size := (Array.getElem?_eq_some_iff.1 HXV.out).1
          have x0 := cell_of HXV.out 0
          have x1 := cell_of HXV.out 1
          have x2 := cell_of HXV.out 2
          simp at x0 x1 x2
          have hkl := HKL.out
          have hkc : k ≤ oc := by omega
          have hkI : (k : Int) ≤ (oc : Int) := by omega
          have hk0 : (0 : Int) ≤ (k : Int) := by omega
          have D0 : Below w2.heap.size w2 w2.drew := (Below.refl _ _).drew
          have HS : Hid (∀ W' : World, Below w2.heap.size w2 W' → W'.cell? ⟨w.heap.size, 0, none⟩ = some (.slice na nl nc) ∧ W'.cell? ⟨w.heap.size, 1, none⟩ = some (.slice ea el ec) ∧ W'.cell? ⟨w.heap.size, 2, none⟩ = some (.int .i64 nx)) := fun W' kk => by
            have q : ∀ o, W'.cell? ⟨w.heap.size, o, none⟩ = _ := fun o => (kk.cell (p := ⟨w.heap.size, o, none⟩) hgl).trans (cell_of HXV.out o)
            exact ⟨q 0, q 1, q 2⟩
          go_upto_region 12 with fail
          go_cut [12, 13, 14] (fun s12 s13 s14 wx => ∃ p na2 nc2 ea2 ec2 ma2 mc2, s12 = .int .i64 0 ∧ s13 = .pointer (some ⟨p, 0, none⟩) ∧ s14 = .slice ma2 S1.made.length mc2 ∧ wx.heap[p]? = some (.cells #[.slice na2 S1.N.length nc2, .slice ea2 S1.E.length ec2, .int .i64 S1.next] 25 (0, 0)) ∧ w2.heap.size ≤ p ∧ NsAt wx S1.N na2 S1.N.length ∧ EsAt wx S1.E ea2 S1.E.length ∧ wx.ownsRow w2.heap.size 3 1 (.slice ma2 S1.made.length mc2) S1.made.length (ints S1.made) ∧ Below w2.heap.size w2 wx)
          case first =>
            go_region_held3 (fun W' => W'.cell? ⟨w.heap.size, 0, none⟩ = some (.slice na nl nc) ∧ W'.cell? ⟨w.heap.size, 1, none⟩ = some (.slice ea el ec) ∧ W'.cell? ⟨w.heap.size, 2, none⟩ = some (.int .i64 nx))
              (first
                | with_reducible exact HS.out _ k1
                | with_reducible exact HS.out _ D0
                | with_reducible exact HS.out _ (k1.alloc k1.size _)
                | with_reducible exact HS.out _ (D0.alloc (Nat.le_refl _) _)
                | with_reducible exact HS.out _ (bset3 k1 w2.heap.size (Nat.le_refl _) _ _ _)
                | with_reducible exact HS.out _ (bset3 (k1.alloc k1.size _) u1.heap.size k1.size _ _ _)
                | exact ⟨x0, x1, x2⟩
                | go_keep)
              (first
                | (go_at_call 5; go_fit (HA2.out w2.drew (HKV.out.trans (D0.mono HKV.out.size))); rintro e u1 ⟨⟨na2, nc2, ea2, ec2, ma2, mc2, rfl, r1⟩, h1⟩; have k1 : Below w2.heap.size w2 u1 := D0.trans h1)
                | (go_at_call 5; go_fit (HA2.out (w2.drew.alloc (.cells #[.slice none 0 0, .slice none 0 0, .int .i64 0] 25)) (HKV.out.trans ((D0.alloc (Nat.le_refl _) _).mono HKV.out.size))); rintro e u1 ⟨⟨na2, nc2, ea2, ec2, ma2, mc2, rfl, r1⟩, h1⟩; have k1 : Below w2.heap.size w2 u1 := (D0.alloc (Nat.le_refl _) _).trans (h1.mono (by simp)); have hp : u1.heap[w2.heap.size]? = some (.cells #[.slice none 0 0, .slice none 0 0, .int .i64 0] 25 (0, 0)) := (h1.block w2.heap.size (by simp)).trans (alloc_new w2.drew _); have p0 := cell_of hp 0; have p1 := cell_of hp 1; have p2 := cell_of hp 2; have f0 := free_of hp 0; have f1 := free_of hp 1; have f2 := free_of hp 2; simp at p0 p1 p2))
            all_goals
              go_wp2_with fail
              go_meet
            · have kx : Below w2.heap.size w2 (u1.alloc (.cells #[.slice na2 S1.N.length nc2, .slice ea2 S1.E.length ec2, .int .i64 S1.next] 25)) := k1.alloc k1.size _
              obtain ⟨r2, r3, _, r4⟩ := r1 (u1.alloc (.cells #[.slice na2 S1.N.length nc2, .slice ea2 S1.E.length ec2, .int .i64 S1.next] 25)) (by simp) fun j _ hj => Below.heap_alloc u1 _ j hj
              exact ⟨u1.heap.size, na2, nc2, ea2, ec2, ma2, mc2, rfl, rfl, rfl, alloc_new u1 _, k1.size, r2, r3, r4, kx⟩
            all_goals
              have eP : ∀ X : World, ((X.setCell ⟨w2.heap.size, 0, none⟩ (.slice na2 S1.N.length nc2)).setCell ⟨w2.heap.size, 1, none⟩ (.slice ea2 S1.E.length ec2)).setCell ⟨w2.heap.size, 2, none⟩ (.int .i64 S1.next) = putL X w2.heap.size 0 [.slice na2 S1.N.length nc2, .slice ea2 S1.E.length ec2, .int .i64 S1.next] := fun _ => rfl
              rw [eP]
              have EE := putL_here [.slice na2 S1.N.length nc2, .slice ea2 S1.E.length ec2, .int .i64 S1.next] 0 u1 _ hp
              have hbb : Below w2.heap.size w2 (putL u1 w2.heap.size 0 [.slice na2 S1.N.length nc2, .slice ea2 S1.E.length ec2, .int .i64 S1.next]) := k1.trans (putL_bel w2.heap.size _ _ u1)
              obtain ⟨r2, r3, _, r4⟩ := r1 (putL u1 w2.heap.size 0 [.slice na2 S1.N.length nc2, .slice ea2 S1.E.length ec2, .int .i64 S1.next]) (by rw [putL_size]; exact Nat.le_refl _) fun j hj _ => putL_other _ _ _ u1 j (by simp at hj; omega)
              exact ⟨w2.heap.size, na2, nc2, ea2, ec2, ma2, mc2, rfl, rfl, rfl, EE, Nat.le_refl _, r2, r3, row_up r4 (fun g hg => by have := row_at0 r4 hg; simp at this; omega), hbb⟩
          case rest =>
          obtain ⟨p, na2, nc2, ea2, ec2, ma2, mc2, rfl, rfl, rfl, hpx, hpl, r2, r3, r4, kx⟩ := hcut
          have hpg : p < wc.heap.size := (Array.getElem?_eq_some_iff.1 hpx).1
          have HPX := toHid hpx
          have HRX := toHid (show NsAt wc S1.N na2 S1.N.length ∧ EsAt wc S1.E ea2 S1.E.length ∧ wc.ownsRow w2.heap.size 3 1 (.slice ma2 S1.made.length mc2) S1.made.length (ints S1.made) from ⟨r2, r3, r4⟩)
          have HKX := toHid kx
          clear hpx r2 r3 r4 kx x0 x1 x2 HS D0 HA2 HA1
          generalize wc = wx at *
          have y0 := cell_of HPX.out 0
          have y1 := cell_of HPX.out 1
          have y2 := cell_of HPX.out 2
          simp at y0 y1 y2
          have E0 : Below wx.heap.size wx wx.drew := (Below.refl _ _).drew
          have HS2 : Hid (∀ W' : World, Below wx.heap.size wx W' → W'.cell? ⟨p, 0, none⟩ = some (.slice na2 S1.N.length nc2) ∧ W'.cell? ⟨p, 1, none⟩ = some (.slice ea2 S1.E.length ec2) ∧ W'.cell? ⟨p, 2, none⟩ = some (.int .i64 S1.next)) := fun W' kk => by
            have q : ∀ o, W'.cell? ⟨p, o, none⟩ = _ := fun o => (kk.cell (p := ⟨p, o, none⟩) hpg).trans (cell_of HPX.out o)
            exact ⟨q 0, q 1, q 2⟩
          have hops' : ∀ W, Below wx.heap.size wx W → OpsAt W ((D.drop k).map OpD.o) (if oc = k then oa else oa.map (·.add (k * 11))) (i - k) := fun W q => ops_rest (HOPS.out.later (HKV.out.trans ((HKX.out.trans (q.mono HKX.out.size)).mono HKV.out.size))) HKL.out hoc hDl
          have HOR := toHid hops'
          have HA4 : Hid (∀ W oa1 oc1, (if oc = k then oa else oa.map (·.add (k * 11))) = oa1 → Below wx.heap.size wx W → Calls Tryd.prog 5 #[.agg #[.slice na2 S1.N.length nc2, .slice ea2 S1.E.length ec2, .int .i64 S1.next], .slice oa1 (i - k) oc1] W fun e w' => Done W.heap.size w' S2 e ∧ Below W.heap.size W w') := fun W oa1 oc1 ho q => HA3.out W na2 nc2 ea2 ec2 oa1 oc1 (HKV.out.trans ((HKX.out.trans (q.mono HKX.out.size)).mono HKV.out.size)) (HRX.out.1.below q) (HRX.out.2.1.below q) (ho ▸ HOR.out W q)
          clear hops' HA3
          go_upto_region 13 with fail
          go_cut [16, 17, 19] (fun s16 s17 s19 wy => ∃ p3 na3 nc3 ea3 ec3 ma3 mc3, s16 = .pointer (some ⟨p3, 0, none⟩) ∧ s17 = .slice ma3 S2.made.length mc3 ∧ s19 = .int .i64 0 ∧ wy.heap[p3]? = some (.cells #[.slice na3 S2.N.length nc3, .slice ea3 S2.E.length ec3, .int .i64 S2.next] 25 (0, 0)) ∧ NsAt wy S2.N na3 S2.N.length ∧ EsAt wy S2.E ea3 S2.E.length ∧ IntsAt wy S2.made ma3 S2.made.length ∧ Below wx.heap.size wx wy)
          case first =>
            by_cases hock : oc = k
            · have HA5 : Hid (∀ W oc1, Below wx.heap.size wx W → Calls Tryd.prog 5 #[.agg #[.slice na2 S1.N.length nc2, .slice ea2 S1.E.length ec2, .int .i64 S1.next], .slice oa 0 oc1] W fun e w' => Done W.heap.size w' S2 e ∧ Below W.heap.size W w') := fun W oc1 q => by
                have := HA4.out W oa oc1 (if_pos hock) q
                rw [show i - k = 0 by omega] at this
                exact this
              subst hock
              go_region_held3 (fun W' => W'.cell? ⟨p, 0, none⟩ = some (.slice na2 S1.N.length nc2) ∧ W'.cell? ⟨p, 1, none⟩ = some (.slice ea2 S1.E.length ec2) ∧ W'.cell? ⟨p, 2, none⟩ = some (.int .i64 S1.next))
                (first
                  | with_reducible exact HS2.out _ k1
                  | with_reducible exact HS2.out _ E0
                  | with_reducible exact HS2.out _ (k1.alloc k1.size _)
                  | with_reducible exact HS2.out _ (E0.alloc (Nat.le_refl _) _)
                  | with_reducible exact HS2.out _ (bset3 k1 wx.heap.size (Nat.le_refl _) _ _ _)
                  | with_reducible exact HS2.out _ (bset3 (k1.alloc k1.size _) u1.heap.size k1.size _ _ _)
                  | exact ⟨y0, y1, y2⟩
                  | go_keep)
                (first
                  | (go_at_call 5; go_fit (HA5.out wx.drew _ E0); rintro e u1 ⟨⟨na3, nc3, ea3, ec3, ma3, mc3, rfl, r1⟩, h1⟩; have k1 : Below wx.heap.size wx u1 := E0.trans h1)
                  | (go_at_call 5; go_fit (HA5.out (wx.drew.alloc (.cells #[.slice none 0 0, .slice none 0 0, .int .i64 0] 25)) _ (E0.alloc (Nat.le_refl _) _)); rintro e u1 ⟨⟨na3, nc3, ea3, ec3, ma3, mc3, rfl, r1⟩, h1⟩; have k1 : Below wx.heap.size wx u1 := (E0.alloc (Nat.le_refl _) _).trans (h1.mono (by simp)); have hp : u1.heap[wx.heap.size]? = some (.cells #[.slice none 0 0, .slice none 0 0, .int .i64 0] 25 (0, 0)) := (h1.block wx.heap.size (by simp)).trans (alloc_new wx.drew _); have p0 := cell_of hp 0; have p1 := cell_of hp 1; have p2 := cell_of hp 2; have f0 := free_of hp 0; have f1 := free_of hp 1; have f2 := free_of hp 2; simp at p0 p1 p2))
              all_goals
                go_wp2_with fail
                go_meet
              · have kx : Below wx.heap.size wx (u1.alloc (.cells #[.slice na3 S2.N.length nc3, .slice ea3 S2.E.length ec3, .int .i64 S2.next] 25)) := k1.alloc k1.size _
                obtain ⟨r2, r3, r4, _⟩ := r1 (u1.alloc (.cells #[.slice na3 S2.N.length nc3, .slice ea3 S2.E.length ec3, .int .i64 S2.next] 25)) (by simp) fun j _ hj => Below.heap_alloc u1 _ j hj
                exact ⟨u1.heap.size, na3, nc3, ea3, ec3, ma3, mc3, rfl, rfl, rfl, alloc_new u1 _, r2, r3, r4, kx⟩
              all_goals
                have eP : ∀ X : World, ((X.setCell ⟨wx.heap.size, 0, none⟩ (.slice na3 S2.N.length nc3)).setCell ⟨wx.heap.size, 1, none⟩ (.slice ea3 S2.E.length ec3)).setCell ⟨wx.heap.size, 2, none⟩ (.int .i64 S2.next) = putL X wx.heap.size 0 [.slice na3 S2.N.length nc3, .slice ea3 S2.E.length ec3, .int .i64 S2.next] := fun _ => rfl
                rw [eP]
                have EE := putL_here [.slice na3 S2.N.length nc3, .slice ea3 S2.E.length ec3, .int .i64 S2.next] 0 u1 _ hp
                have hbb : Below wx.heap.size wx (putL u1 wx.heap.size 0 [.slice na3 S2.N.length nc3, .slice ea3 S2.E.length ec3, .int .i64 S2.next]) := k1.trans (putL_bel wx.heap.size _ _ u1)
                obtain ⟨r2, r3, r4, _⟩ := r1 (putL u1 wx.heap.size 0 [.slice na3 S2.N.length nc3, .slice ea3 S2.E.length ec3, .int .i64 S2.next]) (by rw [putL_size]; exact Nat.le_refl _) fun j hj _ => putL_other _ _ _ u1 j (by simp at hj; omega)
                exact ⟨wx.heap.size, na3, nc3, ea3, ec3, ma3, mc3, rfl, rfl, rfl, EE, r2, r3, r4, hbb⟩
            · have HA5 : Hid (∀ W oc1, Below wx.heap.size wx W → Calls Tryd.prog 5 #[.agg #[.slice na2 S1.N.length nc2, .slice ea2 S1.E.length ec2, .int .i64 S1.next], .slice (oa.map (·.add (k * 11))) (i - k) oc1] W fun e w' => Done W.heap.size w' S2 e ∧ Below W.heap.size W w') := fun W oc1 q => HA4.out W _ oc1 (if_neg hock) q
              go_region_held3 (fun W' => W'.cell? ⟨p, 0, none⟩ = some (.slice na2 S1.N.length nc2) ∧ W'.cell? ⟨p, 1, none⟩ = some (.slice ea2 S1.E.length ec2) ∧ W'.cell? ⟨p, 2, none⟩ = some (.int .i64 S1.next))
                (first
                  | with_reducible exact HS2.out _ k1
                  | with_reducible exact HS2.out _ E0
                  | with_reducible exact HS2.out _ (k1.alloc k1.size _)
                  | with_reducible exact HS2.out _ (E0.alloc (Nat.le_refl _) _)
                  | with_reducible exact HS2.out _ (bset3 k1 wx.heap.size (Nat.le_refl _) _ _ _)
                  | with_reducible exact HS2.out _ (bset3 (k1.alloc k1.size _) u1.heap.size k1.size _ _ _)
                  | exact ⟨y0, y1, y2⟩
                  | go_keep)
                (first
                  | (go_at_call 5; go_fit (HA5.out wx.drew _ E0); rintro e u1 ⟨⟨na3, nc3, ea3, ec3, ma3, mc3, rfl, r1⟩, h1⟩; have k1 : Below wx.heap.size wx u1 := E0.trans h1)
                  | (go_at_call 5; go_fit (HA5.out (wx.drew.alloc (.cells #[.slice none 0 0, .slice none 0 0, .int .i64 0] 25)) _ (E0.alloc (Nat.le_refl _) _)); rintro e u1 ⟨⟨na3, nc3, ea3, ec3, ma3, mc3, rfl, r1⟩, h1⟩; have k1 : Below wx.heap.size wx u1 := (E0.alloc (Nat.le_refl _) _).trans (h1.mono (by simp)); have hp : u1.heap[wx.heap.size]? = some (.cells #[.slice none 0 0, .slice none 0 0, .int .i64 0] 25 (0, 0)) := (h1.block wx.heap.size (by simp)).trans (alloc_new wx.drew _); have p0 := cell_of hp 0; have p1 := cell_of hp 1; have p2 := cell_of hp 2; have f0 := free_of hp 0; have f1 := free_of hp 1; have f2 := free_of hp 2; simp at p0 p1 p2))
              all_goals
                go_wp2_with fail
                go_meet
              · have kx : Below wx.heap.size wx (u1.alloc (.cells #[.slice na3 S2.N.length nc3, .slice ea3 S2.E.length ec3, .int .i64 S2.next] 25)) := k1.alloc k1.size _
                obtain ⟨r2, r3, r4, _⟩ := r1 (u1.alloc (.cells #[.slice na3 S2.N.length nc3, .slice ea3 S2.E.length ec3, .int .i64 S2.next] 25)) (by simp) fun j _ hj => Below.heap_alloc u1 _ j hj
                exact ⟨u1.heap.size, na3, nc3, ea3, ec3, ma3, mc3, rfl, rfl, rfl, alloc_new u1 _, r2, r3, r4, kx⟩
              all_goals
                have eP : ∀ X : World, ((X.setCell ⟨wx.heap.size, 0, none⟩ (.slice na3 S2.N.length nc3)).setCell ⟨wx.heap.size, 1, none⟩ (.slice ea3 S2.E.length ec3)).setCell ⟨wx.heap.size, 2, none⟩ (.int .i64 S2.next) = putL X wx.heap.size 0 [.slice na3 S2.N.length nc3, .slice ea3 S2.E.length ec3, .int .i64 S2.next] := fun _ => rfl
                rw [eP]
                have EE := putL_here [.slice na3 S2.N.length nc3, .slice ea3 S2.E.length ec3, .int .i64 S2.next] 0 u1 _ hp
                have hbb : Below wx.heap.size wx (putL u1 wx.heap.size 0 [.slice na3 S2.N.length nc3, .slice ea3 S2.E.length ec3, .int .i64 S2.next]) := k1.trans (putL_bel wx.heap.size _ _ u1)
                obtain ⟨r2, r3, r4, _⟩ := r1 (putL u1 wx.heap.size 0 [.slice na3 S2.N.length nc3, .slice ea3 S2.E.length ec3, .int .i64 S2.next]) (by rw [putL_size]; exact Nat.le_refl _) fun j hj _ => putL_other _ _ _ u1 j (by simp at hj; omega)
                exact ⟨wx.heap.size, na3, nc3, ea3, ec3, ma3, mc3, rfl, rfl, rfl, EE, r2, r3, r4, hbb⟩
          case rest =>
          obtain ⟨p3, na3, nc3, ea3, ec3, ma3, mc3, rfl, rfl, rfl, hp3, t2, t3, t4, ky⟩ := hcut
          clear y0 y1 y2 E0 HS2 HOR HA4
          generalize wc = wy at *
          have ky2 : Below w2.heap.size w2 wy := HKX.out.trans (ky.mono HKX.out.size)
          have kyw : Below w.heap.size w wy := HKV.out.trans (ky2.mono HKV.out.size)
          have hpl1 : p1 < w2.heap.size := (Array.getElem?_eq_some_iff.1 HYV.out).1
          have hp1y : wy.heap[p1]? = _ := (ky2.block p1 hpl1).trans HYV.out
          have hlt3 : p3 < wy.heap.size := (Array.getElem?_eq_some_iff.1 hp3).1
          have g1 := HQV.out.1.below ky2
          have g2 := HQV.out.2.1.below ky2
          have g3 := HQV.out.2.2.below ky2
          have g4 : wy.ownsRow w2.heap.size 3 1 (.slice ma2 S1.made.length mc2) S1.made.length (ints S1.made) := row_keep HRX.out.2.2 fun g _ hg => ky.block g hg
          have HG1 := toHid (show NsAt wy S2.N na1 S2.N.length ∧ EsAt wy S2.E ea1 S2.E.length ∧ IntsAt wy (S1.made ++ S2.made) ma1 ml from ⟨g1, g2, g3⟩)
          have HG4 := toHid g4
          have HT := toHid (show NsAt wy S2.N na3 S2.N.length ∧ EsAt wy S2.E ea3 S2.E.length ∧ IntsAt wy S2.made ma3 S2.made.length from ⟨t2, t3, t4⟩)
          have HP1 := toHid hp1y
          have HP3 := toHid hp3
          have HKY := toHid ky2
          have HKW := toHid kyw
          have HQ1 := toHid HQV.out.2.2
          clear g1 g2 g3 g4 t2 t3 t4 hp1y hp3 ky2 kyw ky HYV HRX HKX HPX HQV HXV
          have a0 := cell_of HP1.out 0
          have a1 := cell_of HP1.out 1
          have a2 := cell_of HP1.out 2
          simp at a0 a1 a2
          go_wp2_with fail
          refine (HCK.out wy na1 nc1 ea1 ec1 HKW.out HG1.out.1 HG1.out.2.1).mono ?_
          rintro e v1 ⟨rfl, kv1⟩
          have hp1v : v1.heap[p1]? = _ := (kv1.block p1 (Nat.lt_of_lt_of_le hpl1 HKY.out.size)).trans HP1.out
          have hp3v : v1.heap[p3]? = _ := (kv1.block p3 hlt3).trans HP3.out
          clear a0 a1 a2
          have a0 := cell_of hp1v 0
          have a1 := cell_of hp1v 1
          have a2 := cell_of hp1v 2
          have b0 := cell_of hp3v 0
          have b1 := cell_of hp3v 1
          have b2 := cell_of hp3v 2
          simp at a0 a1 a2 b0 b1 b2
          have HV1 := toHid kv1
          clear kv1 hp1v hp3v
          go_wp2_with fail
          refine (HSG.out v1 na1 nc1 ea1 ec1 na3 nc3 ea3 ec3 (HG1.out.1.below HV1.out) (HG1.out.2.1.below HV1.out) (HT.out.1.below HV1.out) (HT.out.2.1.below HV1.out)).mono ?_
          rintro e v2 ⟨rfl, kv2⟩
          clear a0 a1 a2 b0 b1 b2
          have kv : Below wy.heap.size wy v2 := HV1.out.trans (kv2.mono HV1.out.size)
          have hlen : (S1.made ++ S2.made).length = ml := HG1.out.2.2.1.symm
          have hml := HML.out
          rw [List.length_append] at hlen
          have hrow : v2.ownsRow w2.heap.size 3 1 (.slice ma2 S1.made.length mc2) S1.made.length (ints S1.made) := row_keep HG4.out fun g _ hg => kv.block g hg
          have HROW := toHid hrow
          have HI3 := toHid (HT.out.2.2.below kv)
          have HI1 := toHid (HG1.out.2.2.below kv)
          have HV := toHid kv
          clear kv kv2 hrow HV1
          have hb20 : S1.made.length + S2.made.length ≤ 20 := by omega
          have HB1 : S1.made.length + S2.made.length ≤ maxLen := by unfold maxLen; omega
          have HB2 : (S1.made.length + S2.made.length) * 8 ≤ 140737488355328 := by omega
          have hz2 : w2.heap.size ≤ v2.heap.size := Nat.le_trans HKY.out.size HV.out.size
          obtain ⟨i0, hi0, hiz, his, hib⟩ := infoI
          have HI0 := toHid hi0
          have HIZ := toHid hiz
          have HIS := toHid his
          have HIB := toHid hib
          clear hi0 hiz his hib
          have HNW : Hid (∀ j u, (ints S2.made)[j]? = some u → ∃ ad, ma3 = some ad ∧ v2.cell? (ad.add j) = some u) := ints_cells HI3.out
          have HONE : Hid (∀ u ∈ ints S2.made, u.oneCell' = true) := fun u hu => by
            obtain ⟨x, _, rfl⟩ := List.mem_map.1 hu
            rfl
          have HLN : Hid ((ints S2.made).length = S2.made.length * 1) := toHid (by simp [ints])
          go_wp2_with (at_builtin; refine BigFrame.wpList_want rfl fun K hK => wp_append_both _ _ _ 35 rfl w2.heap.size 3 i0 _ 1 8 Tryd.underlying35 HI0.out HIZ.out HIS.out HIB.out rfl (by omega) (.slice ma2 S1.made.length mc2) S1.made.length (ints S1.made) rfl HROW.out ma3 S2.made.length mc3 (ints S2.made) rfl HLN.out HNW.out HONE.out HB1 HB2 hz2 fun v' w5 o1 o2 o3 => hK _ _ ?_)
          have eI : ints S1.made ++ ints S2.made = ints (S1.made ++ S2.made) := by simp [ints]
          rw [eI, ← List.length_append] at o1
          obtain ⟨a5, c5, rfl, hi5⟩ := ints_of_row o1 (by rw [List.length_append]; omega)
          have kg : Below v2.heap.size v2 v2 := Below.refl _ _
          have k5 : Below w2.heap.size v2 w5 := (Below.refl _ _).grown o2 hz2 fun g hg => row_at0 HROW.out hg
          have hi1 : IntsAt w5 (S1.made ++ S2.made) ma1 ml := by
            exact HQ1.out.below (HKY.out.trans ((HV.out.mono HKY.out.size).trans k5))
          refine (equal_ints (S1.made ++ S2.made) (S1.made ++ S2.made) ma1 ml mc1 a5 _ c5 w5 hi1 hi5).mono ?_
          rintro e w6 ⟨rfl, k6⟩
          rw [decide_eq_true rfl]
          go_wp2_with fail
          go_ret
          exact ⟨rfl, (HKV.out.trans (((HKY.out.trans (HV.out.mono HKY.out.size)).trans k5).mono HKV.out.size)).trans (k6.mono (by have := HKV.out.size; have := k5.size; omega))⟩

open Go.RowKit Go.Lib
set_option linter.unusedVariables false

theorem accept_eq : (Rows.laid_unicode_utf8_acceptRanges : DataW Unit) = acceptData := by kernel_rfl
theorem first_eq : (Rows.laid_unicode_utf8_first : DataW Unit) = firstData := Pinned.utf8First_eq

theorem u8extra : U8Extra Tryd.prog Tryd.lays196_ren := ⟨by kernel_rfl, by kernel_rfl, by kernel_rfl, by kernel_rfl, by kernel_rfl, by kernel_rfl, by kernel_rfl⟩

theorem tabs_of {l : List (String × DataW Unit)} (hf : ("unicode/utf8.first", Rows.laid_unicode_utf8_first) ∈ l) (ha : ("unicode/utf8.acceptRanges", Rows.laid_unicode_utf8_acceptRanges) ∈ l) {W : World} (h : laidMet Tryd.prog l W) : Tabs W.heap.size W := by
  have h0 : Lib.Utf8Tabs 0 1 W := utf8Tabs_of_readsT (U8Types.of196 Tryd.lays196) u8extra
    (first_eq ▸ Lib.laidMet.reads h hf)
    (accept_eq ▸ Lib.laidMet.reads h ha)
  have b0 : 0 < W.heap.size := World.block_lt_of_cell? W _ (h0.1 0 (by decide))
  have b1 : 1 < W.heap.size := World.block_lt_of_cell? W _ (h0.2 0 (by decide)).1
  intro w' hb
  refine ⟨fun c hc => ?_, fun i hi => ⟨?_, ?_⟩⟩
  · rw [hb.cell (p := ⟨0, c, none⟩) b0]; exact h0.1 c hc
  · rw [hb.cell (p := ⟨1, 2 * i, none⟩) b1]; exact (h0.2 i hi).1
  · rw [hb.cell (p := ⟨1, 2 * i + 1, none⟩) b1]; exact (h0.2 i hi).2
end Go.Proofs.YtaehecajihgggaaDoor
